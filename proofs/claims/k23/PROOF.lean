import PyProof.Rows.All
import Wide.All
import OpenK.AllK
import Wide.FinOn
import HandS.ForExc
import PyProof.Rows.SortShellAny
import HandS.SetTxt0
import HandS.TupSets
import HandS.ForMost
import HandS.Walk
import HandS.IsInst
import HandS.IterVal
import HandS.Star
import HandS.Deep
import HandS.DictComp
import HandS.Zip
import HandS.ExcInit
import HandS.Nested
import KE.KExcSuper
import HandS.ExcField
import HandS.ExcIs
import KE.KExcIs
import HandS.WordsExc
import HandS.FStr
import HandS.Defaults
import HandS.CallSlots
import HandS.Wide
import HandS.Style
import HandS.OwnEq
import HandS.Property
import OpenK.KMeth
import OpenK.KOps
import KE.KOpsOwn
import KE.KOwnIter
import KE.KDictPairs
import HandS.Gcd
import PySem.Challenge.RW_shadowlinks_k23_ratios_and_sums
set_option Elab.async false
set_option linter.all false
set_option maxRecDepth 100000
/-! Sets of texts, made of a list or a tuple, and sorted: any texts, in whatever order the world walks them. -/
namespace Sx
open PySem PySem.Spec PyProof.Rows L2 PySem.Froz

/-! ### lists -/
/-- a list without twins whose members all stand in a list of the same length is that list in another order -/
theorem perm_of_sub : ∀ (l ks : List Str), l.Nodup → (∀ x, x ∈ l → x ∈ ks) → ks.length = l.length → l.Perm ks
  | [], ks, _, _, e => by
    have z : ks = [] := List.length_eq_zero_iff.mp e
    rw [z]
  | x :: l, ks, nd, sub, e => by
    obtain ⟨hx, nd'⟩ := List.nodup_cons.mp nd
    have hm : x ∈ ks := sub x List.mem_cons_self
    have p := List.perm_cons_erase hm
    have hl : (ks.erase x).length = l.length := by
      have q := p.length_eq
      simp only [List.length_cons] at q e
      omega
    refine ((perm_of_sub l (ks.erase x) nd' (fun y hy => ?_) hl).cons x).trans p.symm
    have hne : y ≠ x := fun z => hx (z ▸ hy)
    exact (List.mem_erase_of_ne hne).mpr (sub y (List.mem_cons_of_mem _ hy))

/-! ### the payload behind an add -/
theorem tail_ris {ep : Nat} {es : Array (Int × Value)} {t : SetTable} {d : Bool} (r : Ris t.place.toList) : Ris (tailTx ep es t d).2.2.place.toList := by
  unfold tailTx
  split
  · exact relayAll_ris t es _
  · exact r
theorem tail_led {ep : Nat} {es : Array (Int × Value)} {t : SetTable} {d : Bool} : (tailTx ep es t d).2.2.led = t.led := by
  unfold tailTx
  split
  · exact relayAll_led t es _
  · rfl
theorem add_ris {D : SD} (h : Int) (v : Value) (r : Ris D.2.2.place.toList) : Ris (addTx h v D).2.2.place.toList := by
  have r1 := layNew_ris D.2.2 D.1 h v r
  unfold addTx
  apply tail_ris
  split
  · exact r1
  · exact r1
theorem add_led {D : SD} (h : Int) (v : Value) : (addTx h v D).2.2.led = D.2.2.led := by
  have r1 := layNew_led D.2.2 D.1 h v
  unfold addTx
  rw [tail_led]
  split
  · exact r1
  · exact r1

/-- the set of the texts l stands at a -/
def SetX (P : Program) (w : World) (h : Heap) (a : Addr) (l : List Str) : Prop :=
  ∃ D : SD, h.get? a = some (sObj "set" D) ∧ TxOk P w D l ∧ l.Nodup ∧ Ris D.2.2.place.toList ∧ (w.params.followText "set-order" = true ∨ D.2.2.led = true)

section
variable {P : Program} {w : World} {A : Around} {E : Value → Shared → Prop} {s : Shared}

theorem SetX.at {h h' : Heap} {a : Addr} {l : List Str} (R : SetX P w h a l) (k : ∀ o, h.get? a = some o → h'.get? a = some o) : SetX P w h' a l := by
  obtain ⟨D, ho, r⟩ := R
  exact ⟨D, k _ ho, r⟩
theorem setX_fresh {h : Heap} {a : Addr} (ho : h.get? a = some { cls := .type "set", dict := none, data := .set #[] 0 (.fresh 0 0 (!w.params.followText "set-order")) }) : SetX P w h a [] := by
  refine ⟨(#[], 0, .fresh 0 0 (!w.params.followText "set-order")), ho, TxOk.nil rfl, List.nodup_nil, List.Pairwise.nil, ?_⟩
  show _ ∨ (!w.params.followText "set-order") = true
  cases w.params.followText "set-order"
  · exact .inr rfl
  · exact .inl rfl

/-- one text more, new or there already -/
theorem add_any {a : Addr} {l : List Str} {k : Str} {u : Tok} {Q : Bool → Shared → Prop} (R : SetX P w s.heap a l) (hb : l.length + 1 < scanBound)
    (hQ : ∀ b h' l', Heap.SameBut a s.heap h' → SetX P w h' a l' → (∀ x, x ∈ l' ↔ x = k ∨ x ∈ l) → l'.length ≤ l.length + 1 → Q b { s with heap := h' }) :
    wpAny (model P w) A (setAddHashed a (.str k u) (hashStr w k)) Q E s := by
  obtain ⟨D, ho, F, nd, r, hl⟩ := R
  rcases Classical.em (k ∈ l) with hk | hk
  · obtain ⟨es, ep, t⟩ := D
    have hd : (sObj "set" (es, ep, t)).data = .set es ep t := rfl
    have hf : t.fits es.size = true := F.fit
    have hel : ElemsOf (PySem.strKind P w) es.toList := F.el
    have hb0 : es.size < scanBound := by
      have z : es.size = l.length := F.sz
      omega
    have hkey : (PySem.strKind P w).is k (.str k u) = true := is_str k u
    unfold setAddHashed setAddHashedIn
    refine wpAny_holding (wpAny_bind (wpAny_setState_of ho hd hf ?_))
    dsimp only
    rw [byScan_of rfl hb0 hel]
    simp only [↓reduceIte]
    unfold setAddByScan
    refine wpAny_bind ?_
    refine wpAny_bind (wpAny_rule ?_)
    refine wpAny_bind (wpAny_setScan_of (knd := PySem.strKind P w) (k := k) hkey ho hd hf hel ?_)
    cases hfi : List.findIdx? (fun e => (PySem.strKind P w).is k e.2) es.toList with
    | none =>
      obtain ⟨e, he, q⟩ := (F.mem k).mp hk
      have c := List.findIdx?_eq_none_iff.mp hfi e he
      rw [q] at c
      cases c
    | some j =>
      dsimp only
      refine wpAny_pure (wpAny_pure ?_)
      exact hQ _ s.heap l (Heap.SameBut.refl a s.heap) ⟨(es, ep, t), ho, F, nd, r, hl⟩ (fun x => ⟨.inr, fun z => z.elim (fun e => e ▸ hk) id⟩) (Nat.le_succ _)
  · refine add_x ho F hk hb (hQ _ _ (k :: l) (Heap.SameBut.update s.heap a _) ⟨_, get_upd _ ho rfl, add_ok u F, List.nodup_cons.mpr ⟨hk, nd⟩, add_ris _ _ r, ?_⟩ (fun x => List.mem_cons) (Nat.le_refl _))
    exact hl.imp id fun z => by
      rw [add_led]
      exact z
end

/-! ### set(xs): the loop -/
section
variable {P : Program} {w : World} {A : Around} {R : Result → Shared → Prop} {I : Addr} {fp wr : List Addr} {G : Array GenState → Array GenState → Prop} {n : Nat} {Pv : Nat → Value → Prop} {St : Nat → Shared → Prop}
theorem fill_loop (W : WalksS P w A.in1 I fp wr G n Pv St) (S : Addr) (hSf : S ∉ fp) (xs : List Str) (hn : xs.length = n) (hval : ∀ i v, Pv i v → ∃ t, v = .str (xs.getD i Str.empty) t) (hb : n + 1 < scanBound) :
    ∀ (k i : Nat) (s : Shared) (l : List Str), n - i = k → i ≤ n → St i s → SetX P w s.heap S l → (∀ x, x ∈ l ↔ x ∈ xs.take i) → l.length ≤ i →
      (∀ s' l', Moved (S :: wr) G s s' → SetX P w s'.heap S l' → (∀ x, x ∈ l' ↔ x ∈ xs) → l'.length ≤ n → R (.ok (.ret .none)) s') →
      codeAny (model P w) A (.builtin "set.update.loop" ⟨[.ref S, .ref I], []⟩) R s := by
  have hSw : S ∉ wr := fun h => hSf (W.sub _ h)
  have hsub : ∀ b ∈ wr, b ∈ S :: wr := fun b hb => List.mem_cons_of_mem _ hb
  intro k
  induction k with
  | zero =>
    intro i s l hk hi hst hS hm hlen hR
    have hin : i = n := by omega
    subst hin
    refine codeAny_builtin PyProof.Rows.F.entry_set_update_loop ?_
    rw [Around.under_plainId PyProof.Rows.F.plain_set_update_loop _]
    show wpAny _ A.in1 (pyNext (.ref I) >>= _) _ _ s
    refine wpAny_bind (W.done s _ _ hst fun s' hmv => ?_)
    show wpAny _ A.in1 (ret Value.none) _ _ s'
    refine wpAny_pure (hR s' l (hmv.mono hsub) (hS.at fun o e => hmv.heap S o hSw e) (fun x => ?_) hlen)
    rw [hm x, ← hn, List.take_length]
  | succ k ih =>
    intro i s l hk hi hst hS hm hlen hR
    have hlt : i < n := by omega
    refine codeAny_builtin PyProof.Rows.F.entry_set_update_loop ?_
    rw [Around.under_plainId PyProof.Rows.F.plain_set_update_loop _]
    show wpAny _ A.in1 (pyNext (.ref I) >>= _) _ _ s
    refine wpAny_bind (W.item i s _ _ hlt hst fun v s' hP hst' hmv => ?_)
    obtain ⟨t, rfl⟩ := hval i v hP
    have hS' : SetX P w s'.heap S l := hS.at fun o e => hmv.heap S o hSw e
    show wpAny _ A.in1 (holding [Value.str (xs.getD i Str.empty) t] (setAdd S (.str (xs.getD i Str.empty) t)) >>= _) _ _ s'
    refine wpAny_bind (wpAny_holding ?_)
    unfold setAdd
    refine wpAny_holding ?_
    refine wpAny_bind ((PySem.strKind P w).pyHash (k := xs.getD i Str.empty) (strKind_is _ _ _ _) ?_)
    have hroom : l.length + 1 < scanBound := by omega
    refine add_any (s := { s' with toks := s'.toks + 1 }) hS' hroom fun b h' l' hsb hS2 hm2 hl2 => ?_
    have hix : i < xs.length := by omega
    have eg : xs.getD i Str.empty = xs[i] := by
      rw [List.getD_eq_getElem?_getD, List.getElem?_eq_getElem hix]
      rfl
    have hm3 : ∀ x, x ∈ l' ↔ x ∈ xs.take (i + 1) := fun x => by
      rw [hm2 x, List.take_succ, List.getElem?_eq_getElem hix, eg]
      show _ ↔ x ∈ xs.take i ++ [xs[i]]
      rw [List.mem_append, List.mem_singleton, hm x]
      exact Or.comm
    refine wpAny_pure ⟨plainId_quiet PyProof.Rows.F.plain_set_update_loop _, ih (i + 1) _ l' (by omega) hlt (W.frame _ s' _ _ hst' (Nat.le_succ _) fun b hb o e => ?_) hS2 hm3 (by omega) fun s'' l'' hmv'' hS'' hm'' hl'' => ?_⟩
    · rw [hsb.2 b (fun h : b = S => hSf (by rw [← h]; exact hb))]
      exact e
    · refine hR s'' l'' (Moved.trans W.gtrans ((hmv.mono hsub).then_heap (Nat.le_succ _) fun b o hb e => ?_) hmv'') hS'' hm'' hl''
      rw [hsb.2 b (fun h : b = S => hb (by rw [h]; exact List.mem_cons_self))]
      exact e
end

/-! ### set(xs): the call -/
section
variable {P : Program} {w : World} {A : Around} {E : Value → Shared → Prop} {s : Shared}
abbrev emptyObj (w : World) : Obj := { cls := .type "set", dict := none, data := .set #[] 0 (.fresh 0 0 (!w.params.followText "set-order")) }
theorem str_at {us : List Value} {xs : List Str} (h : StrsAre us xs) : ∀ (i : Nat) (v : Value), us[i]? = some v → ∃ t, v = .str (xs.getD i Str.empty) t := by
  induction h with
  | nil =>
    intro i v e
    cases e
  | cons y t h ih =>
    intro i v e
    cases i with
    | zero =>
      have q : Value.str y t = v := Option.some.inj e
      exact ⟨t, q.symm⟩
    | succ i => exact ih i v e

set_option maxRecDepth 100000 in
set_option maxHeartbeats 4000000 in
/-- set(xs), xs a list or a tuple of texts -/
theorem call_set {l : Addr} {items : Array Value} {xs : List Str} {Q : Value → Shared → Prop} (hh : A.handled = none) (hl : s.heap.IsList l items ∨ s.heap.IsTuple l items) (hi : StrsAre items.toList xs) (hb : xs.length + 1 < scanBound)
    (h : ∀ (h' : Heap) (tk : Nat) (ys : List Str), SetX P w h' s.heap.objs.size ys → (∀ x, x ∈ ys ↔ x ∈ xs) → ys.length ≤ xs.length → (∀ b o, s.heap.get? b = some o → h'.get? b = some o) → Q (.ref s.heap.objs.size) { s with heap := h', toks := tk }) :
    wpAny (model P w) A (call (.type "set") [.ref l]) Q E s := by
  have hisz : xs.length = items.size := by rw [← StrsAre.len_eq hi, Array.length_toList]
  have hval : ∀ (i : Nat) (v : Value), items[i]? = some v → ∃ t, v = .str (xs.getD i Str.empty) t := fun i v hv => str_at hi i v (by rw [Array.getElem?_toList]; exact hv)
  obtain ⟨c, tl, hmro⟩ := PySem.F.called_set.mro
  have hmade := PySem.F.called_set.made
  have hsub := PySem.F.called_set.sub
  refine wpAny_call (codeAny_of_tree ?_)
  show wpAny _ _ (callAny (.type "set") _) _ _ _
  refine wpAny_pure ⟨Code.quiet_builtin _ (by decide +kernel), codeAny_builtin PySem.F.entry_type_call ?_⟩
  rw [Around.under_plain (weight_type_call_type "set" [.ref l] []) rfl]
  have h1 := PySem.F.called_set.notType
  have h2 := PySem.F.called_set.canCreate
  have hct := PySem.F.typeCall_set_1 (.ref l)
  repeat (any_goals (first | assumption | wp_step))
  refine codeAny_mono (code_set_led1 (.ref l) (E := E) (Q₁ := fun obj s₁ => obj = .ref s.heap.objs.size ∧ s₁ = { s with heap := s.heap.push (emptyObj w) }) ⟨rfl, rfl⟩) fun r s₁ hr => ?_
  cases r with
  | error e => exact hr
  | ok fl =>
    cases fl with
    | ret obj =>
      obtain ⟨rfl, rfl⟩ := hr
      have hS : (s.heap.push (emptyObj w)).get? s.heap.objs.size = some (emptyObj w) := Heap.get?_push_size _ rfl
      have hT : Shared.TypeIs { s with heap := s.heap.push (emptyObj w) } (.ref s.heap.objs.size) "set" := ⟨_, hS, rfl⟩
      have hli := PySem.F.called_set.init.lookup
      have hbi := PySem.F.called_set.init.bind (.ref s.heap.objs.size)
      repeat (any_goals (first | assumption | wp_step))
      refine codeAny_mono (codeAny_call_builtin (R := wants (fun r s₂ => r = .none ∧ ∃ h' tk ys, s₂ = { s with heap := h', toks := tk } ∧ SetX P w h' s.heap.objs.size ys ∧ (∀ x, x ∈ ys ↔ x ∈ xs) ∧ ys.length ≤ xs.length ∧
          (∀ b o, s.heap.get? b = some o → h'.get? b = some o)) E) PySem.F.called_set.init.plain PySem.F.entry_set_init (check_set_init_1 hT ?_)) fun r₂ s₂ hr₂ => ?_
      · have hh3 : A.in1.in1.in1.handled = none := by simp [hh]
        have hz1 : (s.heap.push (emptyObj w)).objs.size = s.heap.objs.size + 1 := Heap.size_push ..
        rcases hl with hl | hl
        · obtain ⟨ol, hol, hcl, nl, hdl⟩ := hl
          obtain ⟨ocls, odict, odata, oslots⟩ := ol
          simp only at hcl hdl
          subst hcl; subst hdl
          have hol' : (s.heap.push (emptyObj w)).get? l = some { cls := .type "list", dict := odict, data := .seq items nl, slots := oslots } := Heap.get?_push_of_some _ hol
          have hsls := PySem.F.sub_list_set
          have hslf := PySem.F.sub_list_frozenset
          have hne : (Value.type "list" == Value.type "dict") = false := by decide
          have hl1 : (s.heap.push (emptyObj w)).IsList l items := ⟨_, hol', rfl, nl, rfl⟩
          unfold Builtin.«set.__init__» noKeywords Builtin.Frozenset.updateFrom
          generalize hPI : pyIter = PI
          wp_walk
          subst hPI
          refine wpAny_pyIter_list hl1 ?_
          refine wpAny_bind (wpAny_runValue ?_)
          have hlS : l < s.heap.objs.size := Heap.lt_size hol
          have hneI : l ≠ (s.heap.push (emptyObj w)).objs.size := by
            rw [hz1]
            exact Nat.ne_of_lt (Nat.lt_succ_of_lt hlS)
          have hSf : s.heap.objs.size ∉ [(s.heap.push (emptyObj w)).objs.size, l] := by
            simp only [List.mem_cons, List.mem_singleton, List.not_mem_nil, or_false, not_or]
            rw [hz1]
            exact ⟨Nat.ne_of_lt (Nat.lt_succ_self _), Nat.ne_of_gt hlS⟩
          have hget : ((s.heap.push (emptyObj w)).push { cls := .type "list_iterator", data := .fields #[.ref l, .int 0 0] }).get? s.heap.objs.size = some (emptyObj w) := Heap.get?_push_of_some _ hS
          refine fill_loop ((Walks.list hh3 _ l hneI items).toS) s.heap.objs.size hSf xs hisz hval (by omega) (items.size - 0) 0 _ [] (by omega) (Nat.zero_le _)
            ⟨⟨_, Heap.get?_push_size _ rfl, rfl, rfl⟩, (hl1.push _)⟩ (setX_fresh hget) (fun x => Iff.rfl) (Nat.le_refl _) ?hR
          case hR =>
            intro s' ys hm hS' hmm hlen
            obtain ⟨h', g', d', tk', os'⟩ := s'
            have eg : g' = s.gens := hm.gens
            have ed : d' = s.drawn := hm.drawn
            have eo : os' = s.os := hm.os
            subst eg; subst ed; subst eo
            show wpAny _ _ _ _ _ _
            refine wpAny_pure ?_
            show wpAny _ _ (ret Value.none) _ _ _
            refine wpAny_pure ⟨rfl, h', tk', ys, rfl, hS', hmm, by omega, fun b o e => ?_⟩
            have hb0 : b < s.heap.objs.size := Heap.lt_size e
            refine hm.heap b o ?_ (Heap.get?_push_of_some _ (Heap.get?_push_of_some _ e))
            simp only [List.mem_cons, List.mem_singleton, List.not_mem_nil, or_false, not_or]
            rw [hz1]
            exact ⟨Nat.ne_of_lt hb0, Nat.ne_of_lt (Nat.lt_succ_of_lt hb0)⟩
        · obtain ⟨ol, hol, hcl, nl, hdl⟩ := hl
          obtain ⟨ocls, odict, odata, oslots⟩ := ol
          simp only at hcl hdl
          subst hcl; subst hdl
          have hol' : (s.heap.push (emptyObj w)).get? l = some { cls := .type "tuple", dict := odict, data := .seq items nl, slots := oslots } := Heap.get?_push_of_some _ hol
          have hsls := PySem.F.sub_tuple_set
          have hslf := PySem.F.sub_tuple_frozenset
          have hne : (Value.type "tuple" == Value.type "dict") = false := by decide
          have hl1 : (s.heap.push (emptyObj w)).IsTuple l items := ⟨_, hol', rfl, nl, rfl⟩
          unfold Builtin.«set.__init__» noKeywords Builtin.Frozenset.updateFrom
          generalize hPI : pyIter = PI
          wp_walk
          subst hPI
          refine wpAny_pyIter_tuple hl1 ?_
          refine wpAny_bind (wpAny_runValue ?_)
          have hlS : l < s.heap.objs.size := Heap.lt_size hol
          have hneI : l ≠ (s.heap.push (emptyObj w)).objs.size := by
            rw [hz1]
            exact Nat.ne_of_lt (Nat.lt_succ_of_lt hlS)
          have hSf : s.heap.objs.size ∉ [(s.heap.push (emptyObj w)).objs.size, l] := by
            simp only [List.mem_cons, List.mem_singleton, List.not_mem_nil, or_false, not_or]
            rw [hz1]
            exact ⟨Nat.ne_of_lt (Nat.lt_succ_self _), Nat.ne_of_gt hlS⟩
          have hget : ((s.heap.push (emptyObj w)).push { cls := .type "tuple_iterator", data := .fields #[.ref l, .int 0 0] }).get? s.heap.objs.size = some (emptyObj w) := Heap.get?_push_of_some _ hS
          refine fill_loop ((Walks.tuple hh3 _ l hneI items).toS) s.heap.objs.size hSf xs hisz hval (by omega) (items.size - 0) 0 _ [] (by omega) (Nat.zero_le _)
            ⟨⟨_, Heap.get?_push_size _ rfl, rfl, rfl⟩, (hl1.push _)⟩ (setX_fresh hget) (fun x => Iff.rfl) (Nat.le_refl _) ?hR
          case hR =>
            intro s' ys hm hS' hmm hlen
            obtain ⟨h', g', d', tk', os'⟩ := s'
            have eg : g' = s.gens := hm.gens
            have ed : d' = s.drawn := hm.drawn
            have eo : os' = s.os := hm.os
            subst eg; subst ed; subst eo
            show wpAny _ _ _ _ _ _
            refine wpAny_pure ?_
            show wpAny _ _ (ret Value.none) _ _ _
            refine wpAny_pure ⟨rfl, h', tk', ys, rfl, hS', hmm, by omega, fun b o e => ?_⟩
            have hb0 : b < s.heap.objs.size := Heap.lt_size e
            refine hm.heap b o ?_ (Heap.get?_push_of_some _ (Heap.get?_push_of_some _ e))
            simp only [List.mem_cons, List.mem_singleton, List.not_mem_nil, or_false, not_or]
            rw [hz1]
            exact ⟨Nat.ne_of_lt hb0, Nat.ne_of_lt (Nat.lt_succ_of_lt hb0)⟩
      · cases r₂ with
        | error e => exact hr₂
        | ok fl₂ =>
          cases fl₂ with
          | ret r =>
            obtain ⟨rfl, h', tk, ys, rfl, hS', hmm, hlen, hk'⟩ := hr₂
            repeat (any_goals (first | assumption | wp_step))
            exact h _ _ _ hS' hmm hlen hk'
          | _ => exact hr₂.elim
    | _ => exact hr.elim

/-! ### sorted(set) -/
theorem strs_of : ∀ (l : List Value), (∀ v ∈ l, ∃ k tk, v = Value.str k tk) → StrsAre l (l.map strOf)
  | [], _ => .nil
  | v :: l, h => by
    obtain ⟨k, tk, rfl⟩ := h v List.mem_cons_self
    exact .cons k tk (strs_of l fun u hu => h u (List.mem_cons_of_mem _ hu))
theorem sorted_setX {a : Addr} {l : List Str} {Q : Value → Shared → Prop} (R : SetX P w s.heap a l) (hh : A.handled = none) (hlen : l.length + 1 < scanBound)
    (hQ : ∀ s' p (out : Array Value) (c : Nat) (ys : List Str), (∀ b o, s.heap.get? b = some o → s'.heap.get? b = some o) → s'.gens = s.gens → s'.os = s.os → s.heap.objs.size ≤ p →
      s'.heap.get? p = some (seqObj "list" out c) → StrsAre out.toList ys → sortedS ys = true → ys.Perm l → Q (.ref p) s') :
    wpAny (model P w) A (call (.builtin "sorted") [.ref a]) Q E s := by
  obtain ⟨⟨es, ep, t⟩, ho, F, nd, r, hl⟩ := R
  have hf : t.fits es.size = true := F.fit
  have hsz : es.size = l.length := F.sz
  refine Calls.call_function_entry kind_sorted plain_sorted entry_sorted (args_sorted1 _) ?_
  unfold Builtin.«sorted»
  refine wpAny_bind (m := checkCount "sorted" 1 1 _) (wpAny_pure ?_)
  refine wpAny_bind (collect_set (A := A.in1) hh ⟨_, ho, rfl, rfl⟩ hf (by show es.size < scanBound; rw [hsz]; omega) r hl fun s1 vs k1 hz g1 o1 pm => ?_)
  have hvl : vs.length = l.length := by rw [pm.length_eq, List.length_map, Array.length_toList]; exact hsz
  have hst : ∀ v ∈ vs, ∃ k tk, v = Value.str k tk ∧ k ∈ l := fun v hv => by
    obtain ⟨e, he, q⟩ := List.mem_map.mp (pm.mem_iff.mp hv)
    obtain ⟨⟨k, h1, _⟩, _⟩ := F.el e he
    obtain ⟨tk, h2⟩ := Value.isStrOf_shape h1
    exact ⟨k, tk, by rw [← q]; exact h2, (F.mem k).mpr ⟨e, he, h1⟩⟩
  have hI : StrsAre vs (vs.map strOf) := strs_of vs fun v hv => let ⟨k, tk, e, _⟩ := hst v hv; ⟨k, tk, e⟩
  have pk : (vs.map strOf).Perm l := by
    refine (perm_of_sub l (vs.map strOf) nd (fun x hx => ?_) (by rw [List.length_map, hvl])).symm
    obtain ⟨e, he, h1⟩ := (F.mem x).mp hx
    obtain ⟨tk, h2⟩ := Value.isStrOf_shape h1
    exact List.mem_map.mpr ⟨e.2, pm.mem_iff.mpr (List.mem_map.mpr ⟨e, he, rfl⟩), by rw [h2]; rfl⟩
  have hline : vs.length ≤ sizeLine := by
    rw [hvl, sizeLine_eq]
    have z : scanBound = 4096 := rfl
    omega
  refine wpAny_bind (wpAny_newList ?_ hline)
  have hoL : (s1.heap.push (seqObj "list" vs.toArray 0)).get? s1.heap.objs.size = some (seqObj "list" vs.toArray 0) := Heap.get?_push_size _ rfl
  refine wpAny_bind (wpAny_holding (wpAny_call_entry slot_list_sort ⟨_, hoL, rfl⟩ entry_list_sort (list_sort_treeKAny strKind_oneLt hoL hI.keysOf (fun v₁ v₂ rest e => keyKind_strs (by rw [← e]; exact hI)) hline fun st' hp hs => ⟨_, rfl, ?_⟩) (args_list_sort _)))
  obtain ⟨ys, a1, a2, a3⟩ := sorted_out_str hI hp hs
  obtain ⟨c, hc⟩ := sortedHeap_at (vs := vs) (out := (arrOf st').map (·.2)) hoL
  refine wpAny_pure ⟨_, rfl, hQ _ s1.heap.objs.size _ c ys (fun b u e => ?_) g1 o1 hz hc a1 a3 (a2.trans pk)⟩
  have q := k1 b u e
  have hlt := Heap.lt_size q
  show (sortedHeap (s1.heap.push (seqObj "list" vs.toArray 0)) s1.heap.objs.size vs _).get? b = some u
  rw [sortedHeap_old (Nat.ne_of_lt hlt) (by rw [size_push']; exact Nat.lt_succ_of_lt hlt)]
  exact Heap.get?_push_of_some _ q
end

/-! ### over the layer -/
def SetV (P : Program) (w : World) (a : Addr) (l : List Str) : HO := .ext fun h => SetX P w h a l
section
variable {X : Cx}
theorem setV_new {P : Program} {w : World} {H : Hp} {h : Heap} {a : Addr} {l : List Str} (R : SetX P w h a l) : ObjOk P w H h a (SetV P w a l) := by
  have ⟨o, ho, _⟩ := R
  exact ⟨R, ⟨_, ho⟩, fun h1 h2 p k => SetX.at p k⟩
/-- set(xs), xs a list or a tuple of texts -/
def rSetX (K : PySem.W.Frag) (P : Program) (w : World) : List V → Hp → VK → Prop := fun vs H Q => ∃ (a : Addr) (xs : List Str), vs = [V.ref a] ∧ (SqL K H a (xs.map V.str) ∨ SqT K H a (xs.map V.str)) ∧ xs.length < 4000 ∧
  ∀ p ys, H p = none → (∀ x, x ∈ ys ↔ x ∈ xs) → ys.Nodup → ys.length ≤ xs.length → Q (.ref p) (upd H p (SetV P w p ys))
theorem cr_setX (hc : X.calm = true) : CallR X (.type "set") (rSetX X.K X.prog X.w) := by
  intro pins s σ H vs us Q I r h
  obtain ⟨a, xs, rfl, hs, hlen, q⟩ := h
  rw [Vals.ref1 r]
  have hn : H s.heap.objs.size = none := I.hok.fresh (Nat.le_refl _)
  have hz : xs.length + 1 < scanBound := by
    have z : scanBound = 4096 := rfl
    omega
  obtain ⟨its, rv, pl⟩ : ∃ its : List Value, Vals (xs.map V.str) its ∧ (s.heap.IsList a its.toArray ∨ s.heap.IsTuple a its.toArray) := by
    rcases hs with hs | hs
    · obtain ⟨its, rv, pl, _⟩ := I.list hs
      exact ⟨its, rv, .inl pl.isList⟩
    · obtain ⟨its, rv, pl, _⟩ := I.tuple hs
      exact ⟨its, rv, .inr pl⟩
  refine call_set (P := X.prog) (w := X.w) (I.ok.hd hc) pl (by simpa using rv.strs) hz fun h' tk ys R hm hl k => ?_
  have nd : ys.Nodup := by
    obtain ⟨_, _, _, z, _⟩ := R
    exact z
  exact ⟨.ref s.heap.objs.size, upd H s.heap.objs.size (SetV X.prog X.w s.heap.objs.size ys), I.laid (t' := tk) k (Nat.le_refl _) (setV_new R), rfl, q _ ys hn hm nd hl⟩
/-- sorted(a set of texts) -/
def rSortX (P : Program) (w : World) : List V → Hp → VK → Prop := fun vs H Q => ∃ (a : Addr) (l : List Str), vs = [V.ref a] ∧ H a = some (SetV P w a l) ∧ l.length < 4000 ∧
  ∀ ys p, ys.Perm l → sortedS ys = true → H p = none → Q (.ref p) (upd H p (.lst (ys.map V.str)))
theorem cr_sortX (hc : X.calm = true) : CallR X (.builtin "sorted") (rSortX X.prog X.w) := by
  intro pins s σ H vs us Q I r h
  obtain ⟨a, l, rfl, ha, hlen, q⟩ := h
  have R : SetX X.prog X.w s.heap a l := (I.hok a _ ha).1
  rw [Vals.ref1 r]
  have hz : l.length + 1 < scanBound := by
    have z : scanBound = 4096 := rfl
    omega
  refine sorted_setX R (I.ok.hd hc) hz fun s' p out c ys k g o hp hg hi hs pm => ?_
  have hl2 : (ys.map V.str).length ≤ sizeLine := by
    rw [List.length_map, pm.length_eq, sizeLine_eq]
    omega
  have hn : H p = none := I.hok.fresh hp
  have J : Inv X pins σ (upd H p (.lst (ys.map V.str))) { s with heap := s'.heap, gens := s'.gens, drawn := s'.drawn, toks := s'.toks } :=
    I.call (ch := []) (Un.laid k hp hn) (I.hok.laid k hp ⟨hl2, out.toList, c, vals_of_strs hi, hg⟩) (by rw [g]; exact I.bare) (fun _ z => nomatch z)
  have e : s' = { s with heap := s'.heap, gens := s'.gens, drawn := s'.drawn, toks := s'.toks } := by
    cases s'
    cases s
    cases o
    rfl
  rw [e]
  exact ⟨.ref p, _, J, rfl, q ys p pm hs hn⟩
end
end Sx
/-! Calls of the module's own defs by their promises, walks over a list or a tuple, data that stays. -/
namespace Bx
open PySem PySem.Spec PyProof.Rows L2 TL

/-- the module's name x holds a def that keeps sp, by at most level k -/
structure Cal (P : Program) (w : World) (K : PySem.W.Frag) (mg : Str → Option Value) (base : Heap) (x : Str) (k : Nat) (ps : List Str) (sp : Sp) : Prop where
  ex : ∃ (f : Addr) (fd : FuncData), FnOk P w K mg base CX0 k f fd ps sp ∧ mg x = some (.ref f) ∧ PySem.W.keepIn K (.ref f) = true ∧ Binds K fd ps []
/-- the same of a def with a star parameter alone -/
structure CalR (P : Program) (w : World) (K : PySem.W.Frag) (mg : Str → Option Value) (base : Heap) (x : Str) (k : Nat) (sp : Sp) : Prop where
  ex : ∃ f : Addr, FnR P w K mg base CX0 k f sp ∧ mg x = some (.ref f) ∧ PySem.W.keepIn K (.ref f) = true
section
variable {X : Cx} {x : Str} {k : Nat} {ps : List Str} {sp : Sp} {e : Expr} {es : List Expr} {t : TA} {p pos : Pos}
def tCal (sp : Sp) (t : TA) : TE := fun σ H Q => t σ H fun vs H1 => sp vs H1 Q E0
theorem pe_cal (c : Cal X.prog X.w X.K X.mg X.base x k ps sp) (hr : Room k X.A) (ha : PA X (e :: es) t) (hg : Gl X x := by rfl) (hdb : (x == ("__debug__" : Str)) = false := by decide)
    (he : starEach (e :: es) X.env = (false, eval e X.env) :: starEach es X.env := by rfl) (hpl : (backTo pos (starEach es X.env)).any (·.1) = false := by rfl) : PE X (.Call (.Name x p) (e :: es) [] pos) (tCal sp t) := by
  obtain ⟨f, fd, ok, g, kp, b⟩ := c.ex
  have z := pe_call (E := E0) ok hr hg g kp b .nil pass0 ha hdb he hpl (p := p)
  refine ⟨fun pins s σ H Q I h => z.run pins s σ H Q I ?_⟩
  unfold tCall
  simp only [List.append_nil]
  exact h
theorem pe_cal0 (c : Cal X.prog X.w X.K X.mg X.base x k ps sp) (hr : Room k X.A) (hg : Gl X x := by rfl) (hdb : (x == ("__debug__" : Str)) = false := by decide) : PE X (.Call (.Name x p) [] [] pos) (tCal sp tNil) := by
  obtain ⟨f, fd, ok, g, kp, b⟩ := c.ex
  have z := pe_call0 (E := E0) (pos := pos) ok hr hg g kp b .nil pass0 hdb (p := p)
  refine ⟨fun pins s σ H Q I h => z.run pins s σ H Q I ?_⟩
  exact h
theorem pe_calR (c : CalR X.prog X.w X.K X.mg X.base x k sp) (hr : Room k X.A) (ha : PA X (e :: es) t) (hg : Gl X x := by rfl) (hdb : (x == ("__debug__" : Str)) = false := by decide)
    (he : starEach (e :: es) X.env = (false, eval e X.env) :: starEach es X.env := by rfl) (hpl : (backTo pos (starEach es X.env)).any (·.1) = false := by rfl) : PE X (.Call (.Name x p) (e :: es) [] pos) (tCal sp t) := by
  obtain ⟨f, ok, g, kp⟩ := c.ex
  refine ⟨fun pins s σ H Q I h => ?_⟩
  refine wpAny_Call_Name_kw (ld_glob I hg g ?_ hdb)
  refine PySem.W.callWith_K (h₀ := X.base) I.ok.mod.kin kp (thn (ha.run pos pins s σ H _ I h) fun us s1 ⟨vs, H1, I1, r, q⟩ => ⟨I1.kIn, ?_⟩) he hpl
  exact wpAny_call (run_fnR ok hr pass0 I1 r q)
theorem pe_calR0 (c : CalR X.prog X.w X.K X.mg X.base x k sp) (hr : Room k X.A) (hg : Gl X x := by rfl) (hdb : (x == ("__debug__" : Str)) = false := by decide) : PE X (.Call (.Name x p) [] [] pos) (tCal sp tNil) := by
  obtain ⟨f, ok, g, kp⟩ := c.ex
  refine ⟨fun pins s σ H Q I h => ?_⟩
  refine wpAny_Call_Name_kw (ld_glob I hg g ?_ hdb)
  exact PySem.W.callWith_K0 I.kIn kp (wpAny_call (run_fnR ok hr pass0 I .nil h))

/-- x(*y) -/
theorem pe_calS {te : TE} {sp_ : Pos} (c : CalR X.prog X.w X.K X.mg X.base x k sp) (hr : Room k X.A) (he : PE X e te) (hg : Gl X x := by rfl) (hdb : (x == ("__debug__" : Str)) = false := by decide) (hst : starEach [.Starred e sp_] X.env = [(true, eval e X.env)] := by rfl) :
    PE X (.Call (.Name x p) [.Starred e sp_] [] pos) (fun σ H Q => te σ H fun y H1 => ∃ a xs, y = V.ref a ∧ (SqT X.K H1 a xs ∨ SqL X.K H1 a xs) ∧ sp xs H1 Q E0) := by
  obtain ⟨f, ok, g, kp⟩ := c.ex
  exact StX.pe_callS1 ok hr kp hg g pass0 he hdb hst

/-- a walk over a list or a tuple -/
def SeqCase (K : PySem.W.Frag) (a : Addr) (H : Hp) (R : It → Hp → Prop) : Prop := ((∃ xs, SqL K H a xs) ∧ R (Itl K a) H) ∨ ((∃ xs, SqT K H a xs) ∧ R (Itt K a) H)
def iSeq (K : PySem.W.Frag) (tl : TE) : TI := fun σ H R => tl σ H fun x H1 => ∃ a, x = .ref a ∧ SeqCase K a H1 R
theorem pi_seq {tg l : Expr} {tl : TE} (hl : PE X l tl) : PI X tg l (iSeq X.K tl) := by
  refine ⟨fun pins s σ H R I h => ?_⟩
  refine thn (hl.run pins s σ H _ I h) fun v s1 ⟨x, H1, I1, r1, q1⟩ => ?_
  obtain ⟨a, e, q1⟩ := q1
  subst e
  cases r1
  rcases q1 with ⟨⟨xs, hq⟩, q⟩ | ⟨⟨xs, hq⟩, q⟩
  · obtain ⟨its, rv, p, hz⟩ := I1.list hq
    refine wpAny_pyIter_list p.isList ?_
    exact pi_one (tk := s1.toks) I1 _ (turn_list a _) ⟨_, Heap.get?_push_size _ rfl, rfl, rfl⟩ q
  · obtain ⟨its, rv, p, hz⟩ := I1.tuple hq
    refine wpAny_pyIter_tuple (show s1.heap.IsTuple a its.toArray from p) ?_
    exact pi_one (tk := s1.toks) I1 _ (turn_tuple a _) ⟨_, Heap.get?_push_size _ rfl, rfl, rfl⟩ q
end

/-! ### rules with the written part named (within a block) -/
section
variable {X : Cx} {K : PySem.W.Frag}
theorem ix_listK (h : X.K = K) : IxR X (rIxL K) := h ▸ ix_list
theorem ix_tupK (h : X.K = K) : IxR X (rIxT K) := h ▸ ix_tup
theorem op_in_seqK (h : X.K = K) : OpR X (compareOp .In) (rIn K false) := h ▸ op_in_seq
theorem call_list_ofK (h : X.K = K) : CallR X (.type "list") (fun xs H Q => ∃ p ys, xs = [.ref p] ∧ (SqL K H p ys ∨ SqT K H p ys) ∧ ∀ l, H l = none → Q (.ref l) (upd H l (.lst ys))) := by
  subst h
  exact call_list_of
theorem call_tuple_ofK (h : X.K = K) : CallR X (.type "tuple") (fun xs H Q => ∃ p ys, xs = [.ref p] ∧ ((SqL K H p ys ∧ ∀ l, H l = none → Q (.ref l) (upd H l (.tup ys))) ∨ (SqT K H p ys ∧ Q (.ref p) H))) := by
  subst h
  exact call_tuple_of
theorem call_len_seqK (h : X.K = K) : CallR X (.builtin "len") (fun xs H Q => ∃ p ys, xs = [.ref p] ∧ (SqL K H p ys ∨ SqT K H p ys) ∧ Q (.int ys.length) H) := by
  subst h
  exact call_len_seq
theorem cr_allK (h : X.K = K) (hc : X.calm = true) : CallR X (.builtin "all") (rAll K) := by
  subst h
  exact cr_all hc
theorem pg_tupK {es : List Expr} {k : Nat} {t : TGs} {n : Nat} {pos : Pos} (h : X.K = K) (hc : X.calm = true) (hs : PGs X es t)
    (hn : (assignEach es X.env).length = n := by rfl) (hst : (assignEach es X.env).findIdx? (·.1) = none := by rfl) : PG X (.Tuple es k pos) (gTup K n t) := by
  subst h
  exact pg_tup hc hs hn hst
theorem op_notIn_seqK (h : X.K = K) : OpR X (compareOp .NotIn) (rIn K true) := h ▸ op_notIn_seq
end

/-! ### heaps -/
theorem same_new {H : Hp} {p : Addr} {o : HO} (h : H p = none) : Same H (upd H p o) := fun b x e => by
  rw [upd_ne (ne_of_none e h)]
  exact e
theorem same_at {H H2 : Hp} {p : Addr} {o : HO} (h : H p = none) (s : Same H H2) : Same H (upd H2 p o) := fun b x e => by
  rw [upd_ne (ne_of_none e h)]
  exact s b x e
theorem Same.tup {K : PySem.W.Frag} {H H' : Hp} {a : Addr} {xs : List V} (e : Same H H') (h : SqT K H a xs) : SqT K H' a xs := by
  rcases h with (h | ⟨o, h⟩) | h
  · exact .inl (.inl (e _ _ h))
  · exact .inl (.inr ⟨o, e _ _ h⟩)
  · exact .inr h
theorem sq {K : PySem.W.Frag} {H : Hp} {a : Addr} {xs : List V} (h : H a = some (.lst xs)) : SqL K H a xs := Or.inl (Or.inl h)
theorem sqt {K : PySem.W.Frag} {H : Hp} {a : Addr} {xs : List V} (h : H a = some (.tup xs)) : SqT K H a xs := Or.inl (Or.inl h)
/-- all that was tracked but a is as it was -/
def SameBut (a : Addr) (H H' : Hp) : Prop := ∀ b o, b ≠ a → H b = some o → H' b = some o
theorem SameBut.refl (a : Addr) (H : Hp) : SameBut a H H := fun _ _ _ h => h
theorem SameBut.trans {a : Addr} {H H1 H2 : Hp} (x : SameBut a H H1) (y : SameBut a H1 H2) : SameBut a H H2 := fun b o n h => y b o n (x b o n h)
theorem Same.but {a : Addr} {H H' : Hp} (x : Same H H') : SameBut a H H' := fun b o _ h => x b o h
theorem SameBut.upd {a : Addr} {H : Hp} {o : HO} : SameBut a H (upd H a o) := fun b x n h => by
  rw [upd_ne n]
  exact h
/-- new objects do not disturb: what was tracked at H, where a was not -/
theorem SameBut.same {a : Addr} {H H1 H2 : Hp} (x : Same H H1) (n : H a = none) (y : SameBut a H1 H2) : Same H H2 := fun b o h => y b o (ne_of_none h n) (x b o h)
theorem sz {n : Nat} (h : n ≤ 100000) : n ≤ sizeLine := Nat.le_trans h (by decide)
theorem szl {n : Nat} (h : n < 100000) : n < sizeLine := Nat.lt_of_lt_of_le h (by decide)
/-- the source of draws at a -/
def Src (H : Hp) (a : Addr) : Prop := ∃ n c : Int, H a = some (.lst [.int n, .int c])

/-! ### data -/
mutual
theorem dp_same {K : PySem.W.Frag} {H H' : Hp} (e : Same H H') : ∀ {v : V} {d : PyData}, Dp K H v d → Dp K H' v d
  | _, _, .non => .non
  | _, _, .bl b => .bl b
  | _, _, .int i => .int i
  | _, _, .str x => .str x
  | _, _, .lst h a => .lst (e.seq h) (dpAll_same e a)
  | _, _, .tup h a => .tup (Bx.Same.tup e h) (dpAll_same e a)
theorem dpAll_same {K : PySem.W.Frag} {H H' : Hp} (e : Same H H') : ∀ {vs : List V} {ds : List PyData}, DpAll K H vs ds → DpAll K H' vs ds
  | _, _, .nil => .nil
  | _, _, .cons h a => .cons (dp_same e h) (dpAll_same e a)
end
theorem dp_strs {K : PySem.W.Frag} {H : Hp} : ∀ ys : List Str, DpAll K H (ys.map V.str) (ys.map PyData.str)
  | [] => .nil
  | y :: ys => .cons (.str y) (dp_strs ys)
theorem dp_ints {K : PySem.W.Frag} {H : Hp} : ∀ ys : List Int, DpAll K H (ys.map V.int) (ys.map PyData.int)
  | [] => .nil
  | y :: ys => .cons (.int y) (dp_ints ys)
theorem dp_map {K : PySem.W.Frag} {H : Hp} {α : Type} {f : α → V} {g : α → PyData} : ∀ {l : List α}, (∀ x ∈ l, Dp K H (f x) (g x)) → DpAll K H (l.map f) (l.map g)
  | [], _ => .nil
  | x :: l, h => .cons (h x List.mem_cons_self) (dp_map fun y hy => h y (List.mem_cons_of_mem _ hy))

/-! ### walks with any body -/
theorem walk_any {J : It} {n : Nat} {G : Hp → Prop} {Y : Nat → Hp → V → Hp → Prop} (w : Walk J n G Y) {Z : Hp → Prop} {B : (Hp → Prop) → V → Hp → Prop} {H0 : Hp} (Pv : Nat → Hp → Prop) (h0 : Pv 0 H0) (hG : ∀ i H, i ≤ n → Pv i H → G H)
    (hs : ∀ i x H H', i < n → Pv i H → Y i H x H' → B (Pv (i + 1)) x H') (hd : ∀ H, Pv n H → Z H) :
    ∃ W : Nat → Nat → Hp → Prop, (∃ m, W 0 m H0) ∧ ∀ i m H, W i m H → (J.stop i H ∧ Z H) ∨ (J.go i H ∧ ∃ Nx : Hp → Prop, (∀ H', Nx H' → ∃ m', m' < m ∧ W (i + 1) m' H') ∧ ∀ x H', J.yld i H x H' → B Nx x H') := by
  refine ⟨fun i m H => m = n - i ∧ i ≤ n ∧ Pv i H, ⟨n, by simp, Nat.zero_le _, h0⟩, ?_⟩
  rintro i m H ⟨rfl, hi, p⟩
  have q := hG i H hi p
  by_cases hlt : i < n
  · exact .inr ⟨w.goes i H hlt q, Pv (i + 1), fun H' p' => ⟨n - (i + 1), by omega, rfl, hlt, p'⟩, fun x H' y => hs i x H H' hlt p (w.yields i H x H' hlt q y)⟩
  · have e : i = n := by omega
    subst e
    exact .inl ⟨w.stops H q, hd H p⟩

/-! ### a def with a star parameter alone -/
theorem okStar {P : Program} {w : World} {K : PySem.W.Frag} {mg : Str → Option Value} {base : Heap} {x qual pn : Str} {st : Stmt} {f : Addr} {fd : FuncData} {N : List Str} {k : Nat} {sp : Sp} (F : Fun K x qual st f fd) (S : FnScope N [pn] (defScope st))
    (hb : ∀ (kV doc pm : Value) (an : Option Addr) (cdv ct : Value) (rest : List Value), bindArgs (PySem.W.fnOf x qual (defArgs st) (defBody st) (defScope st) .none kV doc pm an cdv ct) ⟨rest, []⟩ = (newTuple rest >>= fun t => pure [(pn, t)]))
    (hbody : ∀ (cdv : Value) (A : Around) (outer : List Env) (s : Shared) (H : Hp) (vs : List V) (Q : VK) (E : XK), Room k (A.deeper (envOfC qual (defScope st) s.heap.objs.size f cdv)) → sp vs H Q E →
      ∃ t, PSs (cxOf CX0 P w K mg base N qual (defScope st) f cdv A outer s H E) (defBody st) t ∧ t { nx := fun _ H' => Q .non H', rt := Q } (start N vs) H) :
    FnR P w K mg base CX0 (k + 1) f (fun vs H Q E => vs.length ≤ sizeLine ∧ ∀ p, H p = none → sp [V.ref p] (upd H p (.tup vs)) Q E) := by
  obtain ⟨oc, od, kV, doc, pm, an, cdv, ct, osl, rfl, lk, hcd⟩ := F.ex
  have z := StX.fn_star (P := P) (w := w) (K := K) (mg := mg) (base := base) (CX := CX0) (ps := []) (sp := sp) lk hcd S StX.cxUp_none (fun us rest hl => by
    have e : us = [] := List.length_eq_zero_iff.mp hl
    subst e
    exact hb kV doc pm an cdv ct rest) (hbody cdv)
  exact z.imp fun vs H Q E h => ⟨[], vs, rfl, rfl, h.1, h.2⟩

/-- one parameter ahead of the star -/
theorem okStar1 {P : Program} {w : World} {K : PySem.W.Frag} {mg : Str → Option Value} {base : Heap} {x qual p1 pn : Str} {st : Stmt} {f : Addr} {fd : FuncData} {N : List Str} {k : Nat} {sp : Sp} (F : Fun K x qual st f fd) (S : FnScope N [p1, pn] (defScope st))
    (h0 : ∀ (kV doc pm : Value) (an : Option Addr) (cdv ct a : Value), bindArgs (PySem.W.fnOf x qual (defArgs st) (defBody st) (defScope st) .none kV doc pm an cdv ct) ⟨[a], []⟩ = (newTuple [] >>= fun t => pure [(p1, a), (pn, t)]))
    (h1 : ∀ (kV doc pm : Value) (an : Option Addr) (cdv ct a r : Value) (rs : List Value), bindArgs (PySem.W.fnOf x qual (defArgs st) (defBody st) (defScope st) .none kV doc pm an cdv ct) ⟨a :: r :: rs, []⟩ = (newTuple (r :: rs) >>= fun t => pure [(p1, a), (pn, t)]))
    (hbody : ∀ (cdv : Value) (A : Around) (outer : List Env) (s : Shared) (H : Hp) (vs : List V) (Q : VK) (E : XK), Room k (A.deeper (envOfC qual (defScope st) s.heap.objs.size f cdv)) → sp vs H Q E →
      ∃ t, PSs (cxOf CX0 P w K mg base N qual (defScope st) f cdv A outer s H E) (defBody st) t ∧ t { nx := fun _ H' => Q .non H', rt := Q } (start N vs) H) :
    FnR P w K mg base CX0 (k + 1) f (fun vs H Q E => ∃ v rest, vs = v :: rest ∧ rest.length ≤ sizeLine ∧ ∀ p, H p = none → sp [v, V.ref p] (upd H p (.tup rest)) Q E) := by
  obtain ⟨oc, od, kV, doc, pm, an, cdv, ct, osl, rfl, lk, hcd⟩ := F.ex
  have z := StX.fn_star (P := P) (w := w) (K := K) (mg := mg) (base := base) (CX := CX0) (ps := [p1]) (sp := sp) lk hcd S StX.cxUp_none
    (StX.bind_star1 (B := fun us => bindArgs (PySem.W.fnOf x qual (defArgs st) (defBody st) (defScope st) .none kV doc pm an cdv ct) ⟨us, []⟩) (h0 kV doc pm an cdv ct) (h1 kV doc pm an cdv ct)) (hbody cdv)
  exact z.imp fun vs H Q E ⟨v, rest, e, hl, h⟩ => ⟨[v], rest, e, rfl, hl, h⟩

/-! ### a walk over a list or a tuple, told once -/
theorem seq_case {K : PySem.W.Frag} {H : Hp} {a : Addr} {xs : List V} {R : It → Hp → Prop} (h : SqL K H a xs ∨ SqT K H a xs) (k : ∀ (J : It) (G : Hp → Prop), Walk J xs.length G (YAt xs) → (∀ H', Same H H' → G H') → R J H) : SeqCase K a H R := by
  rcases h with h | h
  · exact .inl ⟨⟨_, h⟩, k _ _ walk_list fun H' s => s.seq h⟩
  · exact .inr ⟨⟨_, h⟩, k _ _ walk_tup fun H' s => Bx.Same.tup s h⟩
theorem at_map {α : Type} {l : List α} {f : α → V} {i : Nat} {x : V} (h : (l.map f)[i]? = some x) : ∃ y, l[i]? = some y ∧ x = f y := by
  rw [List.getElem?_map] at h
  cases e : l[i]? with
  | none =>
    rw [e] at h
    cases h
  | some y =>
    rw [e] at h
    exact ⟨y, rfl, (Option.some.inj h).symm⟩

/-! ### texts in ascending order -/
theorem rising_at : ∀ (p : Str) (r : List Str), risingS p r = true → ∀ (k : Nat) (x y : Str), (p :: r)[k]? = some x → (p :: r)[k + 1]? = some y → ltCps y.cps.toList x.cps.toList = false
  | p, [], _, k, x, y, _, h2 => by
    simp at h2
  | p, q :: r, h, k, x, y, h1, h2 => by
    have h3 : (!ltCps q.cps.toList p.cps.toList && risingS q r) = true := h
    rw [Bool.and_eq_true] at h3
    cases k with
    | zero =>
      have e1 : p = x := Option.some.inj h1
      have e2 : q = y := Option.some.inj h2
      rw [← e1, ← e2]
      simpa using h3.1
    | succ k => exact rising_at q r h3.2 k x y h1 h2
theorem sorted_at {l : List Str} (h : sortedS l = true) (nd : l.Nodup) {k : Nat} {x y : Str} (h1 : l[k]? = some x) (h2 : l[k + 1]? = some y) : x.cps.toList < y.cps.toList := by
  cases l with
  | nil => cases h1
  | cons p r =>
    have a := rising_at p r h k x y h1 h2
    rw [ltCps_eq] at a
    refine Std.lt_of_le_of_ne (of_decide_eq_false a) fun e => ?_
    have e2 : x = y := ext_tl e
    obtain ⟨i1, e3⟩ := List.getElem?_eq_some_iff.mp h1
    obtain ⟨i2, e4⟩ := List.getElem?_eq_some_iff.mp h2
    have z := List.pairwise_iff_getElem.mp nd k (k + 1) i1 i2 (Nat.lt_succ_self k)
    exact z (e3.trans (e2.trans e4.symm))

/-! ### membership of texts -/
theorem inV_str (x : Str) (ys : List Str) : inV (.str x) (ys.map V.str) = decide (x ∈ ys) := by
  unfold inV
  rw [List.any_map]
  induction ys with
  | nil => rfl
  | cons y ys ih =>
    rw [List.any_cons, ih]
    show ((y == x) || _) = _
    by_cases e : y = x
    · subst e
      simp
    · have e2 : (y == x) = false := by simpa using e
      rw [e2, Bool.false_or]
      by_cases h : x ∈ ys
      · rw [decide_eq_true h, decide_eq_true (List.mem_cons_of_mem _ h)]
      · rw [decide_eq_false h, decide_eq_false (fun z => (List.mem_cons.mp z).elim (fun z => e z.symm) h)]
theorem flat_all (ys : List Str) : (ys.map V.str).all flatV = true := by
  rw [List.all_map, List.all_eq_true]
  intro y _
  rfl
theorem lay_strs : ∀ ys : List Str, (∀ y ∈ ys, PyData.strOk y = true) → PyData.canLayAll0 (ys.map PyData.str) = true ∧ PyData.depthAll (ys.map PyData.str) ≤ 1
  | [], _ => ⟨rfl, by decide⟩
  | y :: ys, h => by
    obtain ⟨a, b⟩ := lay_strs ys fun z hz => h z (List.mem_cons_of_mem _ hz)
    constructor
    · show (PyData.strOk y && PyData.canLayAll0 (ys.map PyData.str)) = true
      rw [a, h y List.mem_cons_self]
      rfl
    · show max (PyData.depth (.str y)) (PyData.depthAll (ys.map PyData.str)) ≤ 1
      exact Nat.max_le.mpr ⟨by first | exact Nat.zero_le _ | decide | exact Nat.le_refl _, b⟩
theorem lay_lists : ∀ L : List (List Str), (∀ ys ∈ L, ∀ y ∈ ys, PyData.strOk y = true) → PyData.canLayAll0 (L.map fun ys => PyData.list (ys.map PyData.str)) = true ∧ PyData.depthAll (L.map fun ys => PyData.list (ys.map PyData.str)) ≤ 2
  | [], _ => ⟨rfl, by decide⟩
  | ys :: L, h => by
    obtain ⟨a, b⟩ := lay_lists L fun z hz => h z (List.mem_cons_of_mem _ hz)
    obtain ⟨c, d⟩ := lay_strs ys (h ys List.mem_cons_self)
    constructor
    · show (PyData.canLayAll0 (ys.map PyData.str) && PyData.canLayAll0 (L.map fun ys => PyData.list (ys.map PyData.str))) = true
      rw [a, c]
      rfl
    · show max (PyData.depthAll (ys.map PyData.str) + 1) (PyData.depthAll (L.map fun ys => PyData.list (ys.map PyData.str))) ≤ 2
      exact Nat.max_le.mpr ⟨by omega, b⟩

/-! ### signs of a written text -/
theorem pick {L : Str} {r : Int} (h0 : 0 ≤ r) (h1 : r < (tl L).length) : ∃ c, atI L.cps.toList r = some c ∧ c ∈ tl L := by
  obtain ⟨n, rfl⟩ := Int.eq_ofNat_of_zero_le h0
  have hn : n < (tl L).length := by omega
  exact ⟨(tl L)[n], atI_nat (List.getElem?_eq_getElem hn), List.getElem_mem hn⟩
end Bx
/-! Data that stands in the heap, beside objects that change; rules told of data. -/
namespace Dx
open PySem PySem.Spec PyProof.Rows L2 Bx TL

/-! ### the heap without some addresses -/
def mn (H : Hp) (S : List Addr) : Hp := fun b => if b ∈ S then none else H b
theorem mn_in {H : Hp} {S : List Addr} {b : Addr} (h : b ∈ S) : mn H S b = none := if_pos h
theorem mn_out {H : Hp} {S : List Addr} {b : Addr} (h : b ∉ S) : mn H S b = H b := if_neg h
theorem mn_same {H : Hp} {S : List Addr} : Same (mn H S) H := fun b o e => by
  by_cases h : b ∈ S
  · rw [mn_in h] at e
    cases e
  · rw [mn_out h] at e
    exact e
theorem mn_nil {H : Hp} : mn H [] = H := funext fun b => mn_out (by simp)
theorem mn_sub {H : Hp} {S T : List Addr} (h : ∀ b, b ∈ S → b ∈ T) : Same (mn H T) (mn H S) := fun b o e => by
  by_cases h1 : b ∈ T
  · rw [mn_in h1] at e
    cases e
  · rw [mn_out h1] at e
    rw [mn_out fun z => h1 (h b z)]
    exact e
theorem mn_upd {H : Hp} {S : List Addr} {a : Addr} {o : HO} (h : a ∈ S) : mn (upd H a o) S = mn H S := funext fun b => by
  by_cases h1 : b ∈ S
  · rw [mn_in h1, mn_in h1]
  · rw [mn_out h1, mn_out h1, upd_ne (show b ≠ a from fun z => h1 (by rw [z]; exact h))]
theorem mn_new {H : Hp} {S : List Addr} {p : Addr} {o : HO} (h : H p = none) : Same (mn H S) (mn (upd H p o) S) := fun b u e => by
  by_cases h1 : b ∈ S
  · rw [mn_in h1] at e
    cases e
  · rw [mn_out h1] at e ⊢
    rw [upd_ne (ne_of_none e h)]
    exact e
theorem mn_but {H H' : Hp} {S : List Addr} {a : Addr} (h : a ∈ S) (s : SameBut a H H') : Same (mn H S) (mn H' S) := fun b u e => by
  by_cases h1 : b ∈ S
  · rw [mn_in h1] at e
    cases e
  · rw [mn_out h1] at e ⊢
    exact s b u (fun z => h1 (z ▸ h)) e
theorem mn_all {H H' : Hp} {S : List Addr} (s : Same H H') : Same (mn H S) (mn H' S) := fun b u e => by
  by_cases h1 : b ∈ S
  · rw [mn_in h1] at e
    cases e
  · rw [mn_out h1] at e ⊢
    exact s b u e
theorem mn_to {H H' : Hp} {S T : List Addr} (h : ∀ b, b ∈ S → b ∈ T) (s : Same (mn H S) (mn H' S)) : Same (mn H T) (mn H' T) := fun b u e => by
  by_cases h1 : b ∈ T
  · rw [mn_in h1] at e
    cases e
  · rw [mn_out h1] at e ⊢
    have z := s b u (by rw [mn_out fun z => h1 (h b z)]; exact e)
    rw [mn_out fun z => h1 (h b z)] at z
    exact z
/-- what is tracked beside S was there, or is new -/
theorem mn_at {H : Hp} {S : List Addr} {b : Addr} {o : HO} (h : b ∉ S) (e : H b = some o) : mn H S b = some o := by
  rw [mn_out h]
  exact e
theorem mn_keep {H H' : Hp} {S : List Addr} (s : Same (mn H S) (mn H' S)) {b : Addr} {o : HO} (h : b ∉ S) (e : H b = some o) : H' b = some o := mn_same _ _ (s _ _ (mn_at h e))
theorem mn_free {H H' : Hp} {S : List Addr} (s : Same (mn H S) (mn H' S)) {b : Addr} (h : b ∉ S) (e : H' b = none) : H b = none := by
  cases z : H b with
  | none => rfl
  | some o =>
    rw [mn_keep s h z] at e
    cases e

/-! ### data -/
section
variable {K : PySem.W.Frag} {H : Hp}
theorem dp_lst {v : V} {ds : List PyData} (h : Dp K H v (.list ds)) : ∃ a xs, v = .ref a ∧ SqL K H a xs ∧ DpAll K H xs ds := by
  cases h with
  | lst s a => exact ⟨_, _, rfl, s, a⟩
theorem dp_tup {v : V} {ds : List PyData} (h : Dp K H v (.tuple ds)) : ∃ a xs, v = .ref a ∧ SqT K H a xs ∧ DpAll K H xs ds := by
  cases h with
  | tup s a => exact ⟨_, _, rfl, s, a⟩
theorem dp_str {v : V} {s : Str} (h : Dp K H v (.str s)) : v = .str s := by cases h; rfl
theorem dp_int {v : V} {i : Int} (h : Dp K H v (.int i)) : v = .int i := by cases h; rfl
theorem da_len : ∀ {xs : List V} {ds : List PyData}, DpAll K H xs ds → xs.length = ds.length
  | _, _, .nil => rfl
  | _, _, .cons _ t => congrArg (· + 1) (da_len t)
theorem da_get : ∀ {xs : List V} {ds : List PyData}, DpAll K H xs ds → ∀ {i : Nat} {d : PyData}, ds[i]? = some d → ∃ v, xs[i]? = some v ∧ Dp K H v d
  | _, _, .nil, i, d, e => by cases e
  | _, _, .cons h t, 0, d, e => by
    cases e
    exact ⟨_, rfl, h⟩
  | _, _, .cons h t, i + 1, d, e => da_get t e
theorem da_at : ∀ {xs : List V} {ds : List PyData}, DpAll K H xs ds → ∀ {i : Nat} {v : V}, xs[i]? = some v → ∃ d, ds[i]? = some d ∧ Dp K H v d
  | _, _, .nil, i, d, e => by cases e
  | _, _, .cons h t, 0, d, e => by
    cases e
    exact ⟨_, rfl, h⟩
  | _, _, .cons h t, i + 1, d, e => da_at t e
theorem da_app : ∀ {xs ys : List V} {ds es : List PyData}, DpAll K H xs ds → DpAll K H ys es → DpAll K H (xs ++ ys) (ds ++ es)
  | _, _, _, _, .nil, h => h
  | _, _, _, _, .cons h t, k => .cons h (da_app t k)
theorem da_one {v : V} {d : PyData} (h : Dp K H v d) : DpAll K H [v] [d] := .cons h .nil
theorem da_strs : ∀ {xs : List V} {ns : List Str}, DpAll K H xs (ns.map PyData.str) → xs = ns.map V.str
  | [], [], _ => rfl
  | [], _ :: _, h => by cases h
  | _ :: _, [], h => by cases h
  | x :: xs, n :: ns, h => by
    cases h with
    | cons h t =>
      rw [dp_str h, da_strs t]
      rfl
theorem da_ints : ∀ {xs : List V} {ns : List Int}, DpAll K H xs (ns.map PyData.int) → xs = ns.map V.int
  | [], [], _ => rfl
  | [], _ :: _, h => by cases h
  | _ :: _, [], h => by cases h
  | x :: xs, n :: ns, h => by
    cases h with
    | cons h t =>
      rw [dp_int h, da_ints t]
      rfl
theorem da_take : ∀ {xs : List V} {ds : List PyData}, DpAll K H xs ds → ∀ n, DpAll K H (xs.take n) (ds.take n)
  | _, _, .nil, n => by
    rw [List.take_nil, List.take_nil]
    exact .nil
  | _, _, .cons h t, 0 => .nil
  | _, _, .cons h t, n + 1 => .cons h (da_take t n)
/-- the strs of a tuple of texts -/
theorem dp_names {v : V} {ns : List Str} (h : Dp K H v (.tuple (ns.map PyData.str))) : ∃ a, v = .ref a ∧ SqT K H a (ns.map V.str) := by
  obtain ⟨a, xs, rfl, s, t⟩ := dp_tup h
  rw [da_strs t] at s
  exact ⟨a, rfl, s⟩
theorem dp_namesL {v : V} {ns : List Str} (h : Dp K H v (.list (ns.map PyData.str))) : ∃ a, v = .ref a ∧ SqL K H a (ns.map V.str) := by
  obtain ⟨a, xs, rfl, s, t⟩ := dp_lst h
  rw [da_strs t] at s
  exact ⟨a, rfl, s⟩
theorem names_dp {a : Addr} {ns : List Str} (h : SqT K H a (ns.map V.str)) : Dp K H (.ref a) (.tuple (ns.map PyData.str)) := .tup h (dp_strs ns)
theorem namesL_dp {a : Addr} {ns : List Str} (h : SqL K H a (ns.map V.str)) : Dp K H (.ref a) (.list (ns.map PyData.str)) := .lst h (dp_strs ns)
end

/-! ### what may be compared: no dicts, not too deep -/
def Lay (n : Nat) (d : PyData) : Prop := d.canLay0 = true ∧ d.depth ≤ n
def Lays (n : Nat) (ds : List PyData) : Prop := PyData.canLayAll0 ds = true ∧ PyData.depthAll ds ≤ n
theorem lays_nil {n : Nat} : Lays n [] := ⟨rfl, Nat.zero_le _⟩
theorem lays_cons {n : Nat} {d : PyData} {ds : List PyData} (h : Lay n d) (t : Lays n ds) : Lays n (d :: ds) := by
  constructor
  · show (d.canLay0 && PyData.canLayAll0 ds) = true
    rw [h.1, t.1]
    rfl
  · show max d.depth (PyData.depthAll ds) ≤ n
    exact Nat.max_le.mpr ⟨h.2, t.2⟩
theorem lays_of {n : Nat} : ∀ {ds : List PyData}, (∀ d ∈ ds, Lay n d) → Lays n ds
  | [], _ => lays_nil
  | d :: ds, h => lays_cons (h d List.mem_cons_self) (lays_of fun x hx => h x (List.mem_cons_of_mem _ hx))
theorem lay_tuple {n : Nat} {ds : List PyData} (h : Lays n ds) : Lay (n + 1) (.tuple ds) := ⟨h.1, Nat.succ_le_succ h.2⟩
theorem lay_list {n : Nat} {ds : List PyData} (h : Lays n ds) : Lay (n + 1) (.list ds) := ⟨h.1, Nat.succ_le_succ h.2⟩
theorem lay_int {n : Nat} {i : Int} : Lay n (.int i) := ⟨rfl, Nat.zero_le _⟩
theorem lay_str {n : Nat} {s : Str} (h : PyData.strOk s = true) : Lay n (.str s) := ⟨h, Nat.zero_le _⟩
theorem lay_up {m n : Nat} {d : PyData} (h : Lay m d) (k : m ≤ n) : Lay n d := ⟨h.1, Nat.le_trans h.2 k⟩
theorem lays_up {m n : Nat} {ds : List PyData} (h : Lays m ds) (k : m ≤ n) : Lays n ds := ⟨h.1, Nat.le_trans h.2 k⟩
theorem lays_mem {n : Nat} : ∀ {ds : List PyData}, Lays n ds → ∀ d ∈ ds, Lay n d
  | d :: ds, h, x, hx => by
    have h1 : (d.canLay0 && PyData.canLayAll0 ds) = true := h.1
    have h2 : max d.depth (PyData.depthAll ds) ≤ n := h.2
    rw [Bool.and_eq_true] at h1
    rw [Nat.max_le] at h2
    rcases List.mem_cons.mp hx with e | e
    · rw [e]
      exact ⟨h1.1, h2.1⟩
    · exact lays_mem ⟨h1.2, h2.2⟩ x e
theorem lays_strs {n : Nat} {ns : List Str} (h : ∀ s ∈ ns, PyData.strOk s = true) : Lays n (ns.map PyData.str) := lays_of fun d hd => by
  obtain ⟨s, hs, rfl⟩ := List.mem_map.mp hd
  exact lay_str (h s hs)
theorem lays_ints {n : Nat} {ns : List Int} : Lays n (ns.map PyData.int) := lays_of fun d hd => by
  obtain ⟨s, _, rfl⟩ := List.mem_map.mp hd
  exact lay_int
theorem shape {n : Nat} {d : PyData} (h : Lay n d) (k : n ≤ 64) : SeqAt.shaped d = true := by
  unfold SeqAt.shaped
  rw [Bool.and_eq_true]
  exact ⟨h.1, decide_eq_true (Nat.le_trans h.2 k)⟩
theorem eq_refl {n : Nat} {d : PyData} (h : Lay n d) : PyData.eqv d d = true := SeqAt.eqv_refl d h.1

/-! ### strict order of lists of texts, and equal lists -/
def Asc (l : List Str) : Prop := l.Pairwise fun x y => x.cps.toList < y.cps.toList
theorem asc_of : ∀ {l : List Str}, sortedS l = true → l.Nodup → Asc l := by
  intro l h nd
  have key : ∀ (d i : Nat) (x y : Str), l[i]? = some x → l[i + (d + 1)]? = some y → x.cps.toList < y.cps.toList := by
    intro d
    induction d with
    | zero => exact fun i x y h1 h2 => sorted_at h nd h1 h2
    | succ d ih =>
      intro i x y h1 h2
      have hl : i + (d + 1) < l.length := by
        have := (List.getElem?_eq_some_iff.mp h2).1
        omega
      have h3 : l[i + (d + 1)]? = some l[i + (d + 1)] := List.getElem?_eq_getElem hl
      exact List.lt_trans (ih i x _ h1 h3) (sorted_at h nd h3 h2)
  refine List.pairwise_iff_getElem.mpr fun i j hi hj hij => ?_
  exact key (j - i - 1) i _ _ (List.getElem?_eq_getElem hi) (by rw [show i + (j - i - 1 + 1) = j by omega]; exact List.getElem?_eq_getElem hj)
theorem asc_nodup {l : List Str} (h : Asc l) : l.Nodup := List.Pairwise.imp (fun {x y} hxy e => by
  rw [e] at hxy
  exact List.lt_irrefl _ hxy) h
theorem asc_eq : ∀ {l m : List Str}, Asc l → Asc m → (∀ x, x ∈ l ↔ x ∈ m) → l = m
  | [], [], _, _, _ => rfl
  | [], y :: m, _, _, h => absurd ((h y).mpr List.mem_cons_self) (by simp)
  | x :: l, [], _, _, h => absurd ((h x).mp List.mem_cons_self) (by simp)
  | x :: l, y :: m, h1, h2, h => by
    obtain ⟨a1, a2⟩ := List.pairwise_cons.mp h1
    obtain ⟨b1, b2⟩ := List.pairwise_cons.mp h2
    have e : x = y := by
      rcases List.mem_cons.mp ((h x).mp List.mem_cons_self) with e | e
      · exact e
      · rcases List.mem_cons.mp ((h y).mpr List.mem_cons_self) with e' | e'
        · exact e'.symm
        · exact absurd (List.lt_trans (a1 y e') (b1 x e)) (List.lt_irrefl _)
    subst e
    have nl : x ∉ l := fun z => List.lt_irrefl _ (a1 x z)
    have nm : x ∉ m := fun z => List.lt_irrefl _ (b1 x z)
    rw [asc_eq a2 b2 fun z => ⟨fun hz => (List.mem_cons.mp ((h z).mp (List.mem_cons_of_mem _ hz))).resolve_left fun e => nl (e ▸ hz), fun hz => (List.mem_cons.mp ((h z).mpr (List.mem_cons_of_mem _ hz))).resolve_left fun e => nm (e ▸ hz)⟩]

/-! ### sorted(xs), xs tuples of ints of one length: some order -/
def rSortRows (K : PySem.W.Frag) : List V → Hp → VK → Prop := fun vs H Q => ∃ (a : Addr) (xs : List V) (d : Nat) (B : Int), vs = [V.ref a] ∧ SqL K H a xs ∧ xs.length < 64 ∧ (∀ x ∈ xs, ∃ ns, TupI K H x ns ∧ ns.length = d ∧ TS.Bd B ns) ∧ (d = 0 → xs.length ≤ 1) ∧
  ∀ (ys : List V) (p : Addr), ys.Perm xs → H p = none → Q (.ref p) (upd H p (.lst ys))
theorem cr_sortRows {X : Cx} : CallR X (.builtin "sorted") (rSortRows X.K) := by
  intro pins s σ H vs us Q I r h
  obtain ⟨a, xs, d, B, rfl, hs, h64, hx, h1, q⟩ := h
  by_cases hd : 1 ≤ d
  · exact cr_sortT hd pins s σ H _ us Q I r ⟨a, xs, rfl, hs, h64, hx, fun ys p pm _ n => q ys p pm n⟩
  · have hl1 : xs.length ≤ 1 := h1 (by omega)
    obtain ⟨its, rv, hl, hz⟩ := I.list hs
    have hlen := rv.length
    rw [Vals.ref1 r]
    refine Srt.sorted_any hl.isList (by rw [← hlen]; exact hz) (fun h2 => absurd h2 (by omega)) fun out hp => ?_
    have e : out = its := by
      match its, hlen, hp with
      | [], _, hp => exact hp.eq_nil
      | [v], _, hp => exact List.perm_singleton.mp hp
      | _ :: _ :: _, hlen, _ =>
        simp only [List.length_cons] at hlen
        omega
    subst e
    obtain ⟨ep, he'⟩ := PyProof.Rows.sortedAll_at s.heap out out.toArray
    exact ⟨.ref _, upd H (s.heap.objs.size + 1) (.lst xs), I.laid (t' := s.toks) (fun _ _ => PyProof.Rows.sortedAll_old) (Nat.le_succ _) ⟨hz, out, ep, rv, by simpa using he'⟩, rfl, q xs _ (List.Perm.refl _) (I.hok.fresh (Nat.le_succ _))⟩

/-! ### the room of a call for a comparison of data -/
theorem room {k : Nat} {A : Around} (r : Room k A) : A.units + 65 < cLine := by
  have := r.un
  omega

/-! ### a list or a tuple of data -/
theorem dp_seq {K : PySem.W.Frag} {H : Hp} {v : V} {ds : List PyData} (h : Dp K H v (.list ds) ∨ Dp K H v (.tuple ds)) : ∃ a xs, v = .ref a ∧ DpAll K H xs ds ∧ (SqL K H a xs ∨ SqT K H a xs) := by
  rcases h with h | h
  · obtain ⟨a, xs, rfl, s, t⟩ := dp_lst h
    exact ⟨a, xs, rfl, t, .inl s⟩
  · obtain ⟨a, xs, rfl, s, t⟩ := dp_tup h
    exact ⟨a, xs, rfl, t, .inr s⟩

/-! ### name = {k: v for ..} -/
section
variable {X : Cx}
theorem ps_setDc {i : Nat} {y : Str} {py : Pos} {kx vx tg iter : Expr} {ifs : List Expr} {scope : Scope} {own : List (Str × Nat)} {pos spos : Pos} {wi : TI} {g : TG} {tt : TT} {tk tv : TE} (hc : X.calm = true) (hN : X.N.Nodup) (hy : X.N[i]? = some y) (hyl : X.env.scope.names.lookup y = some .local)
    (hsw : swapsWith (.DictComp kx vx [⟨tg, iter, ifs, 0⟩] scope pos) (some (.Name y py)) spos.line X.env = pure true) (hi : PI X tg iter wi) (ok : BlkOk X.N X.env.scope scope own)
    (hg : ∀ (s : Shared) (H : Hp) (C : Addr) (cl : List (Str × Addr)) (fp : List Addr), PG (X.blk s H scope (compEnvC scope cl C X.env) fp) tg g) (ht : ∀ (s : Shared) (H : Hp) (C : Addr) (cl : List (Str × Addr)) (fp : List Addr), PTs (X.blk s H scope (compEnvC scope cl C X.env) fp) ifs tt)
    (hk : ∀ (s : Shared) (H : Hp) (C : Addr) (cl : List (Str × Addr)) (fp : List Addr), PE (X.blk s H scope (compEnvC scope cl C X.env) fp) kx tk)
    (he : ∀ (s : Shared) (H : Hp) (C : Addr) (cl : List (Str × Addr)) (fp : List Addr), PE (X.blk s H scope (compEnvC scope cl C X.env) fp) vx tv) (hs : ∀ x, foldedSetIterable iter X.env x = pure x := by intro _; rfl) :
    PS X (.Assign [.Name y py] (.DictComp kx vx [⟨tg, iter, ifs, 0⟩] scope pos) spos) (tAsg (tDc wi g tt tk tv (own.map (·.2))) (gName i)) := by
  refine ⟨fun pins s σ H D I h => ?_⟩
  rw [exec_Assign_Name_used _ _ _ _ hsw]
  refine wpAny_bind (wpAny_standAt (wpAny_bind ?_))
  show wpAny _ X.A (do let _ ← comprehension (.DictComp kx vx [⟨tg, iter, ifs, 0⟩] scope pos) scope X.env _ newDict false (eval iter X.env) (some (assign (.Name y py) X.env))) _ _ s
  have h : tDc wi g tt tk tv (own.map (·.2)) σ H (fun x H1 => gName i x σ H1 D.nx) := h
  refine wpAny_bind (thn (dc_core (Qf := fun _ s' => SP X pins D .next s') hc hN I hi ok hg ht hk he hs h fun L C s' m H' I' q hn f => ?_) fun _ s' hq => wpAny_pure (wpAny_pure hq))
  show wpAny _ _ (assign (.Name y py) X.env (.ref L)) _ _ _
  refine wpAny_assign_Name (store_ok2 (v := V.ref L) I' hN hy (.inl hyl) rfl (fun s2 I2 ⟨a, sb, ha⟩ => ?_) (.inr hyl))
  obtain ⟨f0, f1, f2, f3, f4, f5⟩ := f
  have haC : C ≠ a := by
    rcases ha with z | z
    · rw [z]; exact f1
    · exact fun e => f4 y a z e.symm
  refine ⟨m, hn.sameBut sb haC, fun h3 sb3 => ?_⟩
  exact ⟨_, H', I2.turned (t' := s2.toks) (fun b o hb e => (sb3.2 b hb).trans e) f0 f1 f3 f4 f5, q⟩
theorem sw_trueD {kx vx : Expr} {gs : List Comprehension} {scope : Scope} {pos py : Pos} {y : Str} {l : Nat} {env : Env} (hk : env.scope.kind = .function) (hy : env.scope.names.lookup y = some .local) (hl : (py.line == pos.line) = true)
    (ha : (scope.names.any fun (n, k) => n == y && (k == .local || k == .cell)) = false) : swapsWith (.DictComp kx vx gs scope pos) (some (.Name y py)) l env = pure true := by
  have ky : env.kindOf y = some .local := hy
  have hb : env.blockKind = .function := by unfold Env.blockKind; rw [hk]; rfl
  unfold swapsWith
  simp only [hb, ky, ha, Expr.pos, hl]
  rfl
end
end Dx
/-! An own exception's __init__ that begins with super().__init__(e), over ValueError. -/
namespace Sup
open PySem PySem.Spec PyProof.Rows L2 NdefX
abbrev vei : String := "ValueError.__init__"
def mwO (u a : Addr) : HO := .ext fun h => h.get? u = some (PySem.W.kxs_mw vei a)
theorem mwO_ok {P : Program} {w : World} {H : Hp} {h : Heap} {u a : Addr} (e : h.get? u = some (PySem.W.kxs_mw vei a)) : ObjOk P w H h u (mwO u a) := ⟨e, ⟨_, e⟩, fun h1 h2 z k => k _ z⟩
theorem mwO_at {P : Program} {w : World} {H : Hp} {h : Heap} {u a : Addr} (hok : HOk P w H h) (e : H u = some (mwO u a)) : h.get? u = some (PySem.W.kxs_mw vei a) := by
  have x : ObjOk P w H h u (.ext fun h => h.get? u = some (PySem.W.kxs_mw vei a)) := hok u _ e
  exact x.1
/-- what the written part says of a def that says super() -/
structure SupF (P : Program) (K : PySem.W.Frag) (mg : Str → Option Value) (env : Env) (sn : Str) (D : Addr) : Prop where
  ks : env.kindOf "super" = some .globalImplicit
  kc : env.kindOf "__class__" = some .free
  fn : ∃ (f : Addr) (oc : Value) (od : Option Addr) (fd : FuncData) (osl : Array (Option Value)) (ar : Arg), env.func = some f ∧ K.lookup f = some ⟨oc, od, .func fd, osl⟩ ∧ (fd.params.posonlyargs ++ fd.params.args).head? = some ar ∧ ar.arg = sn
  co : ∃ (cda : Addr) (ccl : Value) (cdd : Option Addr) (vs : Array Value) (ccs : Array (Option Value)) (file : Str) (tf : Tok), env.code = .ref cda ∧ K.lookup cda = some ⟨ccl, cdd, .fields vs, ccs⟩ ∧ vs[2]? = some (.str file tf) ∧ ((P.main.file : Str) == file) = true
  top : (P.main.scope.names.lookup ("super" : Str)).isSome = false
  ce : ∃ (cc : Addr) (cl : Value) (cld : Option Addr) (csl : Array (Option Value)), env.cells.lookup ("__class__" : Str) = some cc ∧ K.lookup cc = some ⟨cl, cld, .cell (some (.ref D)), csl⟩
  mg : mg "super" = none
  any : PySem.W.nsIn K cStatics "thirdparty.any" = some none
  it : interactive env = false
  ka : env.kindOf sn = some .local
/-- .. and of the class of the object -/
structure SupC (K : PySem.W.Frag) (C D : Addr) : Prop where
  cls : ∃ cd, PySem.W.clsIn K D = some cd
  sub : PySem.W.mroIn K C (.ref D) = some true
  sup : PySem.W.ks_superIn K C D "__init__" = some (some (.builtin vei))
  ve : PySem.W.subIn K (.ref C) (.type "ValueError") = some true
  exc : OexC K C
section
variable {X : Cx} {pins : List (Addr × Obj)} {σ : List (Option V)} {H : Hp} {s : Shared} {self : Str} {D a C : Addr} {body : List Stmt} {p0 p1 p2 pos pos' : Pos} {e : Expr} {te : TE}
theorem ld_super {E : Value → Shared → Prop} {Q : Value → Shared → Prop} (I : Inv X pins σ H s) (S : SupF X.prog X.K X.mg X.env self D) (h : Q (.type "super") s) : wpAny (model X.prog X.w) X.A (loadName X.env "super") Q E s := by
  obtain ⟨mb, h1, h2⟩ := I.mod.blt
  exact PySem.W.ks_loadName_global I.ok.kind S.ks (Calls.loadGlobal_builtin (by rw [I.ok.glob]; exact I.mod.glob.keeps I.bk) S.mg (by rw [I.ok.blt]; exact h1.keeps I.bk) ((h2 _ (by decide)).trans (by rfl)) h)
theorem self_at (I : Inv X pins σ H s) {u : V} (h1 : X.N[0]? = some self) (h2 : σ[0]? = some (some u)) (hk : X.env.kindOf self = some .local) : ∃ m v, s.heap.Ns X.env.locals m ∧ m self = some v ∧ RelV u v := by
  obtain ⟨m, hn, hl⟩ := I.loc
  obtain ⟨v, r, k⟩ := hl 0 self u h1 h2 (.inl hk)
  rcases k with ⟨_, k⟩ | ⟨k, _⟩
  · exact ⟨m, v, hn, k, r⟩
  · rcases k with k | k <;> · rw [hk] at k; cases k
theorem exo_inst {C a : Addr} (T : OexC X.K C) (I : Inv X pins σ H s) (e : H a = some (exo a C none)) : ∃ t1 : Addr, PySem.W.InstAt s.heap a { cls := .ref C, dict := none, data := .fields #[.ref t1, .none, .none, .none, .bool false, .none] } C none := by
  obtain ⟨t1, ho⟩ := exo_at I.hok e
  exact ⟨t1, ho, rfl, rfl, trivial⟩
/-- the wrapper called -/
theorem call_mw {u : Addr} {us : List Value} {Q : Value → Shared → Prop} {E : Value → Shared → Prop} {A : Around} (T : OexC X.K C) (I : Inv X pins σ H s) (eu : H u = some (mwO u a)) (ea : H a = some (exo a C none)) (hl : us.length ≤ sizeLine) (h : ∀ s', Inv X pins σ H s' → Q .none s') :
    wpAny (model X.prog X.w) A (call (.ref u) us) Q E s := by
  obtain ⟨nm, q, N, bs, bm, sn, sub, ab, col, dd, k0, k1, k2, k3, k5, hC, hbm⟩ := T.cls
  obtain ⟨t1, ho⟩ := exo_at I.hok ea
  have hu := mwO_at I.hok eu
  have hCh := I.kIn _ _ hC
  have FB := F.excBase_ValueError
  obtain ⟨hp, g, d, t, os⟩ := s
  refine wpAny_call (codeAny_of_tree ?_)
  show wpAny _ A.in1 (callAny (.ref u) ⟨us, []⟩) _ _ _
  simp only [callAny]
  refine wpAny_bind (wpAny_load hu ?_)
  simp only [PySem.W.kxs_mw, show (Value.type "method-wrapper" == Value.type "method" || Value.type "method-wrapper" == Value.type "builtin_function_or_method" || Value.type "method-wrapper" == Value.type "method-wrapper") = true by decide, if_true]
  refine PySem.W.KFB.if_so (by decide) ?_
  refine wpAny_bind (PySem.W.check_bound_init FB.toExcCallFacts hCh ho rfl ?_)
  refine wpAny_bind (wpAny_pure (wpAny_pure ?_))
  refine ⟨plainId_quiet FB.init.plain _, codeAny_builtin FB.initEntry ?_⟩
  refine PySem.W.exc_init_tree (cls := .ref C) (t0 := t1) (dv := none) (c2 := .none) (c3 := .none) (b4 := .bool false) ho hl fun h' k hx _ => ?_
  have J := I.write (t' := t) (x := a) (e := a) (o := exo a C none) (by rw [ea]; exact True.intro) (.inl rfl) k ⟨_, hx⟩ (exo_ok hx)
  have eu2 : upd H a (exo a C none) = H := by
    funext b
    by_cases hb : b = a
    · rw [hb, upd_same, ea]
    · rw [upd_ne hb]
  rw [eu2] at J
  exact h _ J
theorem sup_stmt {es : List Expr} {pl : Sem Bool} {ta : TA} {G : Hp → Prop} {Q : Flow → Shared → Prop} (I : Inv X pins σ H s) (S : SupF X.prog X.K X.mg X.env self D) (T : SupC X.K C D) (hN : X.N[0]? = some self) (h0 : σ[0]? = some (some (.ref a))) (ea : H a = some (exo a C none)) (ha : PA X (e :: es) ta)
    (h : ∀ u, H u = none → ta σ (upd H u (mwO u a)) fun vs H2 => vs.length ≤ 1000 ∧ H2 u = some (mwO u a) ∧ H2 a = some (exo a C none) ∧ G H2) (hq : ∀ H2 s', Inv X pins σ H2 s' → G H2 → Q .next s')
    (hev : eval (.Call (.Attribute (.Call (.Name "super" p0) [] [] p1) "__init__" p2) (e :: es) [] pos) X.env = (do
      let ov ← attributeBase (.Call (.Name "super" p0) [] [] p1) "__init__" X.env (eval (.Call (.Name "super" p0) [] [] p1) X.env)
      standAt p2.atName
      let (f, first) ← holding [ov] (getMethod ov "__init__" pl)
      callWith pos f first (backTo pos (starEach (e :: es) X.env)) []) := by rfl)
    (he : starEach (e :: es) X.env = (false, eval e X.env) :: starEach es X.env := by rfl) (hpl : (backTo pos (starEach es X.env)).any (·.1) = false := by rfl) :
    _root_.PySem.wpAt (model X.prog X.w) X.A (.func body X.env) (exec (.Expr (.Call (.Attribute (.Call (.Name "super" p0) [] [] p1) "__init__" p2) (e :: es) [] pos) pos') X.env) Q X.xe s := by
  refine ks_wpAt_Expr_any ?_ S.it
  refine ks_wpAt_MethodCall ?_ hev
  obtain ⟨f, oc, od, fd, osl, ar, hfu, lf, hp, har⟩ := S.fn
  obtain ⟨cda, ccl, cdd, vs, ccs, file, tf, hco, lc, hvs, hfile⟩ := S.co
  obtain ⟨cc, cl, cld, csl, hcl, lcc⟩ := S.ce
  obtain ⟨m, v, hn, hv, rv⟩ := self_at I hN h0 S.ka
  obtain rfl : v = Value.ref a := rv
  obtain ⟨t1, inst⟩ := exo_inst T.exc I ea
  obtain ⟨cdD, hD⟩ := T.cls
  have XK := I.kIn
  obtain ⟨oD, hD1, hD2⟩ : ∃ oD, s.heap.get? D = some oD ∧ oD.data = .cls cdD := by
    unfold PySem.W.clsIn at hD
    split at hD
    · rename_i c d cd' sl ho
      cases hD
      exact ⟨_, XK _ _ ho, rfl⟩
    · cases hD
  refine ks_wpAt_super_base S.ks S.kc (by decide) hfu (XK _ _ lf) rfl hp hco (XK _ _ lc) rfl hvs hfile S.top ?_
  refine ld_super I S ⟨rfl, ?_⟩
  refine wpAny_loadName_free I.ok.kind S.kc hcl ⟨_, XK _ _ lcc, rfl⟩ ?_
  refine wpAny_loadName_local I.ok.kind (har ▸ S.ka) hn (har ▸ hv) ?_
  refine ks_wpAny_isType_cls hD1 hD2 ⟨rfl, ?_⟩
  obtain ⟨hp0, g, d, t, os⟩ := s
  refine ks_wpAny_call_super hD1 hD2 inst.at_ rfl (fun c e => by cases e) (PySem.W.looks_mroIn XK T.sub) fun h' eso k => ?_
  have I2 : Inv X pins σ H ⟨h', g, d, t, os⟩ := I.kept (t' := t) k
  have XK2 := I2.kIn
  have sup := T.sup
  unfold PySem.W.ks_superIn at sup
  cases hc : PySem.W.clsIn X.K C with
  | none =>
    rw [hc] at sup
    cases sup
  | some cd =>
    rw [hc] at sup
    obtain ⟨t2, inst2⟩ := exo_inst T.exc I2 ea
    refine PySem.W.kxs_getMethod PySem.W.kxs_ValueError eso (PySem.W.looks_opaque XK2 S.any) (l₀ := cd.mro) ?_ rfl XK2 sup (inst2.type.andThen (PySem.W.looks_subIn XK2 T.ve)) (PySem.W.ks_ne XK2 inst2 hc) (by decide) ?_
    · exact fun A Q E s k q => wpAny_bind ((PySem.W.looks_clsIn XK2 hc) A _ E s k (wpAny_pure q))
    · have hnu : H h'.objs.size = none := I2.hok.fresh (Nat.le_refl _)
      have gu : (h'.push (PySem.W.kxs_mw vei a)).get? h'.objs.size = some (PySem.W.kxs_mw vei a) := Heap.get?_push_at rfl rfl
      have I3 : Inv X pins σ (upd H h'.objs.size (mwO h'.objs.size a)) ⟨h'.push (PySem.W.kxs_mw vei a), g, d, t + 1, os⟩ :=
        I2.laid (t' := t + 1) (fun b o e => Heap.get?_push_of_some _ e) (Nat.le_refl _) (mwO_ok gu)
      show wpAny _ _ (callWith pos (.ref h'.objs.size) [] (backTo pos (starEach (e :: es) X.env)) []) _ _ _
      have run := ha.run pos pins _ σ _ _ I3 (h _ hnu)
      rw [he] at run ⊢
      refine PySem.W.kxs_callWith (i := vei) (x := a) (by show (false || (backTo pos (starEach es X.env)).any (·.1)) = false; rw [hpl]; rfl) ?_
      refine Calls.evalArgs_plain (thn run fun us s1 ⟨vs, H1, I1, r1, hz, eu, ea1, hG⟩ => ⟨mwO_at I1.hok eu, ?_⟩)
      exact call_mw T.exc I1 eu ea1 (by show us.length ≤ _; rw [← Paired.length r1, sizeLine_eq]; omega) fun s' J => hq H1 s' J hG
end
section
variable {CX : CXT} {P : Program} {w : World} {K : PySem.W.Frag} {mg : Str → Option Value} {base : Heap} {k : Nat} {F : NF} {f cc D : Addr} {kV doc pm ct oc : Value} {an od : Option Addr} {osl : Array (Option Value)} {N ps : List Str} {sp : Sp} {self : Str} {e : Expr} {es : List Expr} {p0 p1 p2 pos pos' : Pos} {rest : List Stmt} {pl : Sem Bool}
theorem fn_sup (lk : K.lookup f = some ⟨oc, od, .func (PySem.W.fnX F.name F.qual F.params F.body F.scope F.cl .none kV doc pm an (.ref F.c) ct), osl⟩) (hcd : PySem.W.codeIn K (.ref F.c) F.qual = true) (hcl : F.cl = [(("__class__" : Str), cc)])
    (hcc : ∃ cl cld csl, K.lookup cc = some ⟨cl, cld, .cell (some (.ref D)), csl⟩) (S : NScope N ps ["__class__"] F.scope) (hF : ∀ L, SupF P K mg (envF F f L) self D) (hN : N[0]? = some self)
    (hbd : F.body = .Expr (.Call (.Attribute (.Call (.Name "super" p0) [] [] p1) "__init__" p2) (e :: es) [] pos) pos' :: rest)
    (len : ∀ vs H Q E, sp vs H Q E → vs.length = ps.length)
    (hbody : ∀ (A : Around) (outer : List Env) (s : Shared) (H : Hp) (vs : List V) (Q : VK) (E : XK), Room k (A.deeper (envF F f s.heap.objs.size)) → sp vs H Q E →
      ∃ (a C : Addr) (ta : TA) (t : TS), SupC K C D ∧ (startF N vs [none])[0]? = some (some (.ref a)) ∧ H a = some (exo a C none) ∧ PA (ncx CX P w K mg base N F f A outer s H E) (e :: es) ta ∧ PSs (ncx CX P w K mg base N F f A outer s H E) rest t ∧
        ∀ u, H u = none → ta (startF N vs [none]) (upd H u (mwO u a)) fun vs' H2 => vs'.length ≤ 1000 ∧ H2 u = some (mwO u a) ∧ H2 a = some (exo a C none) ∧ t { nx := fun _ H' => Q .non H', rt := Q } (startF N vs [none]) H2)
    (hev : ∀ L, eval (.Call (.Attribute (.Call (.Name "super" p0) [] [] p1) "__init__" p2) (e :: es) [] pos) (envF F f L) = (do
      let ov ← attributeBase (.Call (.Name "super" p0) [] [] p1) "__init__" (envF F f L) (eval (.Call (.Name "super" p0) [] [] p1) (envF F f L))
      standAt p2.atName
      let (g, first) ← holding [ov] (getMethod ov "__init__" pl)
      callWith pos g first (backTo pos (starEach (e :: es) (envF F f L))) []) := by intro L; rfl)
    (he : ∀ L, starEach (e :: es) (envF F f L) = (false, eval e (envF F f L)) :: starEach es (envF F f L) := by intro L; rfl) (hpl : ∀ L, (backTo pos (starEach es (envF F f L))).any (·.1) = false := by intro L; rfl) :
    FnOk P w K mg base CX (k + 1) f (PySem.W.fnX F.name F.qual F.params F.body F.scope F.cl .none kV doc pm an (.ref F.c) ct) ps sp := by
  refine ⟨len, fun A outer s H args us vs Q E hr e0 hb r hsp => ?_⟩
  have hl := len _ _ _ _ hsp
  have KX : K.In s.heap := e0.mod.kin.keeps fun b o e => (e0.bs b o e).1
  have lim : s.heap.NoLimit := e0.mod.nolimit.keeps fun b o e => (e0.bs b o e).1
  obtain ⟨cl, cld, csl, hcc⟩ := hcc
  have C : CellsAt F.cl ["__class__"] [none] s.heap H := by
    have one : ∀ {y : Str} {c : Addr}, F.cl.lookup y = some c → y = "__class__" ∧ c = cc := fun {y c} e => by
      rw [hcl] at e
      by_cases h : y = ("__class__" : Str)
      · subst h
        have e2 : some cc = some c := e
        exact ⟨rfl, (Option.some.inj e2).symm⟩
      · have h2 : (y == ("__class__" : Str)) = false := by simpa using h
        rw [List.lookup_cons, h2] at e
        cases e
    refine ⟨rfl, fun y c e => ?_, fun x y c e1 e2 => (one e1).1.trans (one e2).1.symm, fun i y hi => ?_⟩
    · rw [(one e).2]
      exact ⟨(e0.bs _ _ (e0.mod.kin _ _ hcc)).2, _, ⟨_, KX _ _ hcc, rfl⟩⟩
    · cases i with
      | zero =>
        have e : ("__class__" : Str) = y := Option.some.inj hi
        refine ⟨cc, by rw [hcl, ← e]; rfl, fun v hv => ?_⟩
        cases hv
      | succ i => cases hi
  refine ks_codeAny_call_defAt hr.depth (KX _ _ lk) rfl lim (PySem.W.codeRec_of KX hcd) rfl hb S.nocell (fun ⟨n, v⟩ hy => S.par n (List.of_mem_zip hy).1) (fun h₁ hns kp => ?_) S.co S.gen S.kind
  show _root_.PySem.wpAt (model P w) (A.deeper (envF F f s.heap.objs.size)) (.func F.body (envF F f s.heap.objs.size)) (execs F.body (envF F f s.heap.objs.size)) _ _ _
  obtain ⟨a, Ca, ta, t, hC, h0, ea, pa, ps', hq⟩ := hbody A outer s H vs Q E (hr.deeper _) hsp
  have I : Inv (ncx CX P w K mg base N F f A outer s H E) [] (startF N vs [none]) H { s with heap := h₁, toks := s.toks + (ps.zip us).length } := inv_startN S hr.hd e0 hl r C hns kp
  have fin : ∀ {s' : Shared} {σ' : L2.St} {H' : Hp} {v : V} {u : Value}, Inv (ncx CX P w K mg base N F f A outer s H E) [] σ' H' s' → L2.RelV v u → Q v H' → CE outer P w H s Q u s' :=
    fun {s' σ' H' v u} J rv q => ⟨v, H', J.os, J.bare, J.base, J.hok, rv, q⟩
  have main : ∀ (body : List Stmt), _root_.PySem.wpAt (model P w) (A.deeper (envF F f s.heap.objs.size)) (.func body (envF F f s.heap.objs.size)) (execs (.Expr (.Call (.Attribute (.Call (.Name "super" p0) [] [] p1) "__init__" p2) (e :: es) [] pos) pos' :: rest) (envF F f s.heap.objs.size))
      (fun fl s' => CR CX outer P w H s Q E (.ok (.ret (match fl with | .ret v => v | _ => .none))) s') (ncx CX P w K mg base N F f A outer s H E).xe { s with heap := h₁, toks := s.toks + (ps.zip us).length } := by
    intro body
    refine ks_wpAt_execs_cons ?_
    refine sup_stmt (X := ncx CX P w K mg base N F f A outer s H E) (body := body) (G := fun H2 => t { nx := fun _ H' => Q .non H', rt := Q } (startF N vs [none]) H2) I (hF _) hC hN h0 ea pa hq (fun H2 s' J hG => ?_) (hev _) (he _) (hpl _)
    refine wpAt_of_wpAny ?_
    refine wpAny_mono (ps'.run [] s' (startF N vs [none]) H2 _ J hG) (fun fl s' hs => ?_) fun e s' hs => hs
    cases fl with
    | ret u =>
      obtain ⟨v, σ', H', J, rv, q⟩ := hs
      exact fin J rv q
    | next =>
      obtain ⟨σ', H', J, q⟩ := hs
      exact fin (v := V.non) (u := Value.none) J rfl q
    | brk =>
      obtain ⟨_, _, _, q⟩ := hs
      exact False.elim q
    | cont =>
      obtain ⟨_, _, _, q⟩ := hs
      exact False.elim q
  have m2 := main F.body
  rw [← hbd] at m2
  exact m2
end
end Sup
/-! Own errors with one field, whose __init__ says super().__init__(f'..'). -/
namespace Er
open PySem PySem.Spec PyProof.Rows L2 Bx TL Dx Sup NdefX
/-- __init__(self, y): the error at a gets a dict with f = y -/
def spErr (ok : V → Prop) (C : Addr) (f : Str) : Sp := fun vs H Q _ => ∃ (a : Addr) (v : V), vs = [.ref a, v] ∧ ok v ∧ H a = some (exo a C none) ∧
  ∀ (d : Addr) (H' : Hp), (∀ b o, b ≠ a → H b = some o → H' b = some o) → H d = none → d ≠ a → H' a = some (exo a C (some d)) → H' d = some (exd d [(f, v)]) → Q .non H'
/-- the class at C, named x: an own error over ValueError with one field -/
structure Err (P : Program) (w : World) (K : PySem.W.Frag) (mg : Str → Option Value) (base : Heap) (x : Str) (C : Addr) (f y : Str) (ok : V → Prop) (k : Nat) : Prop where
  init : ∃ (fI : Addr) (fd : FuncData), PySem.W.findIn K (.ref C) "__init__" = some (some (.ref fI)) ∧ PySem.W.typeIn K (.ref fI) = some (.type "function") ∧ FnOk P w K mg base CX0 k fI fd ["self", y] (spErr ok C f) ∧ Binds K fd ["self", y] []
  exc : OexC K C
  g : mg x = some (.ref C)
  te : PySem.W.exmOne K (.ref C) (.ref C) = some true
  xf : XfC K C
  no : PySem.W.findIn K (.ref C) f = some none
section
variable {X : Cx} {x : Str} {C : Addr} {f y : Str} {ok : V → Prop} {k : Nat} {e : Expr} {te : TE} {p pos pos' : Pos} {W : WX}
theorem ps_raiseE (c : Err X.prog X.w X.K X.mg X.base x C f y ok k) (hc : X.calm = true) (tk : Takes X W) (hr : Room (k + 1) X.A) (he : PE X e te) (hg : Gl X x := by rfl) (hdb : (x == ("__debug__" : Str)) = false := by decide)
    (hst : starEach [e] X.env = (false, eval e X.env) :: starEach [] X.env := by rfl) (hpl : (backTo pos (starEach [] X.env)).any (·.1) = false := by rfl) :
    PS X (.Raise (some (.Call (.Name x p) [e] [] pos)) none pos') (fun _ σ H => te σ H fun v H1 => ok v ∧ ∀ d H3, Same H1 H3 → H1 d = none → H3 d = some (.xd [(f, v)]) → W (.ref C) (some d) σ H3) := by
  obtain ⟨fI, fd, iC, tI, F1, hb⟩ := c.init
  have he2 : PE X e (fun σ H Q => ∃ R : VK, te σ H R ∧ ∀ v H1, R v H1 → Q v H1) := ⟨fun pins s σ H Q I ⟨R, h, hR⟩ => thn (he.run pins s σ H R I h) fun v s1 ⟨x, H1, I1, r, q⟩ => ⟨x, H1, I1, r, hR _ _ q⟩⟩
  have z := ps_raise (pos := pos') hc tk (pmk_oex (pos := pos) (p := p) (dvs := []) c.exc iC tI F1 hr hb .nil (pass0) hg c.g (pa_cons he2 pa_nil hst) hdb hst hpl)
  refine ⟨fun pins s σ H D I h => z.run pins s σ H D I ?_⟩
  refine ⟨_, h, fun v H1 hq => ?_⟩
  obtain ⟨hok, hw⟩ := hq
  refine ⟨by show 1 ≤ 1000; decide, fun a na => ⟨a, v, rfl, hok, upd_same, fun d H' keep nd da ea ed => ?_⟩⟩
  have nd1 : H1 d = none := by
    rw [upd_ne da] at nd
    exact nd
  refine ⟨rfl, d, _, ea, ed, nd1, hw d _ (fun b o e => ?_) nd1 upd_same⟩
  have ba : b ≠ a := ne_of_none e na
  rw [upd_ne (ne_of_none e nd1), del_ne ba]
  exact keep b o ba (by rw [upd_ne ba]; exact e)
end
/-! ### isinstance of an error with a dict -/
def rIsD (K : PySem.W.Frag) (a : Addr) (cls : Value) (d : Option Addr) : List V → Hp → VK → Prop := fun xs H Q => ∃ (D dd : Addr) (c : V) (cv : Value) (b : Bool) (fs : List (Str × V)), xs = [.ref a, c] ∧ cls = .ref D ∧ d = some dd ∧ (PySem.W.clsIn K D).isSome = true ∧ ExcC K D ∧
  H dd = some (.xd fs) ∧ (∀ u, RelV c u → u = cv) ∧ PySem.W.kitOne K (.ref D) cv = some b ∧ Q (.bl b) H
theorem call_isD {X : Cx} {a : Addr} {cls : Value} {d : Option Addr} {oe : Obj} {pn : List (Addr × Obj)} (hz : Zc cls d oe) (hf : ∃ vs, oe.data = .fields vs) : CallR (X.suite a ((a, oe) :: pn)) (.builtin "isinstance") (rIsD X.K a cls d) := by
  intro pins s σ H xs us Q I r h
  obtain ⟨D, dd, c, cv, b, fs, rfl, rfl, rfl, hcl, C, hdd, hcv, e, q⟩ := h
  cases r with
  | cons rx rr =>
    cases rr with
    | cons rt rr =>
      cases rr
      cases rx
      have ec := hcv _ rt
      subst ec
      obtain ⟨hget, _⟩ := I.pin (a, oe) (List.mem_append.mpr (.inl List.mem_cons_self))
      obtain ⟨vs, hv⟩ := hf
      obtain ⟨oD, hD⟩ : ∃ o, s.heap.get? dd = some o := by
        obtain ⟨mA, hn, _⟩ := I.hok dd _ hdd
        obtain ⟨o, _, _, e, _⟩ := hn
        exact ⟨o, e⟩
      have J : PySem.W.InstAt s.heap a oe D (some oD) := by
        obtain ⟨oc, od, oda, osl⟩ := oe
        obtain ⟨h1, h2⟩ := hz
        dsimp only at h1 h2 hv
        subst h1 h2 hv
        exact ⟨hget, rfl, rfl, hD⟩
      exact PySem.W.kia_one (PySem.W.kitx_exc hcl C.hg C.hk C.hs C.ha C.hn C.ht C.hm) I.kIn J e (fun z => nomatch z) fun tk => ⟨.bl b, H, I.kept (t' := tk) fun _ _ z => z, rfl, q⟩
/-! ### calls of defs that may raise -/
section
variable {X : Cx} {CX : CXT} {k n : Nat} {f : Addr} {fd : FuncData} {ps ks : List Str} {sp : Sp} {E : L2.St → XK} {x : Str} {p pos : Pos} {e : Expr} {es : List Expr} {kws : List Keyword} {t tk : TA} {g : List Value → List Value → List Value} {gV : List V → List V → List V}
theorem run_fnNS {pins : List (Addr × Obj)} {σ : L2.St} {H : Hp} {s : Shared} {Q : VK} {us ws : List Value} {vs zs : List V} (F : FnOk X.prog X.w X.K X.mg X.base CX k f fd ps sp) (hr : Room k X.A) (hb : KBn X.K fd ps n ks g gV) (hx : PassesAt CX X σ (E σ))
    (I : Inv X pins σ H s) (r : Vals vs us) (rz : Vals zs ws) (l1 : vs.length = n) (l2 : zs.length = ks.length) (h : sp (gV vs zs) H Q (E σ)) : wpAny (model X.prog X.w) X.A (call (.ref f) us (ks.zip ws)) (EP X pins σ Q) X.xe s := by
  refine wpAny_call (codeAny_mono (F.run X.A X.stack s H ⟨us, ks.zip ws⟩ (g us ws) (gV vs zs) Q (E σ) hr I.env0 (hb.to s us ws I.kIn (by rw [← r.length]; exact l1) (by rw [← rz.length]; exact l2)) (hb.rel r rz) h) fun r s' hq => ?_)
  cases r with
  | error e => exact hx pins H s e s' I hq
  | ok fl =>
    cases fl with
    | ret u => exact I.after hq
    | next => exact False.elim hq
    | brk => exact False.elim hq
    | cont => exact False.elim hq
def tCallNS (n m : Nat) (sp : Sp) (gV : List V → List V → List V) (E : L2.St → XK) (t tk : TA) : TE := fun σ H Q => t σ H fun vs H1 => tk σ H1 fun zs H2 => vs.length = n ∧ zs.length = m ∧ sp (gV vs zs) H2 Q (E σ)
theorem pe_callNS (F : FnOk X.prog X.w X.K X.mg X.base CX k f fd ps sp) (hr : Room k X.A) (hg : Gl X x) (hm : X.mg x = some (.ref f)) (hk : PySem.W.keepIn X.K (.ref f) = true) (hb : KBn X.K fd ps n ks g gV) (hx : ∀ σ, PassesAt CX X σ (E σ))
    (ha : PA X (e :: es) t) (hkw : PK X kws tk) (hall : (backToKw pos (keywordEach kws X.env)).all (·.1.isSome) = true := by rfl) (hks : (backToKw pos (keywordEach kws X.env)).filterMap (·.1) = ks := by rfl)
    (hdb : (x == ("__debug__" : Str)) = false := by decide) (he : starEach (e :: es) X.env = (false, eval e X.env) :: starEach es X.env := by rfl)
    (hpl : ((backTo pos (starEach (e :: es) X.env)).any (·.1) || (backToKw pos (keywordEach kws X.env)).any (·.1.isNone)) = false := by rfl) :
    PE X (.Call (.Name x p) (e :: es) kws pos) (tCallNS n ks.length sp gV E t tk) := by
  refine ⟨fun pins s σ H Q I h => ?_⟩
  refine wpAny_Call_Name_kw (ld_glob I hg hm ?_ hdb)
  refine PySem.W.callWith_KW (h₀ := X.base) I.ok.mod.kin hk hall (thn (ha.run pos pins s σ H _ I h) fun us s1 ⟨vs, H1, I1, r, q⟩ => ?_) hpl he
  refine thn (hkw.run pos pins s1 σ H1 _ I1 q) fun ws s2 ⟨zs, H2, I2, rz, l1, l2, q2⟩ => ⟨I2.kIn, ?_⟩
  rw [hks]
  exact run_fnNS F hr hb (hx σ) I2 r rz l1 l2 q2
/-- the module's name x holds a def of one parameter and a keyword-only one with a default; it may raise -/
structure CalX (P : Program) (w : World) (K : PySem.W.Frag) (mg : Str → Option Value) (base : Heap) (x y : Str) (k : Nat) (ps : List Str) (dv : V) (sp : Sp) : Prop where
  ex : ∃ (f : Addr) (fd : FuncData), FnOk P w K mg base (L2.CX P w) k f fd ps sp ∧ mg x = some (.ref f) ∧ PySem.W.keepIn K (.ref f) = true ∧ (∃ ds, Vals [dv] ds ∧ Binds K fd ps ds) ∧ KBn K fd ps 1 [y] (fun us ws => us ++ ws) (fun vs zs => vs ++ zs)
variable {y : Str} {dv : V} {W : WX} {tk1 : TA}
def tCalX (sp : Sp) (dv : V) (W : WX) (t : TA) : TE := fun σ H Q => t σ H fun vs H1 => sp (vs ++ [dv]) H1 Q (fun cls d H' => W cls d σ H')
def tCalXK (sp : Sp) (W : WX) (t tk : TA) : TE := fun σ H Q => t σ H fun vs H1 => tk σ H1 fun zs H2 => vs.length = 1 ∧ zs.length = 1 ∧ sp (vs ++ zs) H2 Q (fun cls d H' => W cls d σ H')
theorem pe_calX (c : CalX X.prog X.w X.K X.mg X.base x y k ps dv sp) (tkW : Takes X W) (hr : Room k X.A) (ha : PA X (e :: es) t) (hg : Gl X x := by rfl) (hdb : (x == ("__debug__" : Str)) = false := by decide)
    (he : starEach (e :: es) X.env = (false, eval e X.env) :: starEach es X.env := by rfl) (hpl : (backTo pos (starEach es X.env)).any (·.1) = false := by rfl) : PE X (.Call (.Name x p) (e :: es) [] pos) (tCalX sp dv W t) := by
  obtain ⟨f, fd, ok, hm, kp, ⟨ds, hv, hb⟩, _⟩ := c.ex
  have z := pe_callSD (E := fun σ cls d H' => W cls d σ H') ok hr hg hm kp hb hv (fun σ => passAt tkW σ) ha hdb he hpl (p := p)
  exact ⟨fun pins s σ H Q I h => z.run pins s σ H Q I h⟩
theorem pe_calXK (c : CalX X.prog X.w X.K X.mg X.base x y k ps dv sp) (tkW : Takes X W) (hr : Room k X.A) (ha : PA X (e :: es) t) (hkw : PK X kws tk1) (hg : Gl X x := by rfl) (hall : (backToKw pos (keywordEach kws X.env)).all (·.1.isSome) = true := by rfl) (hks : (backToKw pos (keywordEach kws X.env)).filterMap (·.1) = [y] := by rfl)
    (hdb : (x == ("__debug__" : Str)) = false := by decide) (he : starEach (e :: es) X.env = (false, eval e X.env) :: starEach es X.env := by rfl)
    (hpl : ((backTo pos (starEach (e :: es) X.env)).any (·.1) || (backToKw pos (keywordEach kws X.env)).any (·.1.isNone)) = false := by rfl) : PE X (.Call (.Name x p) (e :: es) kws pos) (tCalXK sp W t tk1) := by
  obtain ⟨f, fd, ok, hm, kp, _, hb⟩ := c.ex
  have z := pe_callNS (E := fun σ cls d H' => W cls d σ H') ok hr hg hm kp hb (fun σ => passAt tkW σ) ha hkw hall hks hdb he hpl (p := p)
  exact ⟨fun pins s σ H Q I h => z.run pins s σ H Q I h⟩
end
end Er
/-! zip of two tuples, walked; great products and quotients; xs[::-1]. -/
namespace Zx
open PySem PySem.Spec PyProof.Rows L2 Bx TL Dx
theorem walk_zipT {K : PySem.W.Frag} {a b : Addr} {xs ys : List V} {n : Nat} (hn : n = min xs.length ys.length) : Walk (RZ.ItzT K a b) n (fun H => SqT K H a xs ∧ SqT K H b ys) (YPair (fun i => xs[i]?) (fun i => ys[i]?)) := by
  subst hn
  refine ⟨fun i _ hi q => ?_, fun _ q => ⟨xs, ys, q.1, q.2, by omega⟩, fun i H v H' _ q y => ?_⟩
  · have h1 : i < xs.length := by omega
    have h2 : i < ys.length := by omega
    exact ⟨xs, ys, xs[i], ys[i], q.1, q.2, by simp [h1], by simp [h2]⟩
  · obtain ⟨T, x, z, h1, h2, h3, h4, h5⟩ := y
    exact ⟨T, x, z, h1, h2, h3, h4 xs q.1, h5 ys q.2⟩
end Zx
namespace Zx
open PySem PySem.Spec PyProof.Rows L2
theorem ne_t {p : Prop} [Decidable p] (h : (!decide p) = true) : ¬ p := by simpa using h
theorem ne_f {p : Prop} [Decidable p] (h : ¬ (!decide p) = true) : p := by simpa using h
theorem int_t {x y : Int} (h : decide (V.int x = V.int y) = true) : x = y := V.int.inj (of_decide_eq_true h)
theorem int_f {x y : Int} (h : ¬ decide (V.int x = V.int y) = true) : x ≠ y := fun e => h (decide_eq_true (congrArg V.int e))
theorem int_nt {x y : Int} (h : (!decide (V.int x = V.int y)) = true) : x ≠ y := fun e => ne_t h (congrArg V.int e)
theorem int_nf {x y : Int} (h : ¬ (!decide (V.int x = V.int y)) = true) : x = y := V.int.inj (ne_f h)
end Zx
namespace Zx
open PySem PySem.Spec PyProof.Rows L2 Bx
section
variable {K : PySem.W.Frag}
theorem ty_tup {H : Hp} {a : Addr} {xs : List V} (h : SqT K H a xs) : TyX K H (.ref a) (.type "tuple") := by
  rcases h with (h | ⟨o, h⟩) | h
  · exact .base (.tup h)
  · exact .fTuple h
  · obtain ⟨o, its, n, h1, h2, _⟩ := h
    exact .kTuple h1 h2
def spRight : Sp := fun vs H Q _ => ∃ a : Addr, vs = [.ref a] ∧ Src H a ∧ ∀ H', SameBut a H H' → Q (.bl true) H'
end
end Zx
namespace Zx
open PySem PySem.Spec PyProof.Rows L2 Bx
theorem cont_of {α : Type} {R X : α → Prop} {G : Prop} (first : (∀ a, R a → X a) → G) (rest : ∀ a, R a → X a) : G := first rest
theorem cont_of2 {α β : Type} {R X : α → β → Prop} {G : Prop} (first : (∀ a b, R a b → X a b) → G) (rest : ∀ a b, R a b → X a b) : G := first rest
theorem but_new {a : Addr} {H H3 : Hp} {p : Addr} {o : HO} (h : H p = none) (s : SameBut a (upd H p o) H3) : SameBut a H H3 := fun b x n e => s b x n (by rw [upd_ne (ne_of_none e h)]; exact e)
theorem but_at {a : Addr} {H H2 : Hp} {p : Addr} {o : HO} (h : H p = none) (s : SameBut a H H2) : SameBut a H (upd H2 p o) := fun b x n e => by
  rw [upd_ne (ne_of_none e h)]
  exact s b x n e
theorem src_same {a : Addr} {H1 H2 : Hp} (s : Src H1 a) (t : Same H1 H2) : Src H2 a := by
  obtain ⟨n, c, h⟩ := s
  exact ⟨n, c, t _ _ h⟩
theorem src_ne {a o : Addr} {H : Hp} (s : Src H a) (h : H o = none) : a ≠ o := by
  obtain ⟨n, c, z⟩ := s
  exact ne_of_none z h
theorem but_free {a o : Addr} {H H1 : Hp} (s : SameBut a H H1) (n : o ≠ a) (h : H1 o = none) : H o = none := by
  cases e : H o with
  | none => rfl
  | some x =>
    rw [s o x n e] at h
    cases h
theorem src_upd {a o : Addr} {H : Hp} {u : HO} (s : Src H a) (n : a ≠ o) : Src (upd H o u) a := by
  obtain ⟨x, c, h⟩ := s
  exact ⟨x, c, by rw [upd_ne n]; exact h⟩

end Zx
namespace Zx
open PySem PySem.Spec PyProof.Rows L2 Bx
theorem set_same {σ : L2.St} {i : Nat} {v : V} (h : σ[i]? = some (some v)) : σ.set i (some v) = σ := by
  obtain ⟨hi, e⟩ := List.getElem?_eq_some_iff.mp h
  rw [← e]
  exact List.set_getElem_self hi
/-- if c: name = e -/
theorem if_asg {c : Prop} [Decidable c] {te : TE} {i : Nat} {D : Ends} {σ : L2.St} {H : Hp} {old : V} (R : V → Hp → Prop) (hi : σ[i]? = some (some old))
    (h1 : c → ∀ Z : V → Hp → Prop, (∀ v H', R v H' → Z v H') → te σ H Z) (h2 : ¬ c → R old H) (rest : ∀ v H', R v H' → D.nx (σ.set i (some v)) H') : if c then tAsg te (gName i) D σ H else tNext D σ H := by
  split
  · rename_i h
    exact h1 h (fun v H' => D.nx (σ.set i (some v)) H') rest
  · rename_i h
    have := rest old H (h2 h)
    rw [set_same hi] at this
    exact this
/-- if c: name = e else: name = f -/
theorem if_asg2 {c : Prop} [Decidable c] {te tf : TE} {i : Nat} {D : Ends} {σ : L2.St} {H : Hp} (R : V → Hp → Prop)
    (h1 : c → ∀ Z : V → Hp → Prop, (∀ v H', R v H' → Z v H') → te σ H Z) (h2 : ¬ c → ∀ Z : V → Hp → Prop, (∀ v H', R v H' → Z v H') → tf σ H Z) (rest : ∀ v H', R v H' → D.nx (σ.set i (some v)) H') : if c then tAsg te (gName i) D σ H else tAsg tf (gName i) D σ H := by
  split
  · rename_i h
    exact h1 h (fun v H' => D.nx (σ.set i (some v)) H') rest
  · rename_i h
    exact h2 h (fun v H' => D.nx (σ.set i (some v)) H') rest
end Zx
/-! Own classes: methods that operators and built-ins call. -/
namespace Ow
open PySem PySem.Spec PyProof.Rows L2 Bx TL Dx Zx
/-- the class at C (or one above it) has the method m, a def that keeps sp -/
structure OwM (P : Program) (w : World) (K : PySem.W.Frag) (mg : Str → Option Value) (base : Heap) (CX : CXT) (C : Addr) (m : Str) (k : Nat) (ps : List Str) (sp : Sp) : Prop where
  ex : ∃ (f : Addr) (fd : FuncData), FnOk P w K mg base CX k f fd ps sp ∧ PySem.W.findIn K (.ref C) m = some (some (.ref f)) ∧ PySem.W.isFn K (.ref f) = true ∧ PySem.W.keepIn K (.ref f) = true ∧ Binds K fd ps []
section
variable {X : Cx} {pins : List (Addr × Obj)} {σ : L2.St} {H : Hp} {s : Shared} {C a dx : Addr} {fs : List (Str × V)}
/-- an instance as the library's operators see it -/
theorem inst_of (I : Inv X pins σ H s) (e : H a = some (.ins C dx fs)) : ∃ od, PySem.W.InstAt s.heap a (PySem.W.instObj C dx) C (some od) := by
  obtain ⟨mA, J, _⟩ := ins_get I.hok e
  obtain ⟨od, J2, _⟩ := J.look
  exact ⟨od, J2⟩
/-- a def is called, somewhere within -/
theorem call_at {CX : CXT} {k : Nat} {f : Addr} {fd : FuncData} {ps : List Str} {sp : Sp} {A1 : Around} {us : List Value} {vs : List V} {Q : VK} {E : XK} {E1 : Value → Shared → Prop} (sb : Sub X k A1) (ok : FnOk X.prog X.w X.K X.mg X.base CX k f fd ps sp) (b : Binds X.K fd ps [])
    (I : Inv X pins σ H s) (r : Vals vs us) (hsp : sp vs H Q E) (hx : ∀ e s', CX X.stack H s E e s' → E1 e s') : wpAny (model X.prog X.w) A1 (call (.ref f) us) (EP X pins σ Q) E1 s := by
  have z0 := I.env0
  have e0 : Env0 X.prog X.w X.K X.mg X.base A1 X.stack s H := ⟨by rw [sb.fr]; exact z0.frames, z0.mod, z0.bs, z0.bsz, z0.funs, z0.frf, z0.hok, z0.bare⟩
  have n1 := ok.len _ _ _ _ hsp
  have n2 : us.length = ps.length := by rw [← r.length]; exact n1
  have bb := b s us I.kIn (by rw [List.append_nil]; exact n2)
  rw [List.append_nil] at bb
  refine wpAny_call (codeAny_mono (ok.run A1 X.stack s H ⟨us, []⟩ us vs Q E sb.room e0 bb r hsp) fun res s' back => ?_)
  match res, back with
  | .error e, back => exact hx e s' back
  | .ok (.ret u), back => exact I.after back
  | .ok .next, back => exact back.elim
  | .ok .brk, back => exact back.elim
  | .ok .cont, back => exact back.elim
theorem sub_self {n : Nat} (hr : Room n X.A) : Sub X n X.A := ⟨hr, rfl⟩
/-- len(o) -/
def rLenO (C : Addr) (sp : Sp) : List V → Hp → VK → Prop := fun xs H Q => ∃ a dx fs, xs = [.ref a] ∧ H a = some (.ins C dx fs) ∧ sp [.ref a] H (fun v H' => ∃ n : Nat, v = .int (n : Int) ∧ n < 2 ^ 62 ∧ Q (.int (n : Int)) H') E0
theorem call_lenO {k : Nat} {ps : List Str} {sp : Sp} (c : OwM X.prog X.w X.K X.mg X.base CX0 C "__len__" k ps sp) (hr : Room (k + 1) X.A) : CallR X (.builtin "len") (rLenO C sp) := by
  intro pins s σ H xs us Q I r h
  obtain ⟨a, dx, fs, rfl, ha, hsp⟩ := h
  obtain ⟨f, fd, ok, hs, hf, _, hb⟩ := c.ex
  obtain ⟨od, J⟩ := inst_of I ha
  obtain ⟨m, hF⟩ := I.fr
  have r0 := r
  cases r with
  | cons r1 r2 =>
    cases r2
    cases r1
    refine PySem.W.len_K hF I.ok.mod.kin J hs hf ?_
    refine wpAny_mono (call_at ((sub_self hr).in1) ok hb I r0 hsp (fun e s' z => z.elim)) (fun u s' hu => ?_) (fun _ _ z => z)
    obtain ⟨v, H', I', rv, n, rfl, hn, hq⟩ := hu
    obtain ⟨t, rfl⟩ := rv
    exact ⟨⟨by omega, by omega⟩, .int n, H', I'.tok _, ⟨_, rfl⟩, hq⟩
/-- x in o, x not in o -/
def rInO (C : Addr) (sp : Sp) (neg : Bool) : V → V → Hp → VK → Prop := fun x y H Q => ∃ a dx fs, y = .ref a ∧ H a = some (.ins C dx fs) ∧ sp [.ref a, x] H (fun v H' => ∃ b : Bool, v = .bl b ∧ Q (.bl (b != neg)) H') E0
theorem truth_bl {M : Model} {A : Around} {E : Value → Shared → Prop} {s : Shared} {b : Bool} {Q : Bool → Shared → Prop} (h : Q b s) : wpAny M A (truthy (.bool b)) Q E s := by
  unfold truthy
  exact wpAny_pure h
theorem op_inO {k : Nat} {ps : List Str} {sp : Sp} (c : OwM X.prog X.w X.K X.mg X.base CX0 C "__contains__" k ps sp) (hr : Room k X.A) : OpR X (compareOp .In) (rInO C sp false) := by
  intro pins s σ H x y u v Q I rx ry h
  obtain ⟨a, dx, fs, rfl, ha, hsp⟩ := h
  obtain ⟨f, fd, ok, hs, hf, _, hb⟩ := c.ex
  obtain ⟨od, J⟩ := inst_of I ha
  obtain ⟨m, hF⟩ := I.fr
  cases ry
  refine PySem.W.in_K hF I.ok.mod.kin J hs hf ?_
  refine wpAny_mono (call_at (sub_self hr) ok hb I (vs := [.ref a, x]) (.cons rfl (.cons rx .nil)) hsp (fun e s' z => z.elim)) (fun u s' hu => ?_) (fun _ _ z => z)
  obtain ⟨v, H', I', rv, b, rfl, hq⟩ := hu
  cases rv
  refine truth_bl ⟨.bl b, H', I', rfl, ?_⟩
  rw [show (b != false) = b by cases b <;> rfl] at hq
  exact hq
theorem op_notInO {k : Nat} {ps : List Str} {sp : Sp} (c : OwM X.prog X.w X.K X.mg X.base CX0 C "__contains__" k ps sp) (hr : Room k X.A) : OpR X (compareOp .NotIn) (rInO C sp true) := by
  intro pins s σ H x y u v Q I rx ry h
  obtain ⟨a, dx, fs, rfl, ha, hsp⟩ := h
  obtain ⟨f, fd, ok, hs, hf, _, hb⟩ := c.ex
  obtain ⟨od, J⟩ := inst_of I ha
  obtain ⟨m, hF⟩ := I.fr
  cases ry
  refine PySem.W.notIn_K hF I.ok.mod.kin J hs hf ?_
  refine wpAny_mono (call_at (sub_self hr) ok hb I (vs := [.ref a, x]) (.cons rfl (.cons rx .nil)) hsp (fun e s' z => z.elim)) (fun u s' hu => ?_) (fun _ _ z => z)
  obtain ⟨v, H', I', rv, b, rfl, hq⟩ := hu
  cases rv
  refine truth_bl ⟨.bl (!b), H', I', rfl, ?_⟩
  rw [show (b != true) = !b by cases b <;> rfl] at hq
  exact hq
end
end Ow
/-! Own classes: o[i], o op x, loops over o. -/
namespace Ow
open PySem PySem.Spec PyProof.Rows L2 Bx TL Dx Zx ItX
/-! ### o[i] -/
section
variable {X : Cx} {C : Addr} {CXc : CXT} {k : Nat} {ps : List Str} {sp : Sp} {W : WX} {a b : Expr} {ta tb : TE} {pos : Pos}
def tSubO (C : Addr) (sp : Sp) (W : WX) (ta tb : TE) : TE := fun σ H Q => ta σ H fun x H1 => tb σ H1 fun y H2 => ∃ p dx fs, x = .ref p ∧ H2 p = some (.ins C dx fs) ∧ sp [.ref p, y] H2 Q (fun cls d H' => W cls d σ H')
theorem pe_subO (c : OwM X.prog X.w X.K X.mg X.base CXc C "__getitem__" k ps sp) (fi : ∀ f, PySem.W.findIn X.K (.ref C) "__getitem__" = some (some (.ref f)) → PySem.W.fnIn X.K f = true) (hr : Room (k + 1) X.A) (hx : ∀ σ, PassesAt CXc X σ (fun cls d H' => W cls d σ H')) (ha : PE X a ta) (hb : PE X b tb)
    (hs : ∀ v u, subscripted b true v u = runValue (.builtin "lifetime.subscript" ⟨[v, u], []⟩) := by intro _ _; rfl) : PE X (.Subscript a b pos) (tSubO C sp W ta tb) := by
  refine ⟨fun pins s σ H Q I h => ?_⟩
  refine Subscript_ (binT ha hb I (R := fun x y H2 => ∃ p dx fs, x = .ref p ∧ H2 p = some (.ins C dx fs) ∧ sp [.ref p, y] H2 Q (fun cls d H' => W cls d σ H')) h fun v u s2 x y H2 I2 rx ry q => ?_)
  obtain ⟨p, dx, fs, rfl, hp, hsp⟩ := q
  obtain ⟨f, fd, ok, hfi, hf, _, hbd⟩ := c.ex
  obtain ⟨od, J⟩ := inst_of I2 hp
  obtain ⟨m, hF⟩ := I2.fr
  cases rx
  refine PySem.W.sub_K hF I2.ok.mod.kin J hfi (fi f hfi) hf ?_ (hs _ _)
  exact call_at ((sub_self hr).in1) ok hbd I2 (vs := [.ref p, y]) (.cons rfl (.cons ry .nil)) hsp (fun e s' z => hx σ pins H2 s2 e s' I2 z)
end
/-! ### o op x, x of a built-in type -/
/-- what the written part says of an operator of C with a second operand of the built-in type T -/
structure BinF (K : PySem.W.Frag) (C : Addr) (op : Operator) (T : String) : Prop where
  first : PySem.W.selfFirst K C = true
  refl : ∃ rc, PySem.W.findIn K (.ref C) (dunderR op.info.2) = some rc ∧ (rc = none ∨ ∃ g : Addr, rc = some (.ref g))
  t1 : ∃ fo, PySem.W.findIn K (.type T) (PySem.dunder op.info.2) = some fo
  t2 : ∃ ro, PySem.W.findIn K (.type T) (dunderR op.info.2) = some ro
  sub : PySem.W.subIn K (.type T) (.ref C) = some false
/-- the type of a value, looked at -/
def LkT (M : Model) (h : Heap) (v : Value) (T : String) : Prop := PySem.W.Looks M h (typeOf v) (.type T)
theorem bin_looks {prog : Program} {w : World} {A : Around} {E : Value → Shared → Prop} {s : Shared} {K : PySem.W.Frag} {x C f : Addr} {ox : Obj} {od : Option Obj} {T : String} {op : Operator} {b : Value} {Q : Value → Shared → Prop}
    (X : K.In s.heap) (I : PySem.W.InstAt s.heap x ox C od) (B : BinF K C op T) (hb : LkT (model prog w) s.heap b T) (hs : PySem.W.findIn K (.ref C) (PySem.dunder op.info.2) = some (some (.ref f))) (hf : PySem.W.isFn K (.ref f) = true)
    (h : wpAny (model prog w) A (call (.ref f) [.ref x, b]) (PySem.W.CmpBack Q) E s) : wpAny (model prog w) A (binaryOp op (.ref x) b) Q E s := by
  obtain ⟨hc, ⟨rc, hrc, hrp⟩, ⟨fo, h1⟩, ⟨ro, h2⟩, hsub⟩ := B
  obtain ⟨cd, rest, hcd, hm⟩ := PySem.W.ksp_first hc
  cases hi : op.info with
  | mk sym nm =>
    rw [hi] at hs hrc h1 h2
    dsimp only at hs hrc h1 h2
    have called := PySem.W.ksp_try X I hs hf h
    have d1 : PySem.W.Looks (model prog w) s.heap (typeOf (.ref x)) (.ref C) := I.type
    have d3 : PySem.W.Looks (model prog w) s.heap (fillsNumberSlot (.ref C) nm) true := PySem.W.fills_K X hcd hm hs
    have d4 := PySem.W.ksp_fillsT (M := model prog w) X h1 h2
    have d5 : PySem.W.Looks (model prog w) s.heap (isSubtype (.type T) (.ref C)) false := PySem.W.looks_subIn X hsub
    have d6 : PySem.W.Looks (model prog w) s.heap (numberSlotInPython (.ref C) nm) true := PySem.W.ksp_inPy X hs hrc hrp
    have d7 : PySem.W.Looks (model prog w) s.heap (numberSlotInPython (.type T) nm) false := PySem.W.Looks.of_pure rfl
    have d8 : PySem.W.Looks (model prog w) s.heap (typeLookup (.type T) (dunderR nm)) ro := PySem.W.looks_findIn X h2
    unfold LkT at hb
    clear X I hs hf h
    obtain ⟨hp, g, dd, tt, os⟩ := s
    generalize ((fo.isSome && !isSeqSlot fo) || (ro.isSome && !isSeqSlot ro)) = right at d4
    have other : (Value.ref C == Value.type T) = false := by
      cases z : (Value.ref C == Value.type T) with
      | false => rfl
      | true => cases beq_iff_eq.mp z
    simp only [binaryOp, hi]
    refine wpAny_holding (wpAny_bind ?_)
    unfold binaryOp1
    refine wpAny_bind (d1.at (wpAny_bind ?_))
    refine hb.at (wpAny_bind (d3.at ?_))
    simp only [other, Bool.false_eq_true, if_false]
    cases right
    · ksp_lk
      refine wpAny_mono called (fun r s' z => ?_) fun _ _ e => e
      obtain ⟨v, rfl, z⟩ := z
      ksp_lk
      exact z
    · ksp_lk
      refine wpAny_mono called (fun r s' z => ?_) fun _ _ e => e
      obtain ⟨v, rfl, z⟩ := z
      ksp_lk
      exact z
end Ow
namespace Ow
open PySem PySem.Spec PyProof.Rows L2 Bx TL Dx Zx ItX
section
variable {X : Cx} {pins : List (Addr × Obj)} {σ : L2.St} {H : Hp} {s : Shared}
/-- the built-in types of second operands -/
inductive TyO (K : PySem.W.Frag) (H : Hp) : V → String → Prop
  | int (i : Int) : TyO K H (.int i) "int"
  | str (z : Str) : TyO K H (.str z) "str"
  | tup {p : Addr} {xs : List V} (h : SqT K H p xs) : TyO K H (.ref p) "tuple"
theorem lk_of {y : V} {v : Value} {T : String} (I : Inv X pins σ H s) (r : RelV y v) (t : TyO X.K H y T) : LkT (model X.prog X.w) s.heap v T := by
  cases t with
  | int i =>
    obtain ⟨u, rfl⟩ := r
    exact PySem.W.Looks.of_pure rfl
  | str z =>
    obtain ⟨u, rfl⟩ := r
    exact PySem.W.Looks.of_pure rfl
  | tup h =>
    cases r
    obtain ⟨its, rv, ht, _⟩ := I.tuple h
    obtain ⟨o, ho, hc, _⟩ := ht
    unfold LkT
    rw [← hc]
    exact (PySem.W.Looks.ld ho).andThen .now
theorem back_ep {Q : VK} {u : Value} {s' : Shared} (h : EP X pins σ Q u s') : PySem.W.CmpBack (EP X pins σ Q) u s' := by
  obtain ⟨v, H', I', r, q⟩ := h
  have h2 : EP X pins σ Q u s' := ⟨v, H', I', r, q⟩
  cases v with
  | non => cases r; exact h2
  | bl b => cases r; exact h2
  | int i => obtain ⟨t, rfl⟩ := r; exact h2
  | str z => obtain ⟨t, rfl⟩ := r; exact h2
  | byt b => obtain ⟨t, rfl⟩ := r; exact h2
  | flt b => obtain ⟨t, rfl⟩ := r; exact h2
  | ref a => cases r; exact h2
  | ty n => cases r; exact h2
end
section
variable {X : Cx} {C : Addr} {CXc : CXT} {k : Nat} {ps : List Str} {sp : Sp} {W : WX} {a b : Expr} {ta tb : TE} {pos : Pos} {op : Operator} {T m : String}
def tBinO (K : PySem.W.Frag) (C : Addr) (T : String) (sp : Sp) (W : WX) (ta tb : TE) : TE := fun σ H Q => ta σ H fun x H1 => tb σ H1 fun y H2 => ∃ p dx fs, x = .ref p ∧ H2 p = some (.ins C dx fs) ∧ TyO K H2 y T ∧ sp [.ref p, y] H2 Q (fun cls d H' => W cls d σ H')
theorem pe_binO (c : OwM X.prog X.w X.K X.mg X.base CXc C (PySem.dunder op.info.2) k ps sp) (B : BinF X.K C op T) (hr : Room k X.A) (hx : ∀ σ, PassesAt CXc X σ (fun cls d H' => W cls d σ H')) (ha : PE X a ta) (hb : PE X b tb) : PE X (.BinOp a op b pos) (tBinO X.K C T sp W ta tb) := by
  refine ⟨fun pins s σ H Q I h => ?_⟩
  refine wpAny_BinOp (binT ha hb I (R := fun x y H2 => ∃ p dx fs, x = .ref p ∧ H2 p = some (.ins C dx fs) ∧ TyO X.K H2 y T ∧ sp [.ref p, y] H2 Q (fun cls d H' => W cls d σ H')) h fun v u s2 x y H2 I2 rx ry q => ?_)
  obtain ⟨p, dx, fs, rfl, hp, ht, hsp⟩ := q
  obtain ⟨f, fd, ok, hfi, hf, _, hbd⟩ := c.ex
  obtain ⟨od, J⟩ := inst_of I2 hp
  cases rx
  refine bin_looks I2.kIn J B (lk_of I2 ry ht) hfi hf ?_
  refine wpAny_mono (call_at (sub_self hr) ok hbd I2 (vs := [.ref p, y]) (.cons rfl (.cons ry .nil)) hsp (fun e s' z => hx σ pins H2 s2 e s' I2 z)) (fun u s' z => back_ep z) fun _ _ z => z
end
/-! ### iter(t), t a tuple -/
def TiO (t it : Addr) : HO := .ext fun h => h.IsTupleIter it t 0
theorem tiO_ok {P : Program} {w : World} {H : Hp} {h : Heap} {t it : Addr} (e : h.IsTupleIter it t 0) : ObjOk P w H h it (TiO t it) := by
  obtain ⟨o, ho, hc, hd⟩ := id e
  exact ⟨e, ⟨o, ho⟩, fun h1 h2 z k => z.at fun o e => k _ e⟩
def rIterT (K : PySem.W.Frag) (n : Nat) : List V → Hp → VK → Prop := fun xs H Q => ∃ (t : Addr) (zs : List V), xs = [.ref t] ∧ SqT K H t zs ∧ ∀ it, H it = none → n ≤ it → Q (.ref it) (upd H it (TiO t it))
theorem call_iterT {X : Cx} : CallR X (.builtin "iter") (rIterT X.K X.s_0.heap.objs.size) := by
  intro pins s σ H xs us Q I r h
  obtain ⟨t, zs, rfl, hq, q⟩ := h
  cases r with
  | cons r1 r2 =>
    cases r2
    cases r1
    obtain ⟨its, rv, pl, hz⟩ := I.tuple hq
    refine Calls.call_function_entry (by decide +kernel) (by decide +kernel) PySem.W.kdk_entry_iter (PySem.W.kdk_args_iter _) ?_
    unfold Builtin.«iter»
    refine wpAny_bind (m := someArgs "iter" 1 2 _) (wpAny_of_eq (a := [Value.ref t]) (by first | rfl | kernel_rfl!) ?_)
    show wpAny _ _ (pyIter (.ref t) >>= _) _ _ _
    refine wpAny_bind (wpAny_pyIter_tuple pl ?_)
    refine wpAny_pure ⟨_, rfl, .ref s.heap.objs.size, _, I.laid (t' := s.toks) (fun b u e => Heap.get?_push_of_some _ e) (Nat.le_refl _) (tiO_ok ⟨_, Heap.get?_push_size _ rfl, rfl, rfl⟩), rfl, q _ (I.hok.fresh (Nat.le_refl _)) I.sz⟩
end Ow
namespace Ow
open PySem PySem.Spec PyProof.Rows L2 Bx TL Dx Zx ItX
/-- a def of the text, called at a state that one knows -/
theorem run_here {CX : CXT} {P : Program} {w : World} {K : PySem.W.Frag} {mg : Str → Option Value} {base : Heap} {k : Nat} {f : Addr} {nm qn : Str} {params : Arguments} {body : List Stmt} {scope : Scope} {dV kV doc pm cdv ct oc : Value} {an od : Option Addr} {osl : Array (Option Value)} {N ps : List Str}
    {A : Around} {outer : List Env} {s : Shared} {H : Hp} {args : Args} {us : List Value} {vs : List V} {Q : VK} {E : XK} (lk : K.lookup f = some ⟨oc, od, .func (PySem.W.fnOf nm qn params body scope dV kV doc pm an cdv ct), osl⟩) (cd : PySem.W.codeIn K cdv qn = true) (S : FnScope N ps scope) (room : Room (k + 1) A)
    (e0 : Env0 P w K mg base A outer s H) (hb : BindsTo s (PySem.W.fnOf nm qn params body scope dV kV doc pm an cdv ct) args (ps.zip us)) (rel : Vals vs us) (len : vs.length = ps.length)
    (reads : Room k (A.deeper (envOfC qn scope s.heap.objs.size f cdv)) → ∃ t, PSs (cxOf CX P w K mg base N qn scope f cdv A outer s H E) body t ∧ t { nx := fun _ H' => Q .non H', rt := Q } (start N vs) H) :
    codeAny (model P w) A (.call (.ref f) args) (CR CX outer P w H s Q E) s := by
  have kx : K.In s.heap := e0.mod.kin.keeps (fun p q z => (e0.bs p q z).1)
  have open_ : s.heap.NoLimit := e0.mod.nolimit.keeps (fun p q z => (e0.bs p q z).1)
  have kinds : ∀ y ∈ ps.zip us, scope.names.lookup y.1 = some .local ∨ (scope.names.lookup y.1 = some .cell ∧ ((cellsFrom (s.heap.objs.size + 1) scope.names []).lookup y.1).isSome = true) := by
    rintro ⟨one, val⟩ hy
    exact (S.par one (List.of_mem_zip hy).1).imp id (fun q => ⟨q, PySem.W.cellsFrom_some _ _ _ (.inl q)⟩)
  refine codeAny_call_function room.depth (kx _ _ lk) rfl S.co S.gen rfl (PySem.W.codeRec_of kx cd) ?_
  refine hb _ _ _ _ ?_
  refine wpAny_newFunctionEnv_cells S.kind kinds (fun env he s1 x => ?_)
  cases he
  refine ⟨open_.keeps x.toInCall.keep, codeAny_func ?_⟩
  obtain ⟨t, pt, ht⟩ := reads (room.deeper _)
  have J0 := inv_start (CX := CX) (E := E) S room.hd e0 len rel x
  refine wpAny_mono (pt.run [] s1 (start N vs) H _ J0 ht) ?_ (fun e s' z => z)
  intro fl s' back
  match fl, back with
  | .ret u, ⟨v, σ', H', J, rv, q⟩ => exact ⟨v, H', J.os, J.bare, J.base, J.hok, rv, q⟩
  | .next, ⟨σ', H', J, q⟩ => exact ⟨V.non, H', J.os, J.bare, J.base, J.hok, rfl, q⟩
  | .brk, ⟨_, _, _, q⟩ => exact q.elim
  | .cont, ⟨_, _, _, q⟩ => exact q.elim
/-! ### for x in o, where def __iter__(self): return iter(self.f) -/
structure ItM (P : Program) (w : World) (K : PySem.W.Frag) (mg : Str → Option Value) (base : Heap) (C : Addr) (f : Str) (k : Nat) : Prop where
  ex : ∃ fi : Addr, PySem.W.findIn K (.ref C) "__iter__" = some (some (.ref fi)) ∧ PySem.W.isFn K (.ref fi) = true ∧
    ∀ (A : Around) (outer : List Env) (s : Shared) (H : Hp) (E : XK) (p dx t : Addr) (fs : List (Str × V)) (zs : List V), Room k A → Env0 P w K mg base A outer s H → H p = some (.ins C dx fs) → fs.lookup f = some (.ref t) → SqT K H t zs →
      codeAny (model P w) A (.call (.ref fi) ⟨[.ref p], []⟩) (CR CX0 outer P w H s (fun v H' => ∃ it, v = .ref it ∧ H it = none ∧ s.heap.objs.size ≤ it ∧ H' = upd H it (TiO t it)) E) s
section
variable {X : Cx} {C : Addr}
def tIterO (K : PySem.W.Frag) (C : Addr) (f : Str) (te : TE) : TI := fun σ H R => te σ H fun x H1 => ∃ p dx fs t zs, x = .ref p ∧ H1 p = some (.ins C dx fs) ∧ fs.lookup f = some (.ref t) ∧ SqT K H1 t zs ∧ R (Itt K t) H1
theorem pi_iterO {tg l : Expr} {te : TE} {k : Nat} {f : Str} (c : ItM X.prog X.w X.K X.mg X.base C f k) (hr : Room k X.A) (he : PE X l te) : PI X tg l (tIterO X.K C f te) := by
  refine ⟨fun pins s σ H R I h => ?_⟩
  refine thn (he.run pins s σ H _ I h) fun v s1 ⟨x, H1, I1, r1, q1⟩ => ?_
  obtain ⟨p, dx, fs, t, zs, rfl, hp, hl, hz, hR⟩ := q1
  obtain ⟨fi, hfi, hf, go⟩ := c.ex
  obtain ⟨od, J⟩ := inst_of I1 hp
  obtain ⟨m, hF⟩ := I1.fr
  cases r1
  refine PySem.W.owit_iter hF I1.ok.mod.kin J hfi hf ?_
  refine wpAny_call (codeAny_mono (go X.A X.stack s1 H1 E0 p dx t fs zs hr I1.env0 hp hl hz) fun res s' back => ?_)
  match res, back with
  | .error e, back => exact back.elim
  | .ok .next, back => exact back.elim
  | .ok .brk, back => exact back.elim
  | .ok .cont, back => exact back.elim
  | .ok (.ret u), back =>
    obtain ⟨v, H2, I2, rv, it, rfl, n1, hy, rfl⟩ := I1.after back
    cases rv
    have e2 : upd H1 it (TiO t it) it = some (TiO t it) := upd_same
    have hit : s'.heap.IsTupleIter it t 0 := by
      have : ObjOk X.prog X.w (upd H1 it (TiO t it)) s'.heap it (.ext fun h => h.IsTupleIter it t 0) := I2.hok it _ e2
      exact this.1
    show wpAny _ _ (specialOf (.ref it) "__next__") _ _ _
    refine wpAny_specialOf (name := Str.ofString "__next__") hit.typeIs PySem.F.slot_tuple_iterator_next.lookup ?_
    have hn : X.s_0.heap.objs.size ≤ it := Nat.le_trans I1.sz hy
    have I3 := inv_drop I2 e2
    have fp := inv_fp I2 e2 hn
    rw [dropH_upd n1] at I3 fp
    refine ⟨it, [it], _, _, H1, rfl, I3, turn_tuple t it, hit, fun b hb => ?_, hR⟩
    rw [List.mem_singleton.mp hb]
    exact fp
end
end Ow
/-! Own classes: o + p of one class, k * o, -o; dict(t) of a tuple of pairs. -/
namespace Ow
open PySem PySem.Spec PyProof.Rows L2 Bx TL Dx Zx ItX
theorem bin_same {prog : Program} {w : World} {A : Around} {E : Value → Shared → Prop} {s : Shared} {K : PySem.W.Frag} {x y C f : Addr} {ox oy : Obj} {od oe : Option Obj} {op : Operator} {Q : Value → Shared → Prop}
    (X : K.In s.heap) (I : PySem.W.InstAt s.heap x ox C od) (J : PySem.W.InstAt s.heap y oy C oe) (first : PySem.W.selfFirst K C = true) (hs : PySem.W.findIn K (.ref C) (PySem.dunder op.info.2) = some (some (.ref f))) (hf : PySem.W.isFn K (.ref f) = true)
    (h : wpAny (model prog w) A (call (.ref f) [.ref x, .ref y]) (PySem.W.CmpBack Q) E s) : wpAny (model prog w) A (binaryOp op (.ref x) (.ref y)) Q E s := by
  obtain ⟨cd, rest, hcd, hm⟩ := PySem.W.ksp_first first
  cases hi : op.info with
  | mk sym nm =>
    rw [hi] at hs
    dsimp only at hs
    have called := PySem.W.ksp_try X I hs hf h
    have d1 : PySem.W.Looks (model prog w) s.heap (typeOf (.ref x)) (.ref C) := I.type
    have d2 : PySem.W.Looks (model prog w) s.heap (typeOf (.ref y)) (.ref C) := J.type
    have d3 : PySem.W.Looks (model prog w) s.heap (fillsNumberSlot (.ref C) nm) true := PySem.W.fills_K X hcd hm hs
    clear X I J hs hf h
    obtain ⟨hp, g, dd, tt, os⟩ := s
    have same : (Value.ref C == Value.ref C) = true := beq_self_eq_true _
    simp only [binaryOp, hi]
    refine wpAny_holding (wpAny_bind ?_)
    unfold binaryOp1
    refine wpAny_bind (d1.at (wpAny_bind ?_))
    refine d2.at (wpAny_bind (d3.at ?_))
    simp only [same, if_true]
    ksp_lk
    refine wpAny_mono called (fun r s' z => ?_) fun _ _ e => e
    obtain ⟨v, rfl, z⟩ := z
    ksp_lk
    exact z
section
variable {X : Cx} {C : Addr} {k : Nat} {ps : List Str} {sp : Sp} {op : Operator}
def rBinSame (C : Addr) (sp : Sp) : V → V → Hp → VK → Prop := fun x y H Q => ∃ p q dx dy fs gs, x = .ref p ∧ y = .ref q ∧ H p = some (.ins C dx fs) ∧ H q = some (.ins C dy gs) ∧ sp [.ref p, .ref q] H Q E0
theorem op_same (c : OwM X.prog X.w X.K X.mg X.base CX0 C (PySem.dunder op.info.2) k ps sp) (first : PySem.W.selfFirst X.K C = true) (hr : Room k X.A) : OpR X (binaryOp op) (rBinSame C sp) := by
  intro pins s σ H x y u v Q I rx ry h
  obtain ⟨p, q, dx, dy, fs, gs, rfl, rfl, hp, hq, hsp⟩ := h
  obtain ⟨f, fd, ok, hs, hf, _, hb⟩ := c.ex
  obtain ⟨od, J⟩ := inst_of I hp
  obtain ⟨oe, J2⟩ := inst_of I hq
  cases rx
  cases ry
  refine bin_same I.kIn J J2 first hs hf ?_
  refine wpAny_mono (call_at (sub_self hr) ok hb I (vs := [.ref p, .ref q]) (.cons rfl (.cons rfl .nil)) hsp (fun e s' z => z.elim)) (fun u s' z => back_ep z) fun _ _ z => z
/-- o op x -/
def rBinT (K : PySem.W.Frag) (C : Addr) (T : String) (sp : Sp) : V → V → Hp → VK → Prop := fun x y H Q => ∃ p dx fs, x = .ref p ∧ H p = some (.ins C dx fs) ∧ TyO K H y T ∧ sp [.ref p, y] H Q E0
theorem op_ownT {T : String} (c : OwM X.prog X.w X.K X.mg X.base CX0 C (PySem.dunder op.info.2) k ps sp) (B : BinF X.K C op T) (hr : Room k X.A) : OpR X (binaryOp op) (rBinT X.K C T sp) := by
  intro pins s σ H x y u v Q I rx ry h
  obtain ⟨p, dx, fs, rfl, hp, ht, hsp⟩ := h
  obtain ⟨f, fd, ok, hs, hf, _, hb⟩ := c.ex
  obtain ⟨od, J⟩ := inst_of I hp
  cases rx
  refine bin_looks I.kIn J B (lk_of I ry ht) hs hf ?_
  refine wpAny_mono (call_at (sub_self hr) ok hb I (vs := [.ref p, y]) (.cons rfl (.cons ry .nil)) hsp (fun e s' z => z.elim)) (fun u s' z => back_ep z) fun _ _ z => z
/-- -o -/
theorem un_negO (c : OwM X.prog X.w X.K X.mg X.base CX0 C "__neg__" k ps sp) (hr : Room k X.A) : UnR X (unaryOp .USub) (fun x H Q => ∃ p dx fs, x = .ref p ∧ H p = some (.ins C dx fs) ∧ sp [.ref p] H Q E0) := by
  intro pins s σ H x u Q I rx h
  obtain ⟨p, dx, fs, rfl, hp, hsp⟩ := h
  obtain ⟨f, fd, ok, hs, hf, _, hb⟩ := c.ex
  obtain ⟨od, J⟩ := inst_of I hp
  obtain ⟨m, hF⟩ := I.fr
  cases rx
  refine PySem.W.ksp_neg hF I.ok.mod.kin J hs hf ?_
  exact call_at (sub_self hr) ok hb I (vs := [.ref p]) (.cons rfl .nil) hsp (fun e s' z => z.elim)
/-- o[i] -/
theorem pe_subO0 {a b : Expr} {ta tb : TE} {pos : Pos} (c : OwM X.prog X.w X.K X.mg X.base CX0 C "__getitem__" k ps sp) (fi : ∀ f, PySem.W.findIn X.K (.ref C) "__getitem__" = some (some (.ref f)) → PySem.W.fnIn X.K f = true) (hr : Room (k + 1) X.A) (ha : PE X a ta) (hb : PE X b tb)
    (hs : ∀ v u, subscripted b true v u = runValue (.builtin "lifetime.subscript" ⟨[v, u], []⟩) := by intro _ _; rfl) : PE X (.Subscript a b pos) (tSubO C sp (fun _ _ _ _ => False) ta tb) :=
  pe_subO c fi hr (fun _ _ _ _ _ _ _ h => h.elim) ha hb hs
end
end Ow
/-! tuple(xs) without a dict of its own; dict(t) of such a tuple of pairs; k * o. -/
namespace Ow
open PySem PySem.Spec PyProof.Rows L2 Bx TL Dx Zx ItX
/-- a tuple without a dict of its own -/
def PlT (H : Hp) (a : Addr) (xs : List V) : Prop := ∃ o, H a = some (.frz o (.tup xs)) ∧ o.dict = none
theorem PlT.sq {K : PySem.W.Frag} {H : Hp} {a : Addr} {xs : List V} (h : PlT H a xs) : SqT K H a xs := .inl (.inr ⟨_, h.choose_spec.1⟩)
theorem PlT.same {H H' : Hp} {a : Addr} {xs : List V} (s : Same H H') (h : PlT H a xs) : PlT H' a xs := ⟨_, s _ _ h.choose_spec.1, h.choose_spec.2⟩
section
variable {X : Cx}
def rTupF (K : PySem.W.Frag) : List V → Hp → VK → Prop := fun xs H Q => ∃ p ys, xs = [.ref p] ∧ SqL K H p ys ∧ ∀ l o, H l = none → o.dict = none → Q (.ref l) (upd H l (.frz o (.tup ys)))
theorem call_tupleF : CallR X (.type "tuple") (rTupF X.K) := by
  intro pins s σ H xs us Q I r h
  obtain ⟨p, ys, rfl, hq, q⟩ := h
  obtain ⟨u, rfl, rx⟩ := vals1 r
  cases rx
  obtain ⟨its, r', pl, hz⟩ := I.list hq
  have hlen := r'.length
  refine call_tuple_list pl.isList (fun h' kp => ?_) (by simp only [List.size_toArray] <;> omega)
  have I1 : Inv X pins σ H { s with heap := h' } := I.kept (t' := s.toks) kp
  let o : Obj := { cls := .type "tuple", data := .seq its.toArray }
  have I2 : Inv X pins σ (upd H h'.objs.size (.frz o (.tup ys))) { s with heap := h'.push o } :=
    I1.laid (t' := s.toks) (fun b o e => Heap.get?_push_of_some _ e) (Nat.le_refl _) (show ObjOk X.prog X.w _ _ _ (.frz o (.tup ys)) from ⟨Heap.get?_push_size _ rfl, hz, its, r', IsTup.new _ _⟩)
  exact ⟨.ref h'.objs.size, _, I2, rfl, q _ o (I1.hok.fresh (Nat.le_refl _)) rfl⟩
def rDictT (K : PySem.W.Frag) : List V → Hp → VK → Prop := fun xs H Q => ∃ (a : Addr) (ps : List Addr) (kvs : List (Key × V)), xs = [.ref a] ∧ PlT H a (ps.map V.ref) ∧ Paired (fun p kv => SqT K H p [kV kv.1, kv.2]) ps kvs ∧
    ∀ p, H p = none → Q (.ref p) (upd H p (.dK (mergeK [] kvs)))
theorem call_dictT (hcalm : X.calm = true) : CallR X (.type "dict") (rDictT X.K) := by
  intro pins s σ H xs us Q I r q
  obtain ⟨a, ps, kvs, rfl, ⟨o, ha, hod⟩, hp, q⟩ := q
  obtain ⟨u, rfl, rx⟩ := vals1 r
  cases rx
  obtain ⟨hg, hz, its, rv, o2, ho2, hc, n, hdat⟩ : ObjOk X.prog X.w H s.heap a (.frz o (.tup (ps.map V.ref))) := I.hok a _ ha
  rw [hg] at ho2
  obtain rfl := Option.some.inj ho2
  have ei := refs_at rv
  subst ei
  obtain ⟨prs, rel, hl, hpr⟩ := pairs_of I hp
  rw [List.length_map] at hz
  have at_ : ∀ (j : Nat) (q : Key × Value), prs[j]? = some q → ∃ u : Value, IsTup s.heap (ps.getD j 0) #[u, q.2] ∧ ps[j]? = some (ps.getD j 0) ∧ keyIs q.1 u = true := fun j q e => by
    obtain ⟨b, u, e1, e2, e3⟩ := hpr j q e
    have e4 : ps.getD j 0 = b := by rw [List.getD_eq_getElem?_getD, e1]; rfl
    rw [e4]
    exact ⟨u, e2, e1, e3⟩
  classical
  let key : Nat → Value := fun j => match prs[j]? with
    | some q => (if h : ∃ u : Value, IsTup s.heap (ps.getD j 0) #[u, q.2] ∧ keyIs q.1 u = true then h.choose else .none)
    | none => .none
  have keyAt : ∀ (j : Nat) (q : Key × Value), prs[j]? = some q → IsTup s.heap (ps.getD j 0) #[key j, q.2] ∧ keyIs q.1 (key j) = true := fun j q e => by
    obtain ⟨u, h1, _, h3⟩ := at_ j q e
    have hh : ∃ u : Value, IsTup s.heap (ps.getD j 0) #[u, q.2] ∧ keyIs q.1 u = true := ⟨u, h1, h3⟩
    have ek : key j = hh.choose := by
      show (match prs[j]? with | some q => _ | none => _) = _
      rw [e]
      exact dif_pos hh
    rw [ek]
    exact hh.choose_spec
  let vps : List (Value × Value) := (List.range prs.length).map fun j => (key j, match prs[j]? with | some q => q.2 | none => .none)
  have vlen : vps.length = prs.length := by simp [vps]
  have vat : ∀ j k v, vps[j]? = some (k, v) → ∃ q : Key × Value, prs[j]? = some q ∧ k = key j ∧ v = q.2 := fun j k v e => by
    have hj : j < prs.length := by
      have := (List.getElem?_eq_some_iff.mp e).1
      omega
    have e1 : prs[j]? = some prs[j] := List.getElem?_eq_getElem hj
    refine ⟨prs[j], e1, ?_⟩
    have e2 : vps[j]? = some (key j, prs[j].2) := by
      simp only [vps, List.getElem?_map, List.getElem?_range hj, Option.map_some, e1]
    rw [e2] at e
    cases e
    exact ⟨rfl, rfl⟩
  have P := PySem.PairArg.tuple (prog := X.prog) (w := X.w) a (ps.map Value.ref).toArray (fun j => ps.getD j 0) vps
  refine PySem.call_dict_pairs (knd := mixKind X.prog X.w) (kvs := prs) P (I.ok.hd hcalm) ⟨⟨o, n, hg, hc, hod, hdat⟩, by rw [List.size_toArray, List.length_map, vlen, hl], fun j k v e => ?_⟩ ⟨vlen.symm, fun i k v e => ?_⟩ (by rw [vlen, hl]; exact hz) fun h' tk hd' kp => ?_
  · obtain ⟨q, e1, rfl, rfl⟩ := vat j k v e
    obtain ⟨u, _, e3, _⟩ := at_ j q e1
    refine ⟨?_, .inl (keyAt j q e1).1⟩
    rw [List.getElem?_toArray, List.getElem?_map, e3]
    rfl
  · obtain ⟨q, e1, rfl, rfl⟩ := vat i k v e
    exact ⟨q.1, e1, (keyAt i q e1).2⟩
  · have hm : (s.heap.objs.size == sysModules) = false := beq_eq_false_iff_ne.mpr (Nat.ne_of_gt I.big)
    have hlen : (mergeK [] kvs).length ≤ sizeLine := by
      refine Nat.le_trans (length_mergeK kvs []) ?_
      rw [List.length_nil, Nat.zero_add, rel.length, hl]
      exact hz
    exact ⟨.ref s.heap.objs.size, upd H s.heap.objs.size (.dK (mergeK [] kvs)), I.laid (t' := tk) (fun b o e => kp b o (fun h => nomatch h) e) (Nat.le_refl _) (show ObjOk X.prog X.w _ _ _ (.dK (mergeK [] kvs)) from ⟨hlen, hm, merged [] prs, KV.merge rel .nil, hd'⟩), rfl, q _ (I.hok.fresh (Nat.le_refl _))⟩
end
/-! ### k * o -/
theorem int_mul_ins (a : Int) (t : Tok) (l C dx : Addr) :
    Meets (Builtin.«int.__mul__» ⟨[.int a t, .ref l], []⟩) (fun _ R s => s.heap.get? l = some (PySem.W.instObj C dx) ∧ R (.ok (.ret Value.notImplemented)) s) :=
  .of_wp fun prog w A R s h => by obtain ⟨hp, g, d, tk, os⟩ := s; obtain ⟨hl, h⟩ := h; wp_walk; exact ⟨_, rfl, h⟩
theorem int_declines {prog : Program} {w : World} {A : Around} {E : Value → Shared → Prop} {s : Shared} {k : Int} {t : Tok} {x C dx : Addr} {Q : Value → Shared → Prop} (hg : s.heap.get? x = some (PySem.W.instObj C dx)) (q : Q .notImplemented s) :
    wpAny (model prog w) A (call (.builtin "int.__mul__") [.int k t, .ref x]) Q E s :=
  call_meets F.slot_int_mul (typeIs_int s k t) F.entry_int_mul (F.args_int_mul_2 _ _) (int_mul_ins k t x C dx) ⟨hg, q⟩
theorem try_declines {prog : Program} {w : World} {A : Around} {E : Value → Shared → Prop} {s : Shared} {k : Int} {t : Tok} {x C dx : Addr} {Q : Option Value → Shared → Prop} (hg : s.heap.get? x = some (PySem.W.instObj C dx)) (q : Q none s) :
    wpAny (model prog w) A (tryMethod (.int k t) (dunder "mul") (.ref x)) Q E s := by
  refine wpAny_tryMethod_declines (T := "int") (name := dunder "mul") (id := "int.__mul__") ?_ ?_ ?_
  · exact typeIs_int s k t
  · exact F.slot_int_mul
  exact int_declines hg ⟨rfl, q⟩
theorem bin_right {prog : Program} {w : World} {A : Around} {E : Value → Shared → Prop} {s : Shared} {K : PySem.W.Frag} {x C f dx : Addr} {od : Option Obj} {k : Int} {t : Tok} {Q : Value → Shared → Prop}
    (X : K.In s.heap) (I : PySem.W.InstAt s.heap x (PySem.W.instObj C dx) C od) (first : PySem.W.selfFirst K C = true) (hl : PySem.W.findIn K (.ref C) "__mul__" = some (some (.ref f))) (hs : ∃ g : Addr, PySem.W.findIn K (.ref C) "__rmul__" = some (some (.ref g)) ∧ PySem.W.isFn K (.ref g) = true ∧
      wpAny (model prog w) A (call (.ref g) [.ref x, .int k t]) (PySem.W.CmpBack Q) E s)
    (hsub : PySem.W.subIn K (.ref C) (.type "int") = some false) : wpAny (model prog w) A (binaryOp .Mult (.int k t) (.ref x)) Q E s := by
  obtain ⟨g, hr, hf, h⟩ := hs
  obtain ⟨cd, rest, hcd, hm⟩ := PySem.W.ksp_first first
  have hg : s.heap.get? x = some (PySem.W.instObj C dx) := by
    exact I.at_
  have called := PySem.W.ksp_try X I hr hf h
  have d1 : PySem.W.Looks (model prog w) s.heap (typeOf (.ref x)) (.ref C) := I.type
  have d3 : PySem.W.Looks (model prog w) s.heap (fillsNumberSlot (.ref C) "mul") true := PySem.W.fills_K X hcd hm hl
  have d5 : PySem.W.Looks (model prog w) s.heap (isSubtype (.ref C) (.type "int")) false := PySem.W.looks_subIn X hsub
  clear X I hl hr hf h
  simp only [binaryOp]
  refine wpAny_holding (wpAny_bind ?_)
  show wpAny _ _ (binaryOp1 "mul" _ _) _ _ _
  simp only [binaryOp1]
  refine wpAny_bind (wpAny_typeOf (typeIs_int s k t) (wpAny_bind (d1.at (wpAny_bind (wpAny_of_eq F.fills_int_mul ?_)))))
  have hne : (Value.type "int" == Value.ref C) = false := Bool.eq_false_iff.mpr fun q => by cases beq_iff_eq.mp q
  simp only [hne, Bool.false_eq_true, if_false]
  refine wpAny_bind (d3.at ?_)
  simp only [Bool.and_self, if_true]
  refine wpAny_bind (d5.at ?_)
  have hpy : numberSlotInPython (.type "int") "mul" = pure false := rfl
  simp only [Bool.false_eq_true, if_false, pure_bind, Bool.not_false, Bool.and_self, if_true, hpy]
  refine wpAny_bind (try_declines hg ?_)
  refine wpAny_bind (wpAny_mono called (fun r s' z => ?_) fun _ _ e => e)
  obtain ⟨v, rfl, z⟩ := z
  exact wpAny_bind (wpAny_rule (wpAny_pure (wpAny_pure z)))
section
variable {X : Cx} {C : Addr} {k : Nat} {ps : List Str} {sp : Sp}
/-- k * o -/
def rMulR (C : Addr) (sp : Sp) : V → V → Hp → VK → Prop := fun x y H Q => ∃ p dx fs n, x = .int n ∧ y = .ref p ∧ H p = some (.ins C dx fs) ∧ sp [.ref p, .int n] H Q E0
theorem op_mulR (c : OwM X.prog X.w X.K X.mg X.base CX0 C "__rmul__" k ps sp) (first : PySem.W.selfFirst X.K C = true) (hl : ∃ f : Addr, PySem.W.findIn X.K (.ref C) "__mul__" = some (some (.ref f))) (hsub : PySem.W.subIn X.K (.ref C) (.type "int") = some false) (hr : Room k X.A) : OpR X (binaryOp .Mult) (rMulR C sp) := by
  intro pins s σ H x y u v Q I rx ry h
  obtain ⟨p, dx, fs, n, rfl, rfl, hp, hsp⟩ := h
  obtain ⟨f, fd, ok, hs, hf, _, hb⟩ := c.ex
  obtain ⟨fl, hfl⟩ := hl
  obtain ⟨od, J⟩ := inst_of I hp
  obtain ⟨t, rfl⟩ := id rx
  cases ry
  refine bin_right I.kIn J first hfl ⟨f, hs, hf, ?_⟩ hsub
  refine wpAny_mono (call_at (sub_self hr) ok hb I (vs := [.ref p, .int n]) (.cons rfl (.cons rx .nil)) hsp (fun e s' z => z.elim)) (fun u s' z => back_ep z) fun _ _ z => z
end
end Ow
namespace Ow
open PySem PySem.Spec PyProof.Rows L2 Bx TL Dx Zx ItX
/-! ### calls with defaults, new instances, methods, by their promises -/
structure CalD (P : Program) (w : World) (K : PySem.W.Frag) (mg : Str → Option Value) (base : Heap) (x : Str) (k : Nat) (ps : List Str) (sp : Sp) (dvs : List V) : Prop where
  ex : ∃ (f : Addr) (fd : FuncData) (ds : List Value), FnOk P w K mg base CX0 k f fd ps sp ∧ mg x = some (.ref f) ∧ PySem.W.keepIn K (.ref f) = true ∧ Binds K fd ps ds ∧ Vals dvs ds
structure MakC (P : Program) (w : World) (K : PySem.W.Frag) (mg : Str → Option Value) (base : Heap) (x : Str) (C : Addr) (k : Nat) (ps : List Str) (sp : Sp) (dvs : List V) : Prop where
  ex : ∃ (f : Addr) (fd : FuncData) (ds : List Value), Mk K C f ∧ FnOk P w K mg base CX0 k f fd ps sp ∧ mg x = some (.ref C) ∧ Binds K fd ps ds ∧ Vals dvs ds
structure MthC (P : Program) (w : World) (K : PySem.W.Frag) (mg : Str → Option Value) (base : Heap) (C : Addr) (m : Str) (k : Nat) (ps : List Str) (sp : Sp) : Prop where
  ex : ∃ (f : Addr) (fd : FuncData), Cls K C ∧ Meth K C m f ∧ FnOk P w K mg base CX0 k f fd ps sp ∧ Binds K fd ps []
section
variable {X : Cx} {x : Str} {k : Nat} {ps : List Str} {sp : Sp} {e : Expr} {es : List Expr} {t : TA} {p pos : Pos} {dvs : List V} {C : Addr}
theorem pe_calD (c : CalD X.prog X.w X.K X.mg X.base x k ps sp dvs) (hr : Room k X.A) (ha : PA X (e :: es) t) (hg : Gl X x := by rfl) (hdb : (x == ("__debug__" : Str)) = false := by decide)
    (he : starEach (e :: es) X.env = (false, eval e X.env) :: starEach es X.env := by rfl) (hpl : (backTo pos (starEach es X.env)).any (·.1) = false := by rfl) : PE X (.Call (.Name x p) (e :: es) [] pos) (tCall sp dvs E0 t) := by
  obtain ⟨f, fd, ds, ok, g, kp, b, r⟩ := c.ex
  exact pe_call (E := E0) ok hr hg g kp b r pass0 ha hdb he hpl (p := p)
theorem pe_mak (c : MakC X.prog X.w X.K X.mg X.base x C k ps sp []) (hr : Room (k + 1) X.A) (ha : PA X (e :: es) t) (hg : Gl X x := by rfl) (hdb : (x == ("__debug__" : Str)) = false := by decide)
    (he : starEach (e :: es) X.env = (false, eval e X.env) :: starEach es X.env := by rfl) (hpl : (backTo pos (starEach es X.env)).any (·.1) = false := by rfl) : PE X (.Call (.Name x p) (e :: es) [] pos) (tMake C sp [] E0 t) := by
  obtain ⟨f, fd, ds, M, ok, g, b, r⟩ := c.ex
  exact pe_make (E := E0) M ok hr hg g b r pass0 ha hdb he hpl (p := p)
theorem pe_mak0 (c : MakC X.prog X.w X.K X.mg X.base x C k ps sp dvs) (hr : Room (k + 1) X.A) (hg : Gl X x := by rfl) (hdb : (x == ("__debug__" : Str)) = false := by decide) : PE X (.Call (.Name x p) [] [] pos) (tMake C sp dvs E0 tNil) := by
  obtain ⟨f, fd, ds, M, ok, g, b, r⟩ := c.ex
  exact pe_make0 (E := E0) M ok hr hg g b r pass0 hdb (p := p)
theorem pe_mth {m : Str} {o : Expr} {to : TE} {apos : Pos} {pl : Sem Bool} (c : MthC X.prog X.w X.K X.mg X.base C m k ps sp) (hr : Room k X.A) (ho : PE X o to) (ha : PA X (e :: es) t)
    (hst : starEach (e :: es) X.env = (false, eval e X.env) :: starEach es X.env := by rfl) (hpl : (backTo pos (starEach es X.env)).any (·.1) = false := by rfl)
    (ht : eval (.Call (.Attribute o m apos) (e :: es) [] pos) X.env = (do
      let ov ← eval o X.env
      standAt apos.atName
      let (f, first) ← holding [ov] (getMethod ov m pl)
      callWith pos f first (backTo pos (starEach (e :: es) X.env)) (backToKw pos (keywordEach [] X.env))) := by rfl) : PE X (.Call (.Attribute o m apos) (e :: es) [] pos) (tMeth C m sp [] E0 to t) := by
  obtain ⟨f, fd, cl, mt, ok, b⟩ := c.ex
  exact pe_meth (E := E0) ho cl mt ok hr b .nil pass0 ha hst hpl ht
end
/-! ### // by any divisor -/
def CDivZ (_ j : Int) : Prop := j ≠ 0 ∧ j.natAbs.log2 < 9000
theorem op_fdivZ {X : Cx} : OpR X (binaryOp .FloorDiv) (rI CDivZ fun i j => .int (i.fdiv j)) := opI fun i j _ _ _ _ _ hc q => floordiv_int hc.1 q (.inl (PyProof.noPylong_of_log2 hc.2))
theorem wide_divZ {i j : Int} {b : Nat} (h : j ≠ 0) (hb : j.natAbs < 2 ^ b) (h0 : 0 < b) (h9 : b ≤ 9000) : CDivZ i j := ⟨h, Nat.lt_of_lt_of_le (PySem.Flt.log2_lt_of h0 hb) h9⟩
end Ow
/-! progressions: the mathematics -/
namespace M30
theorem gcd_emod (s f : Int) : Int.gcd s (f % s) = Int.gcd s f := by
  rw [Int.emod_def, Int.sub_eq_add_neg, ← Int.mul_neg, Int.gcd_add_mul_left_right]
/-- what the loop of bezout keeps: (r, x), (r', x') -/
structure Bz (f s r x r' x' : Int) : Prop where
  nn : 0 ≤ r'
  e1 : ∃ y, r = x * f + y * s
  e2 : ∃ y, r' = x' * f + y * s
  dv : ∀ d : Int, (d ∣ r ∧ d ∣ r') ↔ (d ∣ f ∧ d ∣ s)
  b1 : r.natAbs < 2 ^ 62
  b2 : r'.natAbs < 2 ^ 62
theorem bz_start {f s : Int} (hs : 0 ≤ s) (h1 : f.natAbs < 2 ^ 62) (h2 : s.natAbs < 2 ^ 62) : Bz f s f 1 s 0 :=
  ⟨hs, ⟨0, by simp⟩, ⟨1, by simp⟩, fun _ => Iff.rfl, h1, h2⟩
theorem bz_turn {f s r x r' x' : Int} (h : Bz f s r x r' x') (hp : 0 < r') : Bz f s r' x' (r - r / r' * r') (x - r / r' * x') ∧ (r - r / r' * r').toNat < r'.toNat ∧ (r / r').natAbs < 2 ^ 62 := by
  have e : r - r / r' * r' = r % r' := by
    have := Int.emod_def r r'
    rw [Int.mul_comm] at this
    exact this.symm
  have h0 := Int.emod_nonneg r (show r' ≠ 0 by omega)
  have h1 := Int.emod_lt_of_pos r hp
  have hb2 := h.b2
  refine ⟨⟨by rw [e]; exact h0, h.e2, ?_, fun d => ?_, h.b2, by rw [e]; omega⟩, by rw [e]; omega, Nat.lt_of_le_of_lt (Int.natAbs_ediv_le_natAbs r r') h.b1⟩
  · obtain ⟨y, ey⟩ := h.e1
    obtain ⟨z, ez⟩ := h.e2
    refine ⟨y - r / r' * z, ?_⟩
    generalize r / r' = q
    rw [Int.sub_mul, Int.sub_mul, ey, ez, Int.mul_add, Int.mul_assoc, Int.mul_assoc]
    omega
  · rw [← h.dv d]
    constructor
    · rintro ⟨a, b⟩
      refine ⟨?_, a⟩
      have c := Int.dvd_add b (Int.dvd_mul_of_dvd_right (b := r / r') a)
      rw [show r - r / r' * r' + r / r' * r' = r by omega] at c
      exact c
    · rintro ⟨a, b⟩
      exact ⟨b, Int.dvd_sub a (Int.dvd_mul_of_dvd_right (b := r / r') b)⟩
theorem nat_eq {g n : Nat} (h : ∀ d : Nat, d ∣ g ↔ d ∣ n) : g = n := Nat.dvd_antisymm ((h g).mp (Nat.dvd_refl g)) ((h n).mpr (Nat.dvd_refl n))
theorem bz_end {f s r x x' : Int} (h : Bz f s r x 0 x') : (Int.gcd f s : Int) = if r < 0 then -r else r := by
  have e : r.natAbs = Int.gcd f s := nat_eq fun d => by
    rw [Int.dvd_gcd_iff, ← h.dv (d : Int)]
    constructor
    · intro z
      exact ⟨Int.ofNat_dvd_left.mpr z, Int.dvd_zero _⟩
    · rintro ⟨z, _⟩
      exact Int.ofNat_dvd_left.mp z
  rw [← e]
  split <;> omega
/-- what solve_one hands back -/
structure Solved (c m r a b : Int) : Prop where
  z : Int.gcd c m = 0 → a = 1 ∧ b = 0
  q : Int.gcd c m ≠ 0 → a = m / (Int.gcd c m : Int)
  p : a = 0 ∨ (0 ≤ b ∧ b < a)
  f : m ∣ c * b - r
theorem ediv_mul {g m : Int} (h : g ∣ m) : m / g * g = m := Int.ediv_mul_cancel h
theorem solved_mul {c m r g x b : Int} (gc : g ∣ c) (gm : g ∣ m) (gr : g ∣ r) (hb : ∃ y, g = x * c + y * m) (hk : ∃ k, b = r / g * x + k * (m / g)) : m ∣ c * b - r := by
  obtain ⟨y, ey⟩ := hb
  obtain ⟨k, rfl⟩ := hk
  obtain ⟨c', ec⟩ := gc
  have em := ediv_mul gm
  have er := ediv_mul gr
  generalize m / g = m' at em ⊢
  generalize r / g = r' at er ⊢
  refine ⟨c' * k - r' * y, ?_⟩
  have e1 : c * (k * m') = m * (c' * k) := by
    rw [← em, ec]
    simp only [Int.mul_assoc, Int.mul_comm, Int.mul_left_comm]
  have e2 : c * (r' * x) - r = m * (-(r' * y)) := by
    rw [← er]
    have : r' * g = r' * (x * c) + r' * (y * m) := by
      rw [← Int.mul_add, ← ey]
    rw [this, Int.mul_neg]
    have a1 : c * (r' * x) = r' * (x * c) := by simp only [Int.mul_assoc, Int.mul_comm, Int.mul_left_comm]
    have a2 : m * (r' * y) = r' * (y * m) := by simp only [Int.mul_assoc, Int.mul_comm, Int.mul_left_comm]
    rw [a1, a2]
    omega
  rw [Int.mul_add, Int.mul_sub, ← e1]
  have e3 : m * (-(r' * y)) = -(m * (r' * y)) := Int.mul_neg ..
  rw [e3] at e2
  omega
/-- progression(m, r) -/
def prg (m r : Int) : Int := if m = 0 then r else r % m
theorem prg_k (m r : Int) : ∃ k, prg m r = r + k * m := by
  unfold prg
  split
  · exact ⟨0, by simp⟩
  · refine ⟨-(r / m), ?_⟩
    rw [Int.emod_def, Int.neg_mul, Int.mul_comm]
    omega
theorem prg_p {m r : Int} (h : 0 ≤ m) : m = 0 ∨ (0 ≤ prg m r ∧ prg m r < m) := by
  unfold prg
  split
  · rename_i h
    exact .inl h
  · exact .inr ⟨Int.emod_nonneg _ (by omega), Int.emod_lt_of_pos _ (by omega)⟩
theorem prg_dv {m r x : Int} : m ∣ x - prg m r ↔ m ∣ x - r := by
  obtain ⟨k, e⟩ := prg_k m r
  rw [e]
  constructor
  · intro h
    have := Int.dvd_add h (Int.dvd_mul_left k m)
    rw [show x - (r + k * m) + k * m = x - r by omega] at this
    exact this
  · intro h
    have := Int.dvd_sub h (Int.dvd_mul_left k m)
    rw [show x - r - k * m = x - (r + k * m) by omega] at this
    exact this
theorem solved_of {c m r x g : Int} (hm : 0 ≤ m) (hg : (Int.gcd c m : Int) = g) (g0 : 0 < g) (hr : g ∣ r) (hb : ∃ y, g = x * c + y * m) : Solved c m r (m / g) (prg (m / g) (r / g * x)) := by
  have gc : g ∣ c := hg ▸ Int.gcd_dvd_left c m
  have gm : g ∣ m := hg ▸ Int.gcd_dvd_right c m
  refine ⟨fun z => ?_, fun _ => by rw [hg], prg_p (Int.ediv_nonneg hm (by omega)), ?_⟩
  · rw [z] at hg
    exact absurd hg (by show ¬ (0 : Int) = g; omega)
  · obtain ⟨k, e⟩ := prg_k (m / g) (r / g * x)
    exact solved_mul gc gm hr hb ⟨k, e⟩
theorem solved_zero {c m r : Int} (hg : (Int.gcd c m : Int) = 0) (hr : r = 0) : Solved c m r 1 0 := by
  have h0 : Int.gcd c m = 0 := by omega
  refine ⟨fun _ => ⟨rfl, rfl⟩, fun h => absurd h0 h, .inr ⟨by omega, by omega⟩, ?_⟩
  rw [hr]
  exact ⟨0, by simp⟩

/-! ### meeting -/
def lm : List (Int × Int) → Int
  | [] => 1
  | p :: ps => lm ps * (p.1 / (Int.gcd (lm ps) p.1 : Int))
/-- the least common multiple, from the left (the last one first) -/
def lmL (ps : List (Int × Int)) : Int := lm ps.reverse
def Meets (ps : List (Int × Int)) (M R : Int) : Prop := ∀ x : Int, (∀ p ∈ ps, p.1 ∣ x - p.2) ↔ M ∣ x - R
theorem bez (a b : Int) : ∃ x y, (Int.gcd a b : Int) = x * a + y * b := by
  have key : ∀ n (f s : Int), 0 ≤ s → s.toNat = n → ∃ x y, (Int.gcd f s : Int) = x * f + y * s := by
    intro n
    induction n using Nat.strongRecOn with
    | ind n ih =>
      intro f s hs e
      by_cases h : s = 0
      · subst h
        by_cases hf : f < 0
        · exact ⟨-1, 0, by simp; omega⟩
        · exact ⟨1, 0, by simp; omega⟩
      · have h1 := Int.emod_nonneg f h
        have h2 := Int.emod_lt_of_pos f (show 0 < s by omega)
        obtain ⟨x, y, exy⟩ := ih (f % s).toNat (by omega) s (f % s) h1 rfl
        refine ⟨y, x - y * (f / s), ?_⟩
        have e2 : Int.gcd f s = Int.gcd s (f % s) := by
          rw [gcd_emod, Int.gcd_comm]
        rw [e2, exy, Int.emod_def, Int.mul_sub, Int.sub_mul]
        have : y * (s * (f / s)) = y * (f / s) * s := by simp only [Int.mul_assoc, Int.mul_comm, Int.mul_left_comm]
        omega
  by_cases h : 0 ≤ b
  · exact key _ a b h rfl
  · obtain ⟨x, y, e⟩ := key _ a (-b) (by omega) rfl
    refine ⟨x, -y, ?_⟩
    rw [Int.gcd_neg] at e
    rw [e, Int.mul_neg, Int.neg_mul]
/-- M | z and m | z, at once -/
theorem lcm_iff {M m z : Int} : (M ∣ z ∧ m ∣ z) ↔ M * (m / (Int.gcd M m : Int)) ∣ z := by
  have gm := Int.gcd_dvd_right M m
  have gM := Int.gcd_dvd_left M m
  obtain ⟨p, q, e⟩ := bez M m
  generalize hg : (Int.gcd M m : Int) = g at *
  have em := ediv_mul gm
  have eM := ediv_mul gM
  generalize m / g = m' at em ⊢
  constructor
  · rintro ⟨⟨u, hu⟩, ⟨v, hv⟩⟩
    by_cases h0 : g = 0
    · have : Int.gcd M m = 0 := by omega
      obtain ⟨a, b⟩ := Int.gcd_eq_zero_iff.mp this
      rw [hu, a]
      exact ⟨0, by simp⟩
    · refine ⟨p * v + q * u, ?_⟩
      refine Int.eq_of_mul_eq_mul_left h0 ?_
      have : g * z = p * (M * z) + q * (m * z) := by
        rw [e, Int.add_mul, Int.mul_assoc, Int.mul_assoc]
      rw [this]
      have e1 : p * (M * z) = g * (M * m' * (p * v)) := by
        rw [hv, ← em]
        simp only [Int.mul_assoc, Int.mul_comm, Int.mul_left_comm]
      have e2 : q * (m * z) = g * (M * m' * (q * u)) := by
        rw [hu, ← em]
        simp only [Int.mul_assoc, Int.mul_comm, Int.mul_left_comm]
      rw [e1, e2, Int.mul_add, Int.mul_add]
  · rintro ⟨w, rfl⟩
    constructor
    · exact ⟨m' * w, by simp only [Int.mul_assoc]⟩
    · refine ⟨M / g * w, ?_⟩
      rw [← em]
      have : M * m' * w = M / g * g * m' * w := by rw [eM]
      rw [this]
      simp only [Int.mul_assoc, Int.mul_comm, Int.mul_left_comm]
theorem gcd_meet {L m' m k : Int} (h1 : (Int.gcd L m : Int) ∣ k) (h2 : (Int.gcd m' m : Int) ∣ k) : (Int.gcd (L * (m' / (Int.gcd L m' : Int))) m : Int) ∣ k := by
  obtain ⟨p, q, e⟩ := bez L m'
  by_cases h0 : Int.gcd L m' = 0
  · obtain ⟨a, b⟩ := Int.gcd_eq_zero_iff.mp h0
    subst a b
    rw [Int.zero_mul]
    exact h1
  · have gm := Int.gcd_dvd_right L m'
    have gL := Int.gcd_dvd_left L m'
    have h00 : (Int.gcd L m' : Int) ≠ 0 := by omega
    generalize (Int.gcd L m' : Int) = g at *
    have em := ediv_mul gm
    have eL := ediv_mul gL
    generalize m' / g = b at *
    generalize L / g = a at *
    -- p a + q b = 1
    have e1 : p * a + q * b = 1 := by
      refine Int.eq_of_mul_eq_mul_left h00 ?_
      rw [Int.mul_one]
      have : g * (p * a + q * b) = p * (a * g) + q * (b * g) := by
        rw [Int.mul_add]
        simp only [Int.mul_assoc, Int.mul_comm, Int.mul_left_comm]
      rw [this, eL, em]
      exact e.symm
    obtain ⟨x1, y1, f1⟩ := bez L m
    obtain ⟨x2, y2, f2⟩ := bez m' m
    obtain ⟨k1, hk1⟩ := h1
    obtain ⟨k2, hk2⟩ := h2
    rw [f1] at hk1
    rw [f2] at hk2
    -- k = k (p a) + k (q b); k p a in the span of a m' = L b, m ; k q b in the span of b L, m
    have d1 : (Int.gcd (L * b) m : Int) ∣ L * b := Int.gcd_dvd_left _ _
    have d2 : (Int.gcd (L * b) m : Int) ∣ m := Int.gcd_dvd_right _ _
    have c1 : (Int.gcd (L * b) m : Int) ∣ k * (p * a) := by
      rw [hk2]
      have : (x2 * m' + y2 * m) * k2 * (p * a) = L * b * (x2 * k2 * p) + m * (y2 * k2 * p * a) := by
        rw [← em, ← eL, Int.add_mul, Int.add_mul]
        congr 1 <;> simp only [Int.mul_assoc, Int.mul_comm, Int.mul_left_comm]
      rw [this]
      exact Int.dvd_add (Int.dvd_mul_of_dvd_left d1) (Int.dvd_mul_of_dvd_left d2)
    have c2 : (Int.gcd (L * b) m : Int) ∣ k * (q * b) := by
      rw [hk1]
      have : (x1 * L + y1 * m) * k1 * (q * b) = L * b * (x1 * k1 * q) + m * (y1 * k1 * q * b) := by
        rw [Int.add_mul, Int.add_mul]
        congr 1 <;> simp only [Int.mul_assoc, Int.mul_comm, Int.mul_left_comm]
      rw [this]
      exact Int.dvd_add (Int.dvd_mul_of_dvd_left d1) (Int.dvd_mul_of_dvd_left d2)
    have := Int.dvd_add c1 c2
    rw [← Int.mul_add, e1, Int.mul_one] at this
    exact this
theorem gcd_lm {m k : Int} : ∀ {ps : List (Int × Int)}, (∀ p ∈ ps, (Int.gcd p.1 m : Int) ∣ k) → (Int.gcd (lm ps) m : Int) ∣ k
  | [], _ => by
    show (Int.gcd 1 m : Int) ∣ k
    rw [Int.gcd_one_left]
    exact ⟨k, by simp⟩
  | p :: ps, h => gcd_meet (gcd_lm fun q hq => h q (List.mem_cons_of_mem _ hq)) (h p List.mem_cons_self)
/-- two progressions agree -/
def Fit (p q : Int × Int) : Prop := (Int.gcd p.1 q.1 : Int) ∣ p.2 - q.2
theorem fits_of {ps : List (Int × Int)} {M R : Int} (h : Meets ps M R) : ∀ p ∈ ps, ∀ q ∈ ps, Fit p q := fun p hp q hq => by
  have a := (h R).mpr (by rw [Int.sub_self]; exact Int.dvd_zero _)
  have x := Int.dvd_trans (Int.gcd_dvd_left p.1 q.1) (a p hp)
  have y := Int.dvd_trans (Int.gcd_dvd_right p.1 q.1) (a q hq)
  have z := Int.dvd_sub y x
  rw [show R - q.2 - (R - p.2) = p.2 - q.2 by omega] at z
  exact z
theorem meets_nil : Meets [] 1 0 := fun x => ⟨fun _ => ⟨x - 0, by simp⟩, fun _ p hp => by cases hp⟩
theorem lm_snoc (ps : List (Int × Int)) (p : Int × Int) : lmL (ps ++ [p]) = lmL ps * (p.1 / (Int.gcd (lmL ps) p.1 : Int)) := by
  unfold lmL
  rw [List.reverse_append]
  rfl
theorem meets_snoc {ps : List (Int × Int)} {p : Int × Int} {R a b : Int} (h : Meets ps (lmL ps) R) (s : Solved (lmL ps) p.1 (p.2 - R) a b) :
    lmL (ps ++ [p]) = lmL ps * a ∧ Meets (ps ++ [p]) (lmL ps * a) (prg (lmL ps * a) (R + lmL ps * b)) := by
  have e : lmL (ps ++ [p]) = lmL ps * a := by
    rw [lm_snoc]
    by_cases h0 : Int.gcd (lmL ps) p.1 = 0
    · obtain ⟨x, _⟩ := Int.gcd_eq_zero_iff.mp h0
      rw [x, Int.zero_mul, Int.zero_mul]
    · rw [s.q h0]
  refine ⟨e, fun x => ?_⟩
  rw [prg_dv, ← e, lm_snoc, ← lcm_iff]
  have f := s.f
  constructor
  · intro hp
    have h1 := (h x).mp fun q hq => hp q (List.mem_append_left _ hq)
    have h2 := hp p (List.mem_append_right _ List.mem_cons_self)
    constructor
    · have := Int.dvd_sub h1 (Int.dvd_mul_right (lmL ps) b)
      rw [show x - R - lmL ps * b = x - (R + lmL ps * b) by omega] at this
      exact this
    · have := Int.dvd_sub h2 f
      rw [show x - p.2 - (lmL ps * b - (p.2 - R)) = x - (R + lmL ps * b) by omega] at this
      exact this
  · rintro ⟨h1, h2⟩ q hq
    rcases List.mem_append.mp hq with hq | hq
    · refine (h x).mpr ?_ q hq
      have := Int.dvd_add h1 (Int.dvd_mul_right (lmL ps) b)
      rw [show x - (R + lmL ps * b) + lmL ps * b = x - R by omega] at this
      exact this
    · rw [List.mem_singleton.mp hq]
      have := Int.dvd_add h2 f
      rw [show x - (R + lmL ps * b) + (lmL ps * b - (p.2 - R)) = x - p.2 by omega] at this
      exact this
theorem no_snoc {ps : List (Int × Int)} {p : Int × Int} {R : Int} (h : Meets ps (lmL ps) R) (n : ¬ (Int.gcd (lmL ps) p.1 : Int) ∣ p.2 - R) : ¬ ∀ q ∈ ps, Fit q p := fun hf => n (by
  have a := (h R).mpr (by rw [Int.sub_self]; exact Int.dvd_zero _)
  refine gcd_lm fun q hq => ?_
  have hq2 := List.mem_reverse.mp hq
  have x := Int.dvd_trans (Int.gcd_dvd_left q.1 p.1) (a q hq2)
  have y := hf q hq2
  have z := Int.dvd_add x y
  rw [show R - q.2 + (q.2 - p.2) = -(p.2 - R) by omega] at z
  exact Int.dvd_neg.mp z)
/-- sizes -/
theorem lm_size {ps : List (Int × Int)} (h : ∀ p ∈ ps, 0 ≤ p.1 ∧ p.1 < 2 ^ 20) : 0 ≤ lmL ps ∧ lmL ps ≤ (2 ^ 20) ^ ps.length := by
  have key : ∀ l : List (Int × Int), (∀ p ∈ l, 0 ≤ p.1 ∧ p.1 < 2 ^ 20) → 0 ≤ lm l ∧ lm l ≤ (2 ^ 20) ^ l.length := by
    intro l
    induction l with
    | nil => exact fun _ => ⟨by decide, by decide⟩
    | cons p l ih =>
      intro h
      obtain ⟨a, b⟩ := ih fun q hq => h q (List.mem_cons_of_mem _ hq)
      obtain ⟨c, d⟩ := h p List.mem_cons_self
      have e1 : 0 ≤ p.1 / (Int.gcd (lm l) p.1 : Int) := Int.ediv_nonneg c (by omega)
      have e2 : p.1 / (Int.gcd (lm l) p.1 : Int) ≤ p.1 := Int.ediv_le_self _ c
      refine ⟨Int.mul_nonneg a e1, ?_⟩
      show lm l * (p.1 / (Int.gcd (lm l) p.1 : Int)) ≤ (2 ^ 20) ^ (l.length + 1)
      rw [Int.pow_succ]
      exact Int.mul_le_mul b (by omega) e1 (Int.le_trans a b)
  have := key ps.reverse fun p hp => h p (List.mem_reverse.mp hp)
  rw [List.length_reverse] at this
  exact this
theorem prg_size {M R a b m s : Int} (sol : Solved M m (s - R) a b) (hR : R.natAbs < 2 ^ 61) (hs : s.natAbs < 2 ^ 21) (h0 : 0 ≤ M * a) (h1 : M * a ≤ 2 ^ 60) : (prg (M * a) (R + M * b)).natAbs < 2 ^ 61 := by
  rcases prg_p (m := M * a) (r := R + M * b) h0 with h | h
  · by_cases hM : M = 0
    · subst hM
      rw [h]
      unfold prg
      rw [if_pos rfl, Int.zero_mul]
      omega
    · have ha : a = 0 := by
        rcases Int.mul_eq_zero.mp h with h | h
        · exact absurd h hM
        · exact h
      have hg : Int.gcd M m ≠ 0 := fun z => hM (Int.gcd_eq_zero_iff.mp z).1
      have hm : m = 0 := by
        have := ediv_mul (Int.gcd_dvd_right M m)
        rw [← sol.q hg, ha] at this
        omega
      have f := sol.f
      rw [hm, Int.zero_dvd] at f
      rw [h]
      unfold prg
      rw [if_pos rfl]
      omega
  · omega
/-- Euclid's loop in the law: what holds after i turns -/
structure Eu (a0 b0 : Int) (i : Nat) (a b : Int) : Prop where
  na : 0 ≤ a
  nb : 0 ≤ b
  g : Int.gcd a b = Int.gcd a0 b0
  o : 1 ≤ i → b < a
  p : 2 ^ i * (a.toNat * b.toNat) ≤ 2 * (a0.toNat * b0.toNat)
  m : a.toNat * b.toNat ≤ a0.toNat * b0.toNat
theorem eu_start {a b : Int} (h1 : 0 ≤ a) (h2 : 0 ≤ b) : Eu a b 0 a b := ⟨h1, h2, rfl, fun h => absurd h (by omega), by
  rw [Nat.pow_zero, Nat.one_mul]
  omega, Nat.le_refl _⟩
theorem eu_turn {a0 b0 : Int} {i : Nat} {a b : Int} (h : Eu a0 b0 i a b) (hb : b ≠ 0) : Eu a0 b0 (i + 1) b (a % b) := by
  have hb0 : 0 < b := by have := h.nb; omega
  have h1 := Int.emod_nonneg a hb
  have h2 := Int.emod_lt_of_pos a hb0
  have hg : Int.gcd b (a % b) = Int.gcd a0 b0 := by rw [← h.g, gcd_emod, Int.gcd_comm]
  obtain ⟨m, em⟩ := Int.eq_ofNat_of_zero_le h.na
  obtain ⟨n, en⟩ := Int.eq_ofNat_of_zero_le h.nb
  have hp : 2 ^ i * (m * n) ≤ 2 * (a0.toNat * b0.toNat) := by
    have := h.p
    rw [em, en] at this
    exact this
  have hm : m * n ≤ a0.toNat * b0.toNat := by
    have := h.m
    rw [em, en] at this
    exact this
  have ho := h.o
  subst em en
  have e : ((m : Int) % (n : Int)).toNat = m % n := by
    rw [← Int.natCast_emod]
    rfl
  have hn : 0 < n := by omega
  have q : n * (m % n) ≤ m * n := by
    rw [Nat.mul_comm m n]
    exact Nat.mul_le_mul_left _ (Nat.mod_le m n)
  refine ⟨h.nb, h1, hg, fun _ => h2, ?_, by rw [e]; exact Nat.le_trans q hm⟩
  rw [e]
  show 2 ^ (i + 1) * (n * (m % n)) ≤ _
  by_cases hi : 1 ≤ i
  · have o := ho hi
    have o2 : n < m := by omega
    have q : 2 * (m % n) ≤ m := by
      have a1 := Nat.mod_add_div m n
      have a2 := Nat.mod_lt m hn
      have a3 : 1 ≤ m / n := (Nat.le_div_iff_mul_le hn).mpr (by omega)
      have a4 : n * 1 ≤ n * (m / n) := Nat.mul_le_mul_left n a3
      omega
    refine Nat.le_trans ?_ hp
    rw [Nat.pow_succ, Nat.mul_assoc]
    refine Nat.mul_le_mul_left _ ?_
    have q2 := Nat.mul_le_mul_left n q
    have q3 : 2 * (n * (m % n)) = n * (2 * (m % n)) := Nat.mul_left_comm 2 n _
    have q4 : m * n = n * m := Nat.mul_comm m n
    omega
  · have : i = 0 := by omega
    subst this
    show 2 ^ 1 * _ ≤ _
    omega
set_option maxRecDepth 100000 in
set_option exponentiation.threshold 1000 in
theorem eu_end {a0 b0 a b : Int} (h : Eu a0 b0 600 a b) (ha : a0.toNat < 2 ^ 80) (hb : b0.toNat < 2 ^ 80) : b = 0 := by
  have h1 : a0.toNat * b0.toNat < 2 ^ 80 * 2 ^ 80 := Nat.mul_lt_mul'' ha hb
  have h2 := h.p
  have h3 := h.o (by decide)
  have hnb := h.nb
  by_cases hz : b = 0
  · exact hz
  · have h4 : 1 ≤ a.toNat * b.toNat := Nat.mul_pos (by omega) (by omega)
    have h5 : 2 ^ 600 * 1 ≤ 2 ^ 600 * (a.toNat * b.toNat) := Nat.mul_le_mul_left _ h4
    have h6 : 2 * (2 ^ 80 * 2 ^ 80) < 2 ^ 600 := by decide
    omega
theorem eu_gcd {a0 b0 a : Int} {i : Nat} (h : Eu a0 b0 i a 0) : a = (Int.gcd a0 b0 : Int) := by
  have := h.g
  rw [Int.gcd_zero_right] at this
  have := h.na
  omega
theorem gcd_abs (a b : Int) : Int.gcd (if a < 0 then -a else a) (if b < 0 then -b else b) = Int.gcd a b := by
  split <;> split <;> simp
/-- the law's own least common multiple -/
theorem lmL_turn (L m : Int) : (if m = 0 ∨ L = 0 then (0 : Int) else L * m / (Int.gcd L m : Int)) = L * (m / (Int.gcd L m : Int)) := by
  split
  · rename_i h
    rcases h with h | h
    · rw [h]
      simp
    · rw [h]
      simp
  · exact Int.mul_ediv_assoc L (Int.gcd_dvd_right L m)
end M30
namespace M23
open M30
/-! ### fractions in lowest terms -/
set_option exponentiation.threshold 1000 in
theorem eu_end2 {a0 b0 a b : Int} (h : Eu a0 b0 600 a b) (ha : a0.toNat < 2 ^ 290) (hb : b0.toNat < 2 ^ 290) : b = 0 := by
  have h1 : a0.toNat * b0.toNat < 2 ^ 290 * 2 ^ 290 := Nat.mul_lt_mul'' ha hb
  have h2 := h.p
  have h3 := h.o (by decide)
  have hnb := h.nb
  by_cases hz : b = 0
  · exact hz
  · have h4 : 1 ≤ a.toNat * b.toNat := Nat.mul_pos (by omega) (by omega)
    have h5 : 2 ^ 600 * 1 ≤ 2 ^ 600 * (a.toNat * b.toNat) := Nat.mul_le_mul_left _ h4
    have h6 : 2 * (2 ^ 290 * 2 ^ 290) < 2 ^ 600 := by decide +kernel
    omega
def low (t b : Int) : Int × Int := if b < 0 then ((-t) / (Int.gcd t b : Int), (-b) / (Int.gcd t b : Int)) else (t / (Int.gcd t b : Int), b / (Int.gcd t b : Int))
theorem gcd_pos {t b : Int} (h : b ≠ 0) : 0 < (Int.gcd t b : Int) := by
  have : Int.gcd t b ≠ 0 := fun z => h (Int.gcd_eq_zero_iff.mp z).2
  omega
theorem fdiv_exact {t g : Int} (hg : 0 < g) (h : g ∣ t) : t.fdiv (-g) = (-t) / g ∧ t.fdiv g = t / g := by
  obtain ⟨k, rfl⟩ := h
  refine ⟨?_, Int.fdiv_eq_ediv_of_nonneg _ (by omega)⟩
  have e1 : g * k = -g * (-k) := by rw [Int.neg_mul_neg]
  rw [e1, Int.mul_fdiv_cancel_left _ (by omega)]
  have e2 : -(-g * -k) = g * (-k) := by rw [Int.neg_mul_neg, Int.mul_neg]
  rw [e2, Int.mul_ediv_cancel_left _ (by omega)]
/-- the law's own way to it -/
theorem low_law {t b : Int} (hb : b ≠ 0) : (t.fdiv (if b < 0 then -(Int.gcd t b : Int) else (Int.gcd t b : Int)), b.fdiv (if b < 0 then -(Int.gcd t b : Int) else (Int.gcd t b : Int))) = low t b := by
  have hg := gcd_pos (t := t) hb
  have d1 := fdiv_exact hg (Int.gcd_dvd_left t b)
  have d2 := fdiv_exact hg (Int.gcd_dvd_right t b)
  unfold low
  split
  · rw [d1.1, d2.1]
  · rw [d1.2, d2.2]
/-- in lowest terms -/
structure Low (p : Int × Int) : Prop where
  pos : 0 < p.2
  cop : Int.gcd p.1 p.2 = 1
theorem low_pos {t b : Int} (hb : 0 < b) : ∃ g, 0 < g ∧ t = g * (low t b).1 ∧ b = g * (low t b).2 ∧ Int.gcd (low t b).1 (low t b).2 = 1 := by
  have hg := gcd_pos (t := t) (show b ≠ 0 by omega)
  refine ⟨(Int.gcd t b : Int), hg, ?_, ?_, ?_⟩
  · unfold low
    rw [if_neg (by omega)]
    exact (Int.mul_ediv_cancel' (Int.gcd_dvd_left t b)).symm
  · unfold low
    rw [if_neg (by omega)]
    exact (Int.mul_ediv_cancel' (Int.gcd_dvd_right t b)).symm
  · unfold low
    rw [if_neg (by omega)]
    exact Int.gcd_ediv_gcd_ediv_gcd (by omega)
theorem low_neg (t b : Int) (hb : b < 0) : low t b = low (-t) (-b) := by
  unfold low
  rw [if_pos hb, if_neg (by omega), Int.gcd_neg, Int.neg_gcd]
theorem low_low {t b : Int} (hb : b ≠ 0) : Low (low t b) := by
  have key : ∀ t b : Int, 0 < b → Low (low t b) := fun t b hb => by
    obtain ⟨g, hg, e1, e2, e3⟩ := low_pos (t := t) hb
    refine ⟨?_, e3⟩
    rw [e2] at hb
    exact Int.pos_of_mul_pos_right hb hg
  by_cases h : b < 0
  · rw [low_neg t b h]
    exact key _ _ (by omega)
  · exact key _ _ (by omega)
theorem low_val {t b : Int} (hb : 0 < b) : t * (low t b).2 = (low t b).1 * b := by
  obtain ⟨g, hg, e1, e2, _⟩ := low_pos (t := t) hb
  generalize low t b = p at *
  subst e1 e2
  grind
theorem dvd_of {y x w : Int} (h : y ∣ x * w) (c : Int.gcd x y = 1) : y ∣ w := by
  have h1 : y.natAbs ∣ x.natAbs * w.natAbs := by
    rw [← Int.natAbs_mul]
    exact Int.natAbs_dvd_natAbs.mpr h
  have h2 : Nat.Coprime y.natAbs x.natAbs := by
    rw [Nat.coprime_comm]
    exact c
  exact Int.natAbs_dvd_natAbs.mp (h2.dvd_of_dvd_mul_left h1)
theorem low_uniq {t b s c : Int} (hb : 0 < b) (hc : 0 < c) (h : t * c = s * b) : low t b = low s c := by
  obtain ⟨g, hg, e1, e2, e3⟩ := low_pos (t := t) hb
  obtain ⟨k, hk, f1, f2, f3⟩ := low_pos (t := s) hc
  have p1 := (low_low (t := t) (show b ≠ 0 by omega)).pos
  have p2 := (low_low (t := s) (show c ≠ 0 by omega)).pos
  generalize low t b = p at *
  generalize low s c = q at *
  obtain ⟨x, y⟩ := p
  obtain ⟨z, w⟩ := q
  dsimp only at *
  have e : x * w = z * y := by
    subst e1 e2 f1 f2
    have e4 : (g * k) * (x * w) = (g * k) * (z * y) := by grind
    exact Int.eq_of_mul_eq_mul_left (by have := Int.mul_pos hg hk; omega) e4
  have d1 : y ∣ w := by
    have : y ∣ x * w := ⟨z, by rw [e, Int.mul_comm]⟩
    exact dvd_of this e3
  have d2 : w ∣ y := by
    have : w ∣ z * y := ⟨x, by rw [← e, Int.mul_comm]⟩
    exact dvd_of this f3
  have e5 : y = w := Int.le_antisymm (Int.le_of_dvd p2 d1) (Int.le_of_dvd p1 d2)
  subst e5
  rw [Int.eq_of_mul_eq_mul_right (by omega) e]
theorem low_le {t b : Int} (hb : b ≠ 0) : (low t b).1.natAbs ≤ t.natAbs ∧ (low t b).2.natAbs ≤ b.natAbs := by
  have key : ∀ t b : Int, 0 < b → (low t b).1.natAbs ≤ t.natAbs ∧ (low t b).2.natAbs ≤ b.natAbs := fun t b hb => by
    obtain ⟨g, hg, e1, e2, _⟩ := low_pos (t := t) hb
    generalize low t b = p at *
    have h1 : 1 ≤ g.natAbs := by omega
    constructor
    · rw [e1, Int.natAbs_mul]
      exact Nat.le_mul_of_pos_left _ h1
    · rw [e2, Int.natAbs_mul]
      exact Nat.le_mul_of_pos_left _ h1
  by_cases h : b < 0
  · rw [low_neg t b h]
    have := key (-t) (-b) (by omega)
    rw [Int.natAbs_neg, Int.natAbs_neg] at this
    exact this
  · exact key _ _ (by omega)
/-- adding up -/
def addR (ps : List (Int × Int)) : Int × Int := ps.foldl (fun s p => (s.1 * p.2 + p.1 * s.2, s.2 * p.2)) (0, 1)
theorem addR_snoc (ps : List (Int × Int)) (p : Int × Int) : addR (ps ++ [p]) = ((addR ps).1 * p.2 + p.1 * (addR ps).2, (addR ps).2 * p.2) := by
  unfold addR
  rw [List.foldl_append]
  rfl
theorem addR_pos : ∀ {ps : List (Int × Int)}, (∀ p ∈ ps, 0 < p.2) → 0 < (addR ps).2 := by
  intro ps h
  have key : ∀ (ps : List (Int × Int)) (s : Int × Int), (∀ p ∈ ps, 0 < p.2) → 0 < s.2 → 0 < (ps.foldl (fun s p => (s.1 * p.2 + p.1 * s.2, s.2 * p.2)) s).2 := by
    intro ps
    induction ps with
    | nil => exact fun s _ h => h
    | cons p ps ih =>
      intro s h hs
      exact ih _ (fun q hq => h q (List.mem_cons_of_mem _ hq)) (Int.mul_pos hs (h p List.mem_cons_self))
  exact key ps _ h (by decide)
/-- parts that say the same add up to the same -/
theorem addR_same (ps qs : List (Int × Int)) (hl : ps.length = qs.length) (h : ∀ (i : Nat) (p q : Int × Int), ps[i]? = some p → qs[i]? = some q → p.1 * q.2 = q.1 * p.2) : (addR ps).1 * (addR qs).2 = (addR qs).1 * (addR ps).2 := by
  have key : ∀ (ps qs : List (Int × Int)) (s r : Int × Int), ps.length = qs.length → (∀ (i : Nat) (p q : Int × Int), ps[i]? = some p → qs[i]? = some q → p.1 * q.2 = q.1 * p.2) → s.1 * r.2 = r.1 * s.2 →
      (ps.foldl (fun s p => (s.1 * p.2 + p.1 * s.2, s.2 * p.2)) s).1 * (qs.foldl (fun s p => (s.1 * p.2 + p.1 * s.2, s.2 * p.2)) r).2 = (qs.foldl (fun s p => (s.1 * p.2 + p.1 * s.2, s.2 * p.2)) r).1 * (ps.foldl (fun s p => (s.1 * p.2 + p.1 * s.2, s.2 * p.2)) s).2 := by
    intro ps
    induction ps with
    | nil =>
      intro qs s r hl _ h
      match qs, hl with
      | [], _ => exact h
    | cons p ps ih =>
      intro qs s r hl h hs
      match qs, hl with
      | q :: qs, hl =>
        refine ih qs _ _ (by simpa using hl) (fun i a b h1 h2 => h (i + 1) a b (by simpa using h1) (by simpa using h2)) ?_
        have h0 := h 0 p q rfl rfl
        obtain ⟨p1, p2⟩ := p
        obtain ⟨q1, q2⟩ := q
        obtain ⟨s1, s2⟩ := s
        obtain ⟨r1, r2⟩ := r
        dsimp only at *
        grind
  exact key ps qs _ _ hl h rfl
/-- how great they get -/
theorem addR_size (L : Nat) (hL : 0 < L) : ∀ (ps : List (Int × Int)), (∀ p ∈ ps, p.1.natAbs < 2 ^ L ∧ p.2.natAbs < 2 ^ L) → (addR ps).1.natAbs < 2 ^ (ps.length * (L + 1) + 1) ∧ (addR ps).2.natAbs < 2 ^ (ps.length * (L + 1) + 1) := by
  intro ps
  have key : ∀ (n : Nat) (ps : List (Int × Int)), ps.length = n → (∀ p ∈ ps, p.1.natAbs < 2 ^ L ∧ p.2.natAbs < 2 ^ L) → (addR ps).1.natAbs < 2 ^ (n * (L + 1) + 1) ∧ (addR ps).2.natAbs < 2 ^ (n * (L + 1) + 1) := by
    intro n
    induction n with
    | zero =>
      intro ps hl _
      match ps, hl with
      | [], _ =>
        rw [Nat.zero_mul]
        unfold addR
        exact ⟨by decide, by decide⟩
    | succ n ih =>
      intro ps hl h
      obtain ⟨qs, q, rfl⟩ : ∃ qs q, ps = qs ++ [q] := ⟨ps.dropLast, ps.getLast (by intro z; rw [z] at hl; cases hl), (List.dropLast_concat_getLast _).symm⟩
      rw [List.length_append] at hl
      have hq := h q (List.mem_append_right _ (List.mem_singleton.mpr rfl))
      obtain ⟨h1, h2⟩ := ih qs (by simpa using hl) fun p hp => h p (List.mem_append_left _ hp)
      rw [addR_snoc]
      have e : 2 ^ ((n + 1) * (L + 1) + 1) = 2 * (2 ^ (n * (L + 1) + 1) * 2 ^ L) := by
        rw [← Nat.pow_add, ← Nat.pow_succ']
        congr 1
        rw [Nat.succ_mul]
        omega
      rw [e]
      have a1 : ((addR qs).1 * q.2).natAbs < 2 ^ (n * (L + 1) + 1) * 2 ^ L := by
        rw [Int.natAbs_mul]
        exact Nat.mul_lt_mul'' h1 hq.2
      have a2 : (q.1 * (addR qs).2).natAbs < 2 ^ (n * (L + 1) + 1) * 2 ^ L := by
        rw [Int.natAbs_mul, Nat.mul_comm]
        exact Nat.mul_lt_mul'' h2 hq.1
      have a3 : ((addR qs).2 * q.2).natAbs < 2 ^ (n * (L + 1) + 1) * 2 ^ L := by
        rw [Int.natAbs_mul]
        exact Nat.mul_lt_mul'' h2 hq.2
      generalize 2 ^ (n * (L + 1) + 1) * 2 ^ L = B at *
      constructor
      · show ((addR qs).1 * q.2 + q.1 * (addR qs).2).natAbs < _
        omega
      · show ((addR qs).2 * q.2).natAbs < _
        omega
  exact fun h => key _ ps rfl h
theorem addR_size2 (M D : Nat) : ∀ (ps : List (Int × Int)), (∀ p ∈ ps, p.1.natAbs ≤ 2 ^ (M + D) ∧ p.2.natAbs ≤ 2 ^ M) → (addR ps).1.natAbs ≤ ps.length * 2 ^ (ps.length * M + D) ∧ (addR ps).2.natAbs ≤ 2 ^ (ps.length * M) := by
  intro ps
  have key : ∀ (n : Nat) (ps : List (Int × Int)), ps.length = n → (∀ p ∈ ps, p.1.natAbs ≤ 2 ^ (M + D) ∧ p.2.natAbs ≤ 2 ^ M) → (addR ps).1.natAbs ≤ n * 2 ^ (n * M + D) ∧ (addR ps).2.natAbs ≤ 2 ^ (n * M) := by
    intro n
    induction n with
    | zero =>
      intro ps hl _
      match ps, hl with
      | [], _ =>
        rw [Nat.zero_mul, Nat.zero_mul]
        unfold addR
        exact ⟨by decide, by decide⟩
    | succ n ih =>
      intro ps hl h
      obtain ⟨qs, q, rfl⟩ : ∃ qs q, ps = qs ++ [q] := ⟨ps.dropLast, ps.getLast (by intro z; rw [z] at hl; cases hl), (List.dropLast_concat_getLast _).symm⟩
      rw [List.length_append] at hl
      have hq := h q (List.mem_append_right _ (List.mem_singleton.mpr rfl))
      obtain ⟨h1, h2⟩ := ih qs (by simpa using hl) fun p hp => h p (List.mem_append_left _ hp)
      rw [addR_snoc]
      have e1 : 2 ^ ((n + 1) * M + D) = 2 ^ (n * M + D) * 2 ^ M := by
        rw [← Nat.pow_add]
        congr 1
        rw [Nat.succ_mul]
        omega
      have e2 : 2 ^ ((n + 1) * M + D) = 2 ^ (M + D) * 2 ^ (n * M) := by
        rw [← Nat.pow_add]
        congr 1
        rw [Nat.succ_mul]
        omega
      have e3 : 2 ^ ((n + 1) * M) = 2 ^ (n * M) * 2 ^ M := by
        rw [← Nat.pow_add]
        congr 1
        rw [Nat.succ_mul]
      have a1 : ((addR qs).1 * q.2).natAbs ≤ n * 2 ^ ((n + 1) * M + D) := by
        rw [Int.natAbs_mul, e1, ← Nat.mul_assoc]
        exact Nat.mul_le_mul h1 hq.2
      have a2 : (q.1 * (addR qs).2).natAbs ≤ 2 ^ ((n + 1) * M + D) := by
        rw [Int.natAbs_mul, e2]
        exact Nat.mul_le_mul hq.1 h2
      have a3 : ((addR qs).2 * q.2).natAbs ≤ 2 ^ ((n + 1) * M) := by
        rw [Int.natAbs_mul, e3]
        exact Nat.mul_le_mul h2 hq.2
      refine ⟨?_, a3⟩
      show ((addR qs).1 * q.2 + q.1 * (addR qs).2).natAbs ≤ _
      rw [Nat.succ_mul]
      omega
  exact fun h => key _ ps rfl h
end M23
namespace M23
open PySem PySem.Spec PyProof.Rows L2 Bx TL Dx
/-! ### sums of terms -/
abbrev Tr5 := Str × Int
def N5 : List Str := ["a", "a1", "ab", "b", "c.d"]
theorem n5_nodup : N5.Nodup := by decide +kernel
def In5 (ps : List Tr5) : Prop := ∀ x ∈ ps, x.1 ∈ N5
def coef (ps : List Tr5) (n : Str) : Int := ((ps.filter fun x => decide (x.1 = n)).map (·.2)).sum
def tms (ps : List Tr5) : List Tr5 := (N5.map fun n => (n, coef ps n)).filter fun x => decide (x.2 ≠ 0)
def lin (g : Str → Int) (ps : List Tr5) : Int := (ps.map fun x => g x.1 * x.2).sum
theorem coef_nil (n : Str) : coef [] n = 0 := rfl
theorem coef_cons (x : Tr5) (ps : List Tr5) (n : Str) : coef (x :: ps) n = (if x.1 = n then x.2 else 0) + coef ps n := by
  unfold coef
  rw [List.filter_cons]
  by_cases h : x.1 = n
  · rw [if_pos (decide_eq_true h), if_pos h]
    rfl
  · rw [if_neg (by simpa using h), if_neg h]
    omega
theorem coef_app (ps qs : List Tr5) (n : Str) : coef (ps ++ qs) n = coef ps n + coef qs n := by
  unfold coef
  rw [List.filter_append, List.map_append, List.sum_append]
theorem coef_one (x : Tr5) (n : Str) : coef [x] n = if x.1 = n then x.2 else 0 := by
  rw [coef_cons, coef_nil]
  omega
theorem coef_scale (c : Int) (ps : List Tr5) (n : Str) : coef (ps.map fun x => (x.1, c * x.2)) n = c * coef ps n := by
  induction ps with
  | nil => simp [coef_nil]
  | cons x ps ih =>
    rw [List.map_cons, coef_cons, coef_cons, ih, Int.mul_add]
    congr 1
    split
    · rfl
    · simp
theorem tms_congr {ps qs : List Tr5} (h : ∀ n ∈ N5, coef ps n = coef qs n) : tms ps = tms qs := by
  unfold tms
  congr 1
  exact List.map_congr_left fun n hn => by rw [h n hn]
theorem lin_nil (g : Str → Int) : lin g [] = 0 := rfl
theorem lin_cons (g : Str → Int) (x : Tr5) (ps : List Tr5) : lin g (x :: ps) = g x.1 * x.2 + lin g ps := by
  unfold lin
  rw [List.map_cons, List.sum_cons]
theorem lin_coef (ps : List Tr5) (n : Str) : coef ps n = lin (fun m => if m = n then 1 else 0) ps := by
  induction ps with
  | nil => rfl
  | cons x ps ih =>
    rw [coef_cons, lin_cons, ih]
    congr 1
    split
    · omega
    · omega
theorem lin_drop (g : Str → Int) : ∀ l : List Tr5, lin g (l.filter fun x => decide (x.2 ≠ 0)) = lin g l
  | [] => rfl
  | x :: l => by
    rw [List.filter_cons, lin_cons]
    by_cases h : x.2 = 0
    · rw [if_neg (by simpa using h), lin_drop g l, h]
      omega
    · rw [if_pos (by simpa using h), lin_cons, lin_drop g l]
theorem lin_tms (g : Str → Int) : ∀ {ps : List Tr5}, In5 ps → lin g (tms ps) = lin g ps := by
  intro ps h
  unfold tms
  rw [lin_drop]
  have add : ∀ (u v : Str → Int) (l : List Str), lin g (l.map fun n => (n, u n + v n)) = lin g (l.map fun n => (n, u n)) + lin g (l.map fun n => (n, v n)) := by
    intro u v l
    induction l with
    | nil => rfl
    | cons n l ih =>
      rw [List.map_cons, List.map_cons, List.map_cons, lin_cons, lin_cons, lin_cons, ih, Int.mul_add]
      dsimp only
      omega
  have zero : ∀ l : List Str, lin g (l.map fun n => (n, (0 : Int))) = 0 := by
    intro l
    induction l with
    | nil => rfl
    | cons n l ih =>
      rw [List.map_cons, lin_cons, ih]
      simp
  have one : ∀ (x : Tr5) (l : List Str), l.Nodup → lin g (l.map fun n => (n, if x.1 = n then x.2 else 0)) = if x.1 ∈ l then g x.1 * x.2 else 0 := by
    intro x l
    induction l with
    | nil => intro _; rfl
    | cons n l ih =>
      intro nd
      obtain ⟨h1, h2⟩ := List.nodup_cons.mp nd
      rw [List.map_cons, lin_cons, ih h2]
      dsimp only
      by_cases e : x.1 = n
      · rw [if_pos e, if_neg (by rw [e]; exact h1), if_pos (by rw [e]; exact List.mem_cons_self), e]
        omega
      · rw [if_neg e]
        have : (x.1 ∈ n :: l) ↔ x.1 ∈ l := by simp [e]
        simp only [this]
        omega
  induction ps with
  | nil => exact zero N5
  | cons x ps ih =>
    have hc : (N5.map fun n => (n, coef (x :: ps) n)) = N5.map fun n => (n, (if x.1 = n then x.2 else 0) + coef ps n) := List.map_congr_left fun n _ => by rw [coef_cons]
    rw [hc, add, ih fun y hy => h y (List.mem_cons_of_mem _ hy), one x N5 n5_nodup, if_pos (h x List.mem_cons_self), lin_cons]
theorem coef_tms {ps : List Tr5} (h : In5 ps) (n : Str) : coef (tms ps) n = coef ps n := by
  rw [lin_coef, lin_tms _ h, ← lin_coef]
theorem in5_tms (ps : List Tr5) : In5 (tms ps) := fun x hx => by
  obtain ⟨n, hn, rfl⟩ := List.mem_map.mp (List.mem_filter.mp hx).1
  exact hn
theorem in5_app {ps qs : List Tr5} (h : In5 ps) (k : In5 qs) : In5 (ps ++ qs) := fun x hx => (List.mem_append.mp hx).elim (h x) (k x)
theorem in5_scale {ps : List Tr5} (c : Int) (h : In5 ps) : In5 (ps.map fun x => (x.1, c * x.2)) := fun x hx => by
  obtain ⟨y, hy, rfl⟩ := List.mem_map.mp hx
  exact h y hy
theorem tms_len (ps : List Tr5) : (tms ps).length ≤ 5 := by
  unfold tms
  exact Nat.le_trans (List.length_filter_le _ _) (by rw [List.length_map]; decide)
theorem tms_mem {ps : List Tr5} {x : Tr5} (h : x ∈ tms ps) : x.2 = coef ps x.1 ∧ x.2 ≠ 0 := by
  obtain ⟨h1, h2⟩ := List.mem_filter.mp h
  obtain ⟨n, hn, rfl⟩ := List.mem_map.mp h1
  exact ⟨rfl, by simpa using h2⟩
/-- the sum of two -/
theorem tms_add {ps qs : List Tr5} (h : In5 ps) (k : In5 qs) : tms (tms ps ++ tms qs) = tms (ps ++ qs) := tms_congr fun n _ => by
  rw [coef_app, coef_app, coef_tms h, coef_tms k]
theorem tms_scale {ps : List Tr5} (c : Int) (h : In5 ps) : tms ((tms ps).map fun x => (x.1, c * x.2)) = tms (ps.map fun x => (x.1, c * x.2)) := tms_congr fun n _ => by
  rw [coef_scale, coef_scale, coef_tms h]
theorem lin_ren (g : Str → Int) (r : Str → Str) (ps : List Tr5) : lin g (ps.map fun x => (r x.1, x.2)) = lin (fun m => g (r m)) ps := by
  unfold lin
  rw [List.map_map]
  rfl
theorem tms_ren {ps : List Tr5} (r : Str → Str) (h : In5 ps) : tms ((tms ps).map fun x => (r x.1, x.2)) = tms (ps.map fun x => (r x.1, x.2)) := tms_congr fun n _ => by
  rw [lin_coef, lin_coef, lin_ren, lin_ren, lin_tms _ h]
theorem tms_nil : tms [] = [] := by decide +kernel
theorem tms_minus {ps : List Tr5} (h : In5 ps) : tms (ps ++ ps.map fun x => (x.1, -1 * x.2)) = [] := by
  rw [← tms_nil]
  refine tms_congr fun n _ => ?_
  rw [coef_app, coef_scale, coef_nil]
  omega
/-- names of the terms, in ascending order -/
theorem asc5 : Asc N5 := by
  have h : ∀ n ∈ N5, True := fun _ _ => trivial
  exact asc_of (by decide +kernel) n5_nodup
theorem tms_names (ps : List Tr5) : (tms ps).map (·.1) = N5.filter fun n => decide (coef ps n ≠ 0) := by
  unfold tms
  rw [List.filter_map, List.map_map]
  show List.map (fun n => n) _ = _
  rw [List.map_id']
  rfl
theorem asc_filter {l : List Str} (p : Str → Bool) (h : Asc l) : Asc (l.filter p) := List.Pairwise.sublist List.filter_sublist h
theorem tms_asc (ps : List Tr5) : Asc ((tms ps).map (·.1)) := by
  rw [tms_names]
  exact asc_filter _ asc5
/-- what the program's own sum comes to: over any ascending list that holds the names that occur -/
theorem tms_of {ps : List Tr5} {ys : List Str} (ha : Asc ys) (hm : ∀ n, n ∈ ys ↔ n ∈ ps.map (·.1)) (h : In5 ps) : (ys.map fun n => (n, coef ps n)).filter (fun x => decide (x.2 ≠ 0)) = tms ps := by
  have e : (ys.filter fun n => decide (coef ps n ≠ 0)) = N5.filter fun n => decide (coef ps n ≠ 0) := by
    refine asc_eq (asc_filter _ ha) (asc_filter _ asc5) fun n => ?_
    rw [List.mem_filter, List.mem_filter, hm]
    have key : coef ps n ≠ 0 → n ∈ ps.map (·.1) := fun z => by
      apply Classical.byContradiction
      intro hn
      apply z
      unfold coef
      have : (ps.filter fun x => decide (x.1 = n)) = [] := List.filter_eq_nil_iff.mpr fun x hx hd => hn (List.mem_map.mpr ⟨x, hx, of_decide_eq_true hd⟩)
      rw [this]
      rfl
    constructor
    · rintro ⟨a, b⟩
      obtain ⟨x, hx, rfl⟩ := List.mem_map.mp a
      exact ⟨h x hx, b⟩
    · rintro ⟨_, b⟩
      exact ⟨key (of_decide_eq_true b), b⟩
  unfold tms
  rw [List.filter_map, List.filter_map]
  exact congrArg _ e
/-- how great -/
theorem coef_size {B : Nat} : ∀ {ps : List Tr5}, (∀ x ∈ ps, x.2.natAbs ≤ B) → ∀ n, (coef ps n).natAbs ≤ ps.length * B
  | [], _, n => by simp [coef_nil]
  | x :: ps, h, n => by
    have h1 := coef_size (fun y hy => h y (List.mem_cons_of_mem _ hy)) n (ps := ps)
    have h2 := h x List.mem_cons_self
    rw [coef_cons, List.length_cons, Nat.succ_mul]
    split
    · omega
    · omega
end M23
namespace K23
local macro_rules | `(tactic| walk_at "rd") => `(tactic| repeat (first | refine ⟨rfl, ?_⟩ | refine ⟨_, rfl, ?_⟩ | refine ⟨_, _, rfl, rfl, ?_⟩ | refine ⟨⟨_, rfl⟩, ?_⟩))
open PySem PySem.Spec PyProof.Rows L2 Bx TL Dx Zx Ow M23
def topS (i : Nat) : Stmt := PySem.Challenge.pw_shadowlinks_k23_ratios_and_sums.main.body.getD i (.Pass ⟨0, 0, 0, 0⟩)
abbrev s_ratio : Stmt := topS 2
abbrev n_ratio : List Str := ["top", "bottom", "common"]
theorem sc_ratio : FnScope n_ratio ["top", "bottom"] (defScope s_ratio) := ⟨rfl, rfl, rfl, by decide +kernel, rfl, by decide +kernel, by decide +kernel⟩
abbrev s_total : Stmt := topS 3
abbrev n_total : List Str := ["parts", "top", "bottom", "own_top", "own_bottom"]
theorem sc_total : FnScope n_total ["parts"] (defScope s_total) := ⟨rfl, rfl, rfl, by decide +kernel, rfl, by decide +kernel, by decide +kernel⟩
abbrev s_times : Stmt := topS 4
abbrev n_times : List Str := ["first", "second"]
theorem sc_times : FnScope n_times ["first", "second"] (defScope s_times) := ⟨rfl, rfl, rfl, by decide +kernel, rfl, by decide +kernel, by decide +kernel⟩
abbrev s_quotient : Stmt := topS 5
abbrev n_quotient : List Str := ["first", "second"]
theorem sc_quotient : FnScope n_quotient ["first", "second"] (defScope s_quotient) := ⟨rfl, rfl, rfl, by decide +kernel, rfl, by decide +kernel, by decide +kernel⟩
abbrev s_is_below : Stmt := topS 6
abbrev n_is_below : List Str := ["first", "second"]
theorem sc_is_below : FnScope n_is_below ["first", "second"] (defScope s_is_below) := ⟨rfl, rfl, rfl, by decide +kernel, rfl, by decide +kernel, by decide +kernel⟩
abbrev s_ratio_at : Stmt := topS 7
abbrev n_ratio_at : List Str := ["terms", "assignment", "parts", "name", "coefficient"]
theorem sc_ratio_at : FnScope n_ratio_at ["terms", "assignment"] (defScope s_ratio_at) := ⟨rfl, rfl, rfl, by decide +kernel, rfl, by decide +kernel, by decide +kernel⟩
abbrev s_is_ascending : Stmt := topS 9
abbrev n_is_ascending : List Str := ["values"]
theorem sc_is_ascending : FnScope n_is_ascending ["values"] (defScope s_is_ascending) := ⟨rfl, rfl, rfl, by decide +kernel, rfl, by decide +kernel, by decide +kernel⟩
abbrev s_is_terms : Stmt := topS 11
abbrev n_is_terms : List Str := ["terms", "name", "_", "number"]
theorem sc_is_terms : FnScope n_is_terms ["terms"] (defScope s_is_terms) := ⟨rfl, rfl, rfl, by decide +kernel, rfl, by decide +kernel, by decide +kernel⟩
abbrev s_Sum___init__ : Stmt := inClass (topS 12) 0
abbrev n_Sum___init__ : List Str := ["self", "terms"]
theorem sc_Sum___init__ : FnScope n_Sum___init__ ["self", "terms"] (defScope s_Sum___init__) := ⟨rfl, rfl, rfl, by decide +kernel, rfl, by decide +kernel, by decide +kernel⟩
abbrev s_Sum___len__ : Stmt := inClass (topS 12) 1
abbrev n_Sum___len__ : List Str := ["self"]
theorem sc_Sum___len__ : FnScope n_Sum___len__ ["self"] (defScope s_Sum___len__) := ⟨rfl, rfl, rfl, by decide +kernel, rfl, by decide +kernel, by decide +kernel⟩
abbrev s_Sum___iter__ : Stmt := inClass (topS 12) 2
abbrev n_Sum___iter__ : List Str := ["self"]
theorem sc_Sum___iter__ : FnScope n_Sum___iter__ ["self"] (defScope s_Sum___iter__) := ⟨rfl, rfl, rfl, by decide +kernel, rfl, by decide +kernel, by decide +kernel⟩
abbrev s_Sum___contains__ : Stmt := inClass (topS 12) 3
abbrev n_Sum___contains__ : List Str := ["self", "x", "name", "_"]
theorem sc_Sum___contains__ : FnScope n_Sum___contains__ ["self", "x"] (defScope s_Sum___contains__) := ⟨rfl, rfl, rfl, by decide +kernel, rfl, by decide +kernel, by decide +kernel⟩
abbrev s_Sum___getitem__ : Stmt := inClass (topS 12) 4
abbrev n_Sum___getitem__ : List Str := ["self", "at"]
theorem sc_Sum___getitem__ : FnScope n_Sum___getitem__ ["self", "at"] (defScope s_Sum___getitem__) := ⟨rfl, rfl, rfl, by decide +kernel, rfl, by decide +kernel, by decide +kernel⟩
abbrev s_Sum___add__ : Stmt := inClass (topS 12) 5
abbrev n_Sum___add__ : List Str := ["self", "other"]
theorem sc_Sum___add__ : FnScope n_Sum___add__ ["self", "other"] (defScope s_Sum___add__) := ⟨rfl, rfl, rfl, by decide +kernel, rfl, by decide +kernel, by decide +kernel⟩
abbrev s_Sum___sub__ : Stmt := inClass (topS 12) 6
abbrev n_Sum___sub__ : List Str := ["self", "other", "name", "number"]
theorem sc_Sum___sub__ : FnScope n_Sum___sub__ ["self", "other"] (defScope s_Sum___sub__) := ⟨rfl, rfl, rfl, by decide +kernel, rfl, by decide +kernel, by decide +kernel⟩
abbrev s_Sum___neg__ : Stmt := inClass (topS 12) 7
abbrev n_Sum___neg__ : List Str := ["self", "name", "number"]
theorem sc_Sum___neg__ : FnScope n_Sum___neg__ ["self"] (defScope s_Sum___neg__) := ⟨rfl, rfl, rfl, by decide +kernel, rfl, by decide +kernel, by decide +kernel⟩
abbrev s_Sum___mul__ : Stmt := inClass (topS 12) 8
abbrev n_Sum___mul__ : List Str := ["self", "other", "name", "number"]
theorem sc_Sum___mul__ : FnScope n_Sum___mul__ ["self", "other"] (defScope s_Sum___mul__) := ⟨rfl, rfl, rfl, by decide +kernel, rfl, by decide +kernel, by decide +kernel⟩
abbrev s_Sum___rmul__ : Stmt := inClass (topS 12) 9
abbrev n_Sum___rmul__ : List Str := ["self", "other", "name", "number"]
theorem sc_Sum___rmul__ : FnScope n_Sum___rmul__ ["self", "other"] (defScope s_Sum___rmul__) := ⟨rfl, rfl, rfl, by decide +kernel, rfl, by decide +kernel, by decide +kernel⟩
abbrev s_Sum_at : Stmt := inClass (topS 12) 10
abbrev n_Sum_at : List Str := ["self", "assignment", "name", "number"]
theorem sc_Sum_at : FnScope n_Sum_at ["self", "assignment"] (defScope s_Sum_at) := ⟨rfl, rfl, rfl, by decide +kernel, rfl, by decide +kernel, by decide +kernel⟩
abbrev s_Sum_renamed : Stmt := inClass (topS 12) 11
abbrev n_Sum_renamed : List Str := ["self", "table", "name", "number"]
theorem sc_Sum_renamed : FnScope n_Sum_renamed ["self", "table"] (defScope s_Sum_renamed) := ⟨rfl, rfl, rfl, by decide +kernel, rfl, by decide +kernel, by decide +kernel⟩
abbrev s__added : Stmt := topS 13
abbrev n__added : List Str := ["terms", "found", "name", "number"]
theorem sc__added : FnScope n__added ["terms"] (defScope s__added) := ⟨rfl, rfl, rfl, by decide +kernel, rfl, by decide +kernel, by decide +kernel⟩
abbrev s__law_source : Stmt := topS 15
abbrev n__law_source : List Str := ["_law_script", "_law_k", "_law_number_here"]
theorem sc__law_source : FnScope n__law_source ["_law_script", "_law_k"] (defScope s__law_source) := ⟨rfl, rfl, rfl, by decide +kernel, rfl, by decide +kernel, by decide +kernel⟩
abbrev s__law_draw : Stmt := topS 16
abbrev n__law_draw : List Str := ["_law_source_here", "_law_limit", "_law_number_here", "_law_mixed"]
theorem sc__law_draw : FnScope n__law_draw ["_law_source_here", "_law_limit"] (defScope s__law_draw) := ⟨rfl, rfl, rfl, by decide +kernel, rfl, by decide +kernel, by decide +kernel⟩
abbrev s__law_size : Stmt := topS 17
abbrev n__law_size : List Str := ["_law_source_here", "_law_choice"]
theorem sc__law_size : FnScope n__law_size ["_law_source_here"] (defScope s__law_size) := ⟨rfl, rfl, rfl, by decide +kernel, rfl, by decide +kernel, by decide +kernel⟩
abbrev s__law_number : Stmt := topS 18
abbrev n__law_number : List Str := ["_law_source_here", "_law_size_here"]
theorem sc__law_number : FnScope n__law_number ["_law_source_here"] (defScope s__law_number) := ⟨rfl, rfl, rfl, by decide +kernel, rfl, by decide +kernel, by decide +kernel⟩
abbrev s__law_shared : Stmt := topS 19
abbrev n__law_shared : List Str := ["_law_first", "_law_second", "_law_a", "_law_b", "_law_k", "_law_rest"]
theorem sc__law_shared : FnScope n__law_shared ["_law_first", "_law_second"] (defScope s__law_shared) := ⟨rfl, rfl, rfl, by decide +kernel, rfl, by decide +kernel, by decide +kernel⟩
abbrev s__law_lowest : Stmt := topS 20
abbrev n__law_lowest : List Str := ["_law_top", "_law_bottom", "_law_shared_here"]
theorem sc__law_lowest : FnScope n__law_lowest ["_law_top", "_law_bottom"] (defScope s__law_lowest) := ⟨rfl, rfl, rfl, by decide +kernel, rfl, by decide +kernel, by decide +kernel⟩
abbrev s__law_ratio : Stmt := topS 21
abbrev n__law_ratio : List Str := ["_law_source_here", "_law_top"]
theorem sc__law_ratio : FnScope n__law_ratio ["_law_source_here"] (defScope s__law_ratio) := ⟨rfl, rfl, rfl, by decide +kernel, rfl, by decide +kernel, by decide +kernel⟩
abbrev s__law_is : Stmt := topS 22
abbrev n__law_is : List Str := ["_law_actual", "_law_expected", "_law_k"]
theorem sc__law_is : FnScope n__law_is ["_law_actual", "_law_expected"] (defScope s__law_is) := ⟨rfl, rfl, rfl, by decide +kernel, rfl, by decide +kernel, by decide +kernel⟩
abbrev s__law_added : Stmt := topS 23
abbrev n__law_added : List Str := ["_law_parts", "_law_top", "_law_bottom", "_law_part"]
theorem sc__law_added : FnScope n__law_added ["_law_parts"] (defScope s__law_added) := ⟨rfl, rfl, rfl, by decide +kernel, rfl, by decide +kernel, by decide +kernel⟩
abbrev s__law_total : Stmt := topS 24
abbrev n__law_total : List Str := ["_law_parts"]
theorem sc__law_total : FnScope n__law_total ["_law_parts"] (defScope s__law_total) := ⟨rfl, rfl, rfl, by decide +kernel, rfl, by decide +kernel, by decide +kernel⟩
abbrev s__law_ratios_right : Stmt := topS 25
abbrev n__law_ratios_right : List Str := ["_law_source_here", "_law_top", "_law_bottom", "_law_parts", "_law_first", "_law_second", "_law_below", "_law_k"]
theorem sc__law_ratios_right : FnScope n__law_ratios_right ["_law_source_here"] (defScope s__law_ratios_right) := ⟨rfl, rfl, rfl, by decide +kernel, rfl, by decide +kernel, by decide +kernel⟩
abbrev s__law_pairs : Stmt := topS 26
abbrev n__law_pairs : List Str := ["_law_source_here", "_law_pairs_here", "_law_k", "_law_name"]
theorem sc__law_pairs : FnScope n__law_pairs ["_law_source_here"] (defScope s__law_pairs) := ⟨rfl, rfl, rfl, by decide +kernel, rfl, by decide +kernel, by decide +kernel⟩
abbrev s__law_terms : Stmt := topS 27
abbrev n__law_terms : List Str := ["_law_pairs_here", "_law_terms_here", "_law_name", "_law_coefficient", "_law_pair"]
theorem sc__law_terms : FnScope n__law_terms ["_law_pairs_here"] (defScope s__law_terms) := ⟨rfl, rfl, rfl, by decide +kernel, rfl, by decide +kernel, by decide +kernel⟩
abbrev s__law_same : Stmt := topS 28
abbrev n__law_same : List Str := ["_law_actual", "_law_pairs_here", "_law_terms_here", "_law_name", "_law_coefficient", "_law_term", "_law_pair"]
theorem sc__law_same : FnScope n__law_same ["_law_actual", "_law_pairs_here"] (defScope s__law_same) := ⟨rfl, rfl, rfl, by decide +kernel, rfl, by decide +kernel, by decide +kernel⟩
abbrev s__law_scaled : Stmt := topS 29
abbrev n__law_scaled : List Str := ["_law_pairs_here", "_law_factor", "_law_pair"]
theorem sc__law_scaled : FnScope n__law_scaled ["_law_pairs_here", "_law_factor"] (defScope s__law_scaled) := ⟨rfl, rfl, rfl, by decide +kernel, rfl, by decide +kernel, by decide +kernel⟩
abbrev s__law_signs_right : Stmt := topS 30
abbrev n__law_signs_right : List Str := ["_law_left", "_law_right", "_law_factor", "_law_first", "_law_second"]
theorem sc__law_signs_right : FnScope n__law_signs_right ["_law_left", "_law_right", "_law_factor"] (defScope s__law_signs_right) := ⟨rfl, rfl, rfl, by decide +kernel, rfl, by decide +kernel, by decide +kernel⟩
abbrev s__law_values_right : Stmt := topS 31
abbrev n__law_values_right : List Str := ["_law_source_here", "_law_pairs_here", "_law_numbers", "_law_ratios", "_law_name", "_law_before", "_law_terms_here", "_law_expected", "_law_term"]
theorem sc__law_values_right : FnScope n__law_values_right ["_law_source_here", "_law_pairs_here"] (defScope s__law_values_right) := ⟨rfl, rfl, rfl, by decide +kernel, rfl, by decide +kernel, by decide +kernel⟩
abbrev s__law_names_right : Stmt := topS 32
abbrev n__law_names_right : List Str := ["_law_source_here", "_law_pairs_here", "_law_table", "_law_name", "_law_renamed", "_law_first", "_law_coefficient"]
theorem sc__law_names_right : FnScope n__law_names_right ["_law_source_here", "_law_pairs_here"] (defScope s__law_names_right) := ⟨rfl, rfl, rfl, by decide +kernel, rfl, by decide +kernel, by decide +kernel⟩
abbrev s__law_form_right : Stmt := topS 33
abbrev n__law_form_right : List Str := ["_law_pairs_here", "_law_names", "_law_right", "_law_k", "_law_told", "_law_pair"]
theorem sc__law_form_right : FnScope n__law_form_right ["_law_pairs_here"] (defScope s__law_form_right) := ⟨rfl, rfl, rfl, by decide +kernel, rfl, by decide +kernel, by decide +kernel⟩
abbrev s_law : Stmt := topS 34
abbrev n_law : List Str := ["_law_script", "_law_source_here", "_law_left", "_law_right", "_law_passed", "_law_first"]
theorem sc_law : FnScope n_law ["_law_script"] (defScope s_law) := ⟨rfl, rfl, rfl, by decide +kernel, rfl, by decide +kernel, by decide +kernel⟩
section
variable {P : Program} {w : World} {K : PySem.W.Frag} {mg : Str → Option Value} {base : Heap}
theorem hu_of {k : Nat} {A : Around} (r : Room k A) : A.units + 1 < cLine := by
  have := r.un
  omega
/-! ### terms as data -/
def tmD (x : Tr5) : PyData := .tuple [.str x.1, .int x.2]
theorem tm_dp {H : Hp} {a : Addr} {x : Tr5} (h : SqT K H a [.str x.1, .int x.2]) : Dp K H (.ref a) (tmD x) := .tup h (.cons (.str _) (da_one (.int _)))
theorem tm_inv {H : Hp} {v : V} {x : Tr5} (h : Dp K H v (tmD x)) : ∃ a, v = .ref a ∧ SqT K H a [.str x.1, .int x.2] := by
  obtain ⟨a, xs, rfl, s, t⟩ := dp_tup h
  cases t with
  | cons h1 t =>
    cases t with
    | cons h2 t =>
      cases t
      rw [dp_str h1, dp_int h2] at s
      exact ⟨a, rfl, s⟩
theorem tm_at {H : Hp} {xs : List V} {ps : List Tr5} (hd : DpAll K H xs (ps.map tmD)) {i : Nat} {v : V} (hx : xs[i]? = some v) : ∃ x, ps[i]? = some x ∧ ∃ a, v = .ref a ∧ SqT K H a [.str x.1, .int x.2] := by
  obtain ⟨d, hd2, hxd⟩ := da_at hd hx
  rw [List.getElem?_map] at hd2
  cases e : ps[i]? with
  | none =>
    rw [e] at hd2
    cases hd2
  | some p =>
    rw [e] at hd2
    cases hd2
    exact ⟨p, rfl, tm_inv hxd⟩
/-! ### an instance changes, data do not -/
theorem sqt_ins {H : Hp} {p C dx a : Addr} {fs : List (Str × V)} {o : HO} {xs : List V} (hp : H p = some (.ins C dx fs)) (h : SqT K H a xs) : SqT K (upd H p o) a xs := by
  have ne : ∀ u, H a = some u → (∀ fs, u ≠ .ins C dx fs) → a ≠ p := fun u e n z => by
    rw [z, hp] at e
    exact n _ (Option.some.inj e).symm
  rcases h with (h | ⟨u, h⟩) | h
  · exact .inl (.inl (by rw [upd_ne (ne _ h fun _ z => by cases z)]; exact h))
  · exact .inl (.inr ⟨u, by rw [upd_ne (ne _ h fun _ z => by cases z)]; exact h⟩)
  · exact .inr h
theorem sql_ins {H : Hp} {p C dx a : Addr} {fs : List (Str × V)} {o : HO} {xs : List V} (hp : H p = some (.ins C dx fs)) (h : SqL K H a xs) : SqL K (upd H p o) a xs := by
  have ne : ∀ u, H a = some u → (∀ fs, u ≠ .ins C dx fs) → a ≠ p := fun u e n z => by
    rw [z, hp] at e
    exact n _ (Option.some.inj e).symm
  rcases h with (h | ⟨u, h⟩) | h
  · exact .inl (.inl (by rw [upd_ne (ne _ h fun _ z => by cases z)]; exact h))
  · exact .inl (.inr ⟨u, by rw [upd_ne (ne _ h fun _ z => by cases z)]; exact h⟩)
  · exact .inr h
theorem plt_ins {H : Hp} {p C dx a : Addr} {fs : List (Str × V)} {o : HO} {xs : List V} (hp : H p = some (.ins C dx fs)) (h : PlT H a xs) : PlT (upd H p o) a xs := by
  obtain ⟨u, h, n⟩ := h
  refine ⟨u, ?_, n⟩
  rw [upd_ne fun z => by rw [z, hp] at h; cases h]
  exact h
mutual
theorem dp_ins {H : Hp} {p C dx : Addr} {fs : List (Str × V)} {o : HO} (hp : H p = some (.ins C dx fs)) : ∀ {v : V} {d : PyData}, Dp K H v d → Dp K (upd H p o) v d
  | _, _, .non => .non
  | _, _, .bl b => .bl b
  | _, _, .int i => .int i
  | _, _, .str x => .str x
  | _, _, .lst h a => .lst (sql_ins hp h) (da_ins hp a)
  | _, _, .tup h a => .tup (sqt_ins hp h) (da_ins hp a)
theorem da_ins {H : Hp} {p C dx : Addr} {fs : List (Str × V)} {o : HO} (hp : H p = some (.ins C dx fs)) : ∀ {vs : List V} {ds : List PyData}, DpAll K H vs ds → DpAll K (upd H p o) vs ds
  | _, _, .nil => .nil
  | _, _, .cons h a => .cons (dp_ins hp h) (da_ins hp a)
end
/-! ### the sum's dict -/
structure DInv (ps : List Tr5) (kvs : List (Key × V)) : Prop where
  v : ∀ n, valV kvs (Sum.inr n) = if n ∈ ps.map (·.1) then some (V.int (coef ps n)) else none
  k : ∃ ks : List Str, kvs.map (·.1) = ks.map Sum.inr ∧ ks.Nodup ∧ ∀ n, n ∈ ks ↔ n ∈ ps.map (·.1)
  l : kvs.length ≤ ps.length
theorem dinv_nil : DInv [] [] := ⟨fun n => rfl, ⟨[], rfl, List.nodup_nil, fun n => Iff.rfl⟩, Nat.le_refl _⟩
theorem keys_put (kvs : List (Key × V)) (k : Key) (v : V) : (putK kvs k v).map (·.1) = if (valV kvs k).isSome = true then kvs.map (·.1) else kvs.map (·.1) ++ [k] := by
  rw [← valV_any]
  unfold putK
  split
  · rw [List.map_map]
    refine List.map_congr_left fun p _ => ?_
    show (if p.1 = k then (p.1, v) else p).1 = p.1
    split <;> rfl
  · rw [List.map_append]
    rfl
theorem dinv_put {ps : List Tr5} {kvs : List (Key × V)} (h : DInv ps kvs) (x : Tr5) : DInv (ps ++ [x]) (putK kvs (Sum.inr x.1) (.int (coef ps x.1 + x.2))) := by
  obtain ⟨hv, ⟨ks, hk, hn, hm⟩, hl⟩ := h
  refine ⟨fun n => ?_, ?_, ?_⟩
  · rw [valV_put, hv, coef_app, coef_one]
    by_cases e : n = x.1
    · subst e
      rw [if_pos rfl, if_pos rfl, if_pos (by rw [List.map_append]; exact List.mem_append_right _ List.mem_cons_self)]
    · have e1 : ¬ (Sum.inr n : Key) = Sum.inr x.1 := fun z => e (Sum.inr.inj z)
      have e2 : (n ∈ (ps ++ [x]).map (·.1)) ↔ n ∈ ps.map (·.1) := by simp [e]
      have e3 : ¬ x.1 = n := fun z => e z.symm
      rw [if_neg e1, if_neg e3, Int.add_zero]
      simp only [e2]
  · rw [keys_put, hv]
    by_cases e : x.1 ∈ ps.map (·.1)
    · rw [if_pos e]
      show ∃ ks : List Str, (if true = true then _ else _) = _ ∧ _
      rw [if_pos rfl]
      refine ⟨ks, hk, hn, fun n => ?_⟩
      rw [hm]
      constructor
      · intro z
        rw [List.map_append]
        exact List.mem_append_left _ z
      · intro z
        rw [List.map_append] at z
        rcases List.mem_append.mp z with z | z
        · exact z
        · rw [List.mem_singleton.mp z]
          exact e
    · rw [if_neg e]
      show ∃ ks : List Str, (if false = true then _ else _) = _ ∧ _
      rw [if_neg (by decide)]
      refine ⟨ks ++ [x.1], by rw [hk, List.map_append]; rfl, ?_, fun n => ?_⟩
      · refine List.nodup_append.mpr ⟨hn, by simp, fun a ha b hb z => ?_⟩
        rw [List.mem_singleton.mp hb] at z
        exact e ((hm _).mp (z ▸ ha))
      · rw [List.map_append, List.mem_append, List.mem_append, hm]
        exact Iff.rfl
  · rw [List.length_append]
    exact Nat.le_trans (length_putK _ _ _) (Nat.succ_le_succ hl)
theorem coef_none {ps : List Tr5} {n : Str} (hn : n ∉ ps.map (·.1)) : coef ps n = 0 := by
  unfold coef
  have : (ps.filter fun x => decide (x.1 = n)) = [] := List.filter_eq_nil_iff.mpr fun x hx hd => hn (List.mem_map.mpr ⟨x, hx, of_decide_eq_true hd⟩)
  rw [this]
  rfl
theorem dinv_get {ps : List Tr5} {kvs : List (Key × V)} (h : DInv ps kvs) (n : Str) : (valV kvs (Sum.inr n)).getD (.int 0) = .int (coef ps n) := by
  rw [h.v]
  split
  · rfl
  · rename_i e
    rw [coef_none e]
    rfl
theorem asc_perm {ys ks : List Str} (p : ys.Perm ks) (s : sortedS ys = true) (nd : ks.Nodup) : Asc ys := asc_of s (p.nodup_iff.mpr nd)
/-- a walk over a list or a tuple, told once; what changes does not touch it -/
theorem seq_case2 {H : Hp} {a : Addr} {xs : List V} {R : It → Hp → Prop} (h : SqL K H a xs ∨ SqT K H a xs) (k : ∀ (J : It) (G : Hp → Prop), Walk J xs.length G (YAt xs) → (∀ H', (SqL K H a xs → SqL K H' a xs) → (SqT K H a xs → SqT K H' a xs) → G H') → R J H) : SeqCase K a H R := by
  rcases h with h | h
  · exact .inl ⟨⟨_, h⟩, k _ _ walk_list fun H' s _ => s h⟩
  · exact .inr ⟨⟨_, h⟩, k _ _ walk_tup fun H' _ s => s h⟩
theorem sql_dk {H : Hp} {p a : Addr} {kvs : List (Key × V)} {o : HO} {xs : List V} (hp : H p = some (.dK kvs)) (h : SqL K H a xs) : SqL K (upd H p o) a xs := by
  rcases h with (h | ⟨u, h⟩) | h
  · exact .inl (.inl (by rw [upd_ne fun z => by rw [z, hp] at h; cases h]; exact h))
  · exact .inl (.inr ⟨u, by rw [upd_ne fun z => by rw [z, hp] at h; cases h]; exact h⟩)
  · exact .inr h
theorem sqt_dk {H : Hp} {p a : Addr} {kvs : List (Key × V)} {o : HO} {xs : List V} (hp : H p = some (.dK kvs)) (h : SqT K H a xs) : SqT K (upd H p o) a xs := by
  rcases h with (h | ⟨u, h⟩) | h
  · exact .inl (.inl (by rw [upd_ne fun z => by rw [z, hp] at h; cases h]; exact h))
  · exact .inl (.inr ⟨u, by rw [upd_ne fun z => by rw [z, hp] at h; cases h]; exact h⟩)
  · exact .inr h
/-! ### _added -/
def TmAt (K : PySem.W.Frag) (H : Hp) (v : V) (ps : List Tr5) : Prop := Dp K H v (.list (ps.map tmD)) ∨ Dp K H v (.tuple (ps.map tmD))
theorem TmAt.same {H H' : Hp} {v : V} {ps : List Tr5} (s : Same H H') (h : TmAt K H v ps) : TmAt K H' v ps := h.imp (dp_same s) (dp_same s)
theorem TmAt.ins {H : Hp} {p C dx : Addr} {fs : List (Str × V)} {o : HO} {v : V} {ps : List Tr5} (hp : H p = some (.ins C dx fs)) (h : TmAt K H v ps) : TmAt K (upd H p o) v ps := h.imp (dp_ins hp) (dp_ins hp)
@[irreducible] def spAdded (K : PySem.W.Frag) : Sp := fun vs H Q _ => ∃ (v : V) (ps : List Tr5), vs = [v] ∧ TmAt K H v ps ∧ In5 ps ∧ ps.length ≤ 60 ∧ ∀ t zs H', Same H H' → H t = none → PlT H' t zs → DpAll K H' zs ((tms ps).map tmD) → Q (.ref t) H'
theorem ok_added {f : Addr} {fd : FuncData} (F : Fun K "_added" "_added" s__added f fd) (m_tuple : mg "tuple" = none) (m_sorted : mg "sorted" = none) : FnOk P w K mg base CX0 1 f fd ["terms"] (spAdded K) := by
  refine F.ok sc__added (fun vs H Q E h => ?_) (fun cdv A outer s H vs Q E hr h => ?_)
  · unfold spAdded at h
    obtain ⟨v, ps, rfl, _⟩ := h
    rfl
  · unfold spAdded at h
    obtain ⟨v, ps, rfl, hv, h5, hl, q⟩ := h
    obtain ⟨a, xs, rfl, hd, hs⟩ := dp_seq hv
    have hxl : xs.length = ps.length := by rw [da_len hd, List.length_map]
    have hu := hu_of hr
    refine ⟨_, (pss_cons (ps_set (i := 1) sc__added.nd rfl (Or.inr rfl) pe_dnewK)
    (pss_cons (ps_for PassesOwn.never rfl (pi_seq (pv 0)) (pg_tup rfl (pgs_cons (pg_name (i := 2) sc__added.nd rfl (Or.inl rfl)) (pgs_cons (pg_name (i := 3) sc__added.nd rfl (Or.inl rfl)) pgs_nil)))
      (pss_one (ps_dput hu (pv 1) (pv 2) (pe_op op_add (pe_dget2 hu (pv 1) (pv 2) pe_int ⟨rfl, rfl, rfl, rfl⟩) (pv 3)) rfl)))
    (pss_one (ps_ret (pe_callTy (T := "tuple") call_tupleF (by rfl) m_tuple (by decide +kernel) (pa_cons (pe_lc (own := [("name", 2)]) rfl sc__added.nd (pi_list (pe_callB (id := "sorted") (call_sortedD rfl) (by rfl) m_sorted (by decide +kernel) (pa_cons (pv 1) pa_nil))) (blkOk_by (N := n__added) (sc := defScope s__added) (by decide +kernel)) (fun _ _ _ _ _ => pg_name (i := 2) sc__added.nd rfl (Or.inl rfl)) (fun _ _ _ _ _ => pts_one (pt_cmpR op_ne (pe_dget hu (pv 1) (pv 2) (fun _ _ => rfl)) pe_int (nomark _))) (fun _ _ _ _ _ => (pe_tup (pa_cons (pv 2) (pa_cons (pe_dget hu (pv 1) (pv 2) (fun _ _ => rfl)) pa_nil))))) pa_nil)))))), ?_⟩
    walk_at "rd"
    intro f0 nf
    have s0 := same_new nf (o := .dK [])
    walk_at "rd"
    refine seq_case2 (hs.imp (Same.seq s0) (Bx.Same.tup s0)) fun J G wk hG => ?_
    refine for_it wk (fun i σ H' => ∃ o2 o3 kvs, σ = [some (.ref a), some (.ref f0), o2, o3] ∧ H' = upd H f0 (.dK kvs) ∧ DInv (ps.take i) kvs) ⟨none, none, [], rfl, rfl, dinv_nil⟩ (fun i σ H' _ ⟨_, _, kvs, _, e, _⟩ => ?_) ?_ ?_
    · subst e
      refine hG _ (fun z => ?_) (fun z => ?_)
      · have := sql_dk (o := .dK kvs) upd_same z
        rwa [upd_upd] at this
      · have := sqt_dk (o := .dK kvs) upd_same z
        rwa [upd_upd] at this
    · rintro i x σ H1 H2 hi ⟨o2, o3, kvs, rfl, rfl, hk⟩ ⟨rfl, hx⟩
      obtain ⟨y, hy, pa, rfl, hpa⟩ := tm_at hd hx
      have hpa2 : SqT K (upd H f0 (.dK kvs)) pa [.str y.1, .int y.2] := Bx.Same.tup (same_new nf) hpa
      refine ⟨_, _, rfl, hpa2, rfl, _, _, rfl, _, _, rfl, rfl, ?_⟩
      walk_at "rd"
      refine ⟨.inl ⟨_, .inl upd_same⟩, ?_⟩
      walk_at "rd"
      refine ⟨_, DGet.k (k := Sum.inr y.1) upd_same, ?_⟩
      rw [dinv_get hk]
      walk_at "rd"
      have hkl : kvs.length < 100000 := by
        have := hk.l
        rw [List.length_take] at this
        omega
      refine ⟨_, _, rfl, DPut.k (k := Sum.inr y.1) upd_same (szl hkl), ?_⟩
      exact ⟨_, _, _, rfl, upd_upd, by rw [List.take_add_one, hy]; exact dinv_put hk y⟩
    · rintro σ H1 ⟨o2, o3, kvs, rfl, rfl, hk⟩
      rw [hxl, List.take_length] at hk
      obtain ⟨ks, hks, hkn, hkm⟩ := hk.k
      have hksl : ks.length = kvs.length := by
        have := congrArg List.length hks
        rw [List.length_map, List.length_map] at this
        exact this.symm
      have hkl := hk.l
      walk_at "rd"
      refine ⟨f0, kvs, ks, rfl, .inl upd_same, hks, by omega, fun ys p1 pm1 st1 np1 => ?_⟩
      have asc1 : Asc ys := asc_perm pm1 st1 hkn
      have hym : ∀ n, n ∈ ys ↔ n ∈ ps.map (·.1) := fun n => pm1.mem_iff.trans (hkm n)
      have hyl : ys.length ≤ 60 := by
        have := pm1.length_eq
        omega
      walk_at "rd"
      refine ⟨⟨_, sq upd_same⟩, fun M1 nM1 => ?_⟩
      have s1 := same_new np1 (o := .lst (ys.map V.str))
      have hf1 : (upd (upd H f0 (.dK kvs)) p1 (.lst (ys.map V.str))) f0 = some (.dK kvs) := s1 _ _ upd_same
      have s01 : Same H (upd (upd H f0 (.dK kvs)) p1 (.lst (ys.map V.str))) := Same.trans (same_new nf) s1
      have hp1 : (upd (upd H f0 (.dK kvs)) p1 (.lst (ys.map V.str))) p1 = some (.lst (ys.map V.str)) := upd_same
      generalize upd (upd H f0 (.dK kvs)) p1 (.lst (ys.map V.str)) = H1 at *
      refine lc_it walk_list (fun i H' => ∃ us, H' M1 = some (.lst us) ∧ DpAll K (mn H' [M1]) us ((((ys.take i).map fun n => ((n, coef ps n) : Tr5)).filter fun x : Tr5 => decide (x.2 ≠ 0)).map tmD) ∧ us.length ≤ i ∧ Same H1 H') ⟨[], upd_same, .nil, Nat.le_refl _, same_new nM1⟩ (fun i H' _ ⟨_, _, _, _, s⟩ => sq (s _ _ hp1)) ?_ ?_
      · rintro i x H2' H2 hi ⟨us, hM, dM, hul, s2⟩ ⟨rfl, hx⟩
        obtain ⟨n, hn, rfl⟩ := at_map hx
        have hn5 : n ∈ ps.map (·.1) := (hym n).mp (List.mem_of_getElem? hn)
        have hvn : valV kvs (Sum.inr n) = some (.int (coef ps n)) := by rw [hk.v, if_pos hn5]
        have hil := (List.getElem?_eq_some_iff.mp hn).1
        refine ⟨rfl, ?_⟩
        walk_at "rd"
        refine ⟨f0, _, rfl, hvn ▸ DGet.k (k := Sum.inr n) (s2 _ _ hf1), ?_⟩
        walk_at "rd"
        have tk : (ys.take (i + 1)).map (fun n => (n, coef ps n)) = (ys.take i).map (fun n => (n, coef ps n)) ++ [(n, coef ps n)] := by
          rw [List.take_add_one, hn, List.map_append]
          rfl
        refine ite2 (fun h0 => ?_) (fun h0 => ?_)
        · have hc := int_nt h0
          walk_at "rd"
          refine ⟨f0, _, rfl, hvn ▸ DGet.k (k := Sum.inr n) (s2 _ _ hf1), ?_⟩
          walk_at "rd"
          refine ⟨sz (by show 2 ≤ 100000; decide), fun t nt => ?_⟩
          have st := same_new nt (o := .tup [V.str n, V.int (coef ps n)])
          refine ⟨_, st _ _ hM, szl (by omega), us ++ [.ref t], upd_same, ?_, by rw [List.length_append]; exact Nat.succ_le_succ hul, same_at nM1 (Same.trans s2 st)⟩
          rw [mn_upd (S := [M1]) List.mem_cons_self, tk, List.filter_append, List.map_append]
          have ef : List.filter (fun x : Tr5 => decide (x.2 ≠ 0)) [(n, coef ps n)] = [(n, coef ps n)] := List.filter_eq_self.mpr fun y hy => by
            rw [List.mem_singleton.mp hy]
            exact decide_eq_true hc
          rw [ef]
          refine da_app (dpAll_same (mn_all st) dM) (da_one (tm_dp (x := (n, coef ps n)) (sqt (mn_at ?_ upd_same))))
          exact fun z => ne_of_none hM nt (List.mem_singleton.mp z).symm
        · have hc := int_nf h0
          refine ⟨us, hM, ?_, by omega, s2⟩
          have ef : List.filter (fun x : Tr5 => decide (x.2 ≠ 0)) [(n, coef ps n)] = [] := List.filter_eq_nil_iff.mpr fun y hy => by
            rw [List.mem_singleton.mp hy]
            exact fun z => of_decide_eq_true z hc
          rw [tk, List.filter_append, ef, List.append_nil]
          exact dM
      · rintro H3 ⟨us, hM3, dM3, hul, s3⟩
        rw [List.length_map, List.take_length, tms_of asc1 hym h5] at dM3
        walk_at "rd"
        refine ⟨_, _, rfl, sq hM3, fun l o nl ho => ?_⟩
        have s4 := same_new nl (o := .frz o (.tup us))
        exact q l us _ (Same.trans (Same.trans s01 s3) s4) ((Same.trans s01 s3).free nl) ⟨o, upd_same, ho⟩ (dpAll_same s4 (dpAll_same mn_same dM3))
end
end K23
namespace K23
local macro_rules | `(tactic| walk_at "rd") => `(tactic| repeat (first | refine ⟨rfl, ?_⟩ | refine ⟨_, rfl, ?_⟩ | refine ⟨_, _, rfl, rfl, ?_⟩ | refine ⟨⟨_, rfl⟩, ?_⟩))
open PySem PySem.Spec PyProof.Rows L2 Bx TL Dx Zx Ow M23
section
variable {P : Program} {w : World} {K : PySem.W.Frag} {mg : Str → Option Value} {base : Heap}
/-! ### comprehensions over terms -/
theorem lc_vals {H : Hp} {T : Addr} {zs : List V} {l : List Tr5} (hz : SqT K H T zs) (hd : DpAll K H zs (l.map tmD)) (hl : l.length ≤ 60) {te : TE} {σ : L2.St} {vs : List Nat} {M : Addr} {Qd : Hp → Prop} {i j : Nat} (f : Tr5 → V) (nM : H M = none)
    (hw : ∀ x y : V, wipe (((wipe σ vs).set i (some x)).set j (some y)) vs = wipe σ vs)
    (hte : ∀ (x : Tr5) (H' : Hp) (Z : VK), x ∈ l → Same H H' → Z (f x) H' → te (((wipe σ vs).set i (some (.str x.1))).set j (some (.int x.2))) H' Z)
    (done : ∀ H', Same H H' → H' M = some (.lst (l.map f)) → Qd H') :
    ∃ W : Nat → Nat → Hp → Prop, (∃ m, W 0 m (upd H M (.lst []))) ∧ ∀ n m H, W n m H →
      ((Itt K T).stop n H ∧ Qd H) ∨ ((Itt K T).go n H ∧ ∃ Nx : Hp → Prop, (∀ H', Nx H' → ∃ m', m' < m ∧ W (n + 1) m' H') ∧ ∀ x H', (Itt K T).yld n H x H' → gTup K 2 (gCons (gName i) (gCons (gName j) gNil)) x (wipe σ vs) H' fun σ2 H2 => wipe σ2 vs = wipe σ vs ∧ tYes σ2 H2 fun b H3 =>
        if b = true then te σ2 H3 fun y H4 => ∃ acc, H4 M = some (.lst acc) ∧ acc.length < sizeLine ∧ Nx (upd H4 M (.lst (acc ++ [y]))) else Nx H3) := by
  have hzl : zs.length = l.length := by rw [da_len hd, List.length_map]
  refine lc_it walk_tup (fun n H' => H' = upd H M (.lst ((l.take n).map f))) rfl (fun n H' _ e => e ▸ Bx.Same.tup (same_new nM) hz) ?_ ?_
  · rintro n x H1 H2 hi rfl ⟨rfl, hx⟩
    obtain ⟨y, hy, pa, rfl, hpa⟩ := tm_at hd hx
    refine ⟨_, _, rfl, Bx.Same.tup (same_new nM) hpa, rfl, _, _, rfl, _, _, rfl, rfl, hw _ _, ?_⟩
    unfold tYes
    dsimp only
    rw [if_pos rfl]
    refine hte y _ _ (List.mem_of_getElem? hy) (same_new nM) ⟨_, upd_same, ?_, ?_⟩
    · rw [List.length_map, List.length_take]
      exact szl (by omega)
    · rw [upd_upd, List.take_add_one, hy, List.map_append]
      rfl
  · rintro H3 rfl
    rw [hzl, List.take_length]
    exact done _ (same_new nM) upd_same
theorem lc_terms {H : Hp} {T : Addr} {zs : List V} {l : List Tr5} (hz : SqT K H T zs) (hd : DpAll K H zs (l.map tmD)) (hl : l.length ≤ 60) {te : TE} {σ : L2.St} {vs : List Nat} {M : Addr} {Qd : Hp → Prop} {i j : Nat} (h : Tr5 → Tr5) (nM : H M = none)
    (hw : ∀ x y : V, wipe (((wipe σ vs).set i (some x)).set j (some y)) vs = wipe σ vs)
    (hte : ∀ (x : Tr5) (H' : Hp) (Z : VK), x ∈ l → Same H H' → (∀ t, H' t = none → Z (.ref t) (upd H' t (.tup [.str (h x).1, .int (h x).2]))) → te (((wipe σ vs).set i (some (.str x.1))).set j (some (.int x.2))) H' Z)
    (done : ∀ us H', Same H H' → H' M = some (.lst us) → DpAll K H' us ((l.map h).map tmD) → Qd H') :
    ∃ W : Nat → Nat → Hp → Prop, (∃ m, W 0 m (upd H M (.lst []))) ∧ ∀ n m H, W n m H →
      ((Itt K T).stop n H ∧ Qd H) ∨ ((Itt K T).go n H ∧ ∃ Nx : Hp → Prop, (∀ H', Nx H' → ∃ m', m' < m ∧ W (n + 1) m' H') ∧ ∀ x H', (Itt K T).yld n H x H' → gTup K 2 (gCons (gName i) (gCons (gName j) gNil)) x (wipe σ vs) H' fun σ2 H2 => wipe σ2 vs = wipe σ vs ∧ tYes σ2 H2 fun b H3 =>
        if b = true then te σ2 H3 fun y H4 => ∃ acc, H4 M = some (.lst acc) ∧ acc.length < sizeLine ∧ Nx (upd H4 M (.lst (acc ++ [y]))) else Nx H3) := by
  have hzl : zs.length = l.length := by rw [da_len hd, List.length_map]
  refine lc_it walk_tup (fun n H' => ∃ us, H' M = some (.lst us) ∧ DpAll K (mn H' [M]) us (((l.take n).map h).map tmD) ∧ Same H H') ⟨[], upd_same, .nil, same_new nM⟩ (fun n H' _ ⟨_, _, _, s⟩ => Bx.Same.tup s hz) ?_ ?_
  · rintro n x H1 H2 hi ⟨us, hM, dM, s2⟩ ⟨rfl, hx⟩
    obtain ⟨y, hy, pa, rfl, hpa⟩ := tm_at hd hx
    have hnl := (List.getElem?_eq_some_iff.mp hy).1
    have hul : us.length < 100000 := by
      rw [da_len dM, List.length_map, List.length_map, List.length_take]
      omega
    refine ⟨_, _, rfl, Bx.Same.tup s2 hpa, rfl, _, _, rfl, _, _, rfl, rfl, hw _ _, ?_⟩
    unfold tYes
    dsimp only
    rw [if_pos rfl]
    refine hte y _ _ (List.mem_of_getElem? hy) s2 fun t nt => ?_
    have st := same_new nt (o := .tup [V.str (h y).1, V.int (h y).2])
    refine ⟨_, st _ _ hM, szl hul, us ++ [.ref t], upd_same, ?_, same_at nM (Same.trans s2 st)⟩
    rw [mn_upd (S := [M]) List.mem_cons_self, List.take_add_one, hy, List.map_append, List.map_append]
    refine da_app (dpAll_same (mn_all st) dM) (da_one (tm_dp (x := h y) (sqt (mn_at ?_ upd_same))))
    exact fun z => ne_of_none hM nt (List.mem_singleton.mp z).symm
  · rintro H3 ⟨us, hM, dM, s3⟩
    rw [hzl, List.take_length] at dM
    exact done us H3 s3 hM (dpAll_same mn_same dM)
/-! ### the class -/
abbrev fS (t : Addr) : List (Str × V) := [("terms", .ref t)]
theorem fS_at (t : Addr) : (fS t).lookup ("terms" : Str) = some (.ref t) := by
  have e : (("terms" : Str) == ("terms" : Str)) = true := beq_self_eq_true _
  simp only [fS, List.lookup, e]
def SumAt (K : PySem.W.Frag) (C : Addr) (H : Hp) (p : Addr) (ps : List Tr5) : Prop := ∃ dx t zs, H p = some (.ins C dx (fS t)) ∧ PlT H t zs ∧ DpAll K H zs ((tms ps).map tmD)
theorem SumAt.same {C : Addr} {H H' : Hp} {p : Addr} {ps : List Tr5} (s : Same H H') (h : SumAt K C H p ps) : SumAt K C H' p ps := by
  obtain ⟨dx, t, zs, h1, h2, h3⟩ := h
  exact ⟨dx, t, zs, s _ _ h1, h2.same s, dpAll_same s h3⟩
theorem SumAt.congr {C : Addr} {H : Hp} {p : Addr} {ps qs : List Tr5} (h : SumAt K C H p ps) (e : tms ps = tms qs) : SumAt K C H p qs := by
  obtain ⟨dx, t, zs, h1, h2, h3⟩ := h
  exact ⟨dx, t, zs, h1, h2, e ▸ h3⟩
structure CF (K : PySem.W.Frag) (C : Addr) : Prop where
  cl : Cls K C
  nT : NoAttr K C "terms"
@[irreducible] def spInit (K : PySem.W.Frag) (C : Addr) : Sp := fun vs H Q _ => ∃ (p dx : Addr) (v : V) (ps : List Tr5), vs = [.ref p, v] ∧ H p = some (.ins C dx []) ∧ TmAt K H v ps ∧ In5 ps ∧ ps.length ≤ 60 ∧ ∀ H', SumAt K C H' p ps → SameBut p H H' → Q .non H'
theorem put_nil {f : Str} {v : V} : putF f v [] = [(f, v)] := rfl
theorem ok_init {C : Addr} {dvs : List V} (cf : CF K C) {f : Addr} {fd : FuncData} (F : FunD K "__init__" "Sum.__init__" (defArgs s_Sum___init__) (defBody s_Sum___init__) (defScope s_Sum___init__) dvs [] f fd) (C__added : Cal P w K mg base "_added" 1 ["terms"] (spAdded K)) : FnOk P w K mg base CX0 2 f fd ["self", "terms"] (spInit K C) := by
  refine F.ok sc_Sum___init__ (fun vs H Q E h => ?_) (fun cdv A outer s H vs Q E hr h => ?_)
  · unfold spInit at h
    obtain ⟨p, dx, v, ps, rfl, _⟩ := h
    rfl
  · unfold spInit at h
    obtain ⟨p, dx, v, ps, rfl, hp, hv, h5, hl, q⟩ := h
    refine ⟨_, PSs.nox ((pss_one (ps_fld (pv 0) (pe_cal C__added (hr.mono (by decide)) (pa_cons (pv 1) pa_nil)) rfl))), ?_⟩
    walk_at "rd"
    unfold spAdded
    refine ⟨v, ps, rfl, hv, h5, hl, fun t zs H1 s1 nt ht hz => ?_⟩
    walk_at "rd"
    have hp1 := s1 _ _ hp
    refine ⟨p, C, dx, _, rfl, hp1, cf.cl, cf.nT, by decide, ?_⟩
    walk_at "rd"
    refine q _ ⟨dx, t, zs, upd_same, plt_ins hp1 ht, da_ins hp1 hz⟩ fun b o hb e => ?_
    rw [upd_ne hb]
    exact s1 _ _ e
/-- a new one -/
theorem mk_of {C : Addr} {H : Hp} {v : V} {ps : List Tr5} {Q : VK} (hv : TmAt K H v ps) (h5 : In5 ps) (hl : ps.length ≤ 60) (q : ∀ x H', Same H H' → H x = none → SumAt K C H' x ps → Q (.ref x) H') :
    ∀ x dx, H x = none → H dx = none → dx ≠ x → spInit K C (.ref x :: ([v] ++ [])) (upd (upd H dx (.own x)) x (.ins C dx [])) (fun r H2 => r = .non ∧ Q (.ref x) H2) E0 := by
  intro x dx nx nd ne
  have s1 : Same H (upd (upd H dx (.own x)) x (.ins C dx [])) := fun b o e => by
    rw [upd_ne (ne_of_none e nx), upd_ne (ne_of_none e nd)]
    exact e
  unfold spInit
  refine ⟨x, dx, v, ps, rfl, upd_same, hv.same s1, h5, hl, fun H' hs sb => ⟨rfl, q x H' (fun b o e => sb b o (ne_of_none e nx) (s1 b o e)) nx hs⟩⟩
abbrev MkS (P : Program) (w : World) (K : PySem.W.Frag) (mg : Str → Option Value) (base : Heap) (C : Addr) : Prop := MakC P w K mg base "Sum" C 2 ["self", "terms"] (spInit K C) []
/-! ### the methods -/
@[irreducible] def spLen (K : PySem.W.Frag) (C : Addr) : Sp := fun vs H Q _ => ∃ (p : Addr) (ps : List Tr5), vs = [.ref p] ∧ SumAt K C H p ps ∧ Q (.int ((tms ps).length : Nat)) H
theorem ok_len {C : Addr} (cf : CF K C) {f : Addr} {fd : FuncData} (F : Fun K "__len__" "Sum.__len__" s_Sum___len__ f fd) (m_len : mg "len" = none) : FnOk P w K mg base CX0 1 f fd ["self"] (spLen K C) := by
  refine F.ok sc_Sum___len__ (fun vs H Q E h => ?_) (fun cdv A outer s H vs Q E hr h => ?_)
  · unfold spLen at h
    obtain ⟨p, ps, rfl, _⟩ := h
    rfl
  · unfold spLen at h
    obtain ⟨p, ps, rfl, ⟨dx, t, zs, hp, ht, hz⟩, q⟩ := h
    refine ⟨_, (pss_one (ps_ret (pe_callB call_len_seq (by rfl) m_len PySem.boot_len (pa_cons (pe_fld (pv 0) rfl) pa_nil)))), ?_⟩
    walk_at "rd"
    refine ⟨p, C, dx, _, _, rfl, hp, cf.cl, cf.nT, fS_at t, ?_⟩
    walk_at "rd"
    refine ⟨_, _, rfl, .inr ht.sq, ?_⟩
    have e : zs.length = (tms ps).length := by rw [da_len hz, List.length_map]
    rw [e]
    exact q
@[irreducible] def spCont (K : PySem.W.Frag) (C : Addr) : Sp := fun vs H Q _ => ∃ (p : Addr) (ps : List Tr5) (n : Str), vs = [.ref p, .str n] ∧ SumAt K C H p ps ∧ ∀ H', Same H H' → Q (.bl (decide (n ∈ (tms ps).map (·.1)))) H'
theorem ok_cont {C : Addr} (cf : CF K C) {f : Addr} {fd : FuncData} (F : Fun K "__contains__" "Sum.__contains__" s_Sum___contains__ f fd) : FnOk P w K mg base CX0 1 f fd ["self", "x"] (spCont K C) := by
  refine F.ok sc_Sum___contains__ (fun vs H Q E h => ?_) (fun cdv A outer s H vs Q E hr h => ?_)
  · unfold spCont at h
    obtain ⟨p, ps, n, rfl, _⟩ := h
    rfl
  · unfold spCont at h
    obtain ⟨p, ps, n, rfl, ⟨dx, t, zs, hp, ht, hz⟩, q⟩ := h
    refine ⟨_, (pss_one (ps_ret (pe_cmpR op_in_seq (pv 1) (pe_lc (own := [("name", 2), ("_", 3)]) (tt := tYes) rfl sc_Sum___contains__.nd (pi_tup (pe_fld (pv 0) rfl)) (blkOk_by (N := n_Sum___contains__) (sc := defScope s_Sum___contains__) (by decide +kernel)) (fun _ _ _ _ _ => pg_tupK (K := K) (n := 2) rfl rfl (pgs_cons (pg_name (i := 2) sc_Sum___contains__.nd rfl (Or.inl rfl)) (pgs_cons (pg_name (i := 3) sc_Sum___contains__.nd rfl (Or.inl rfl)) pgs_nil))) (fun _ _ _ _ _ => pts_nil) (fun _ _ _ _ _ => (pv 2))) (by rfl)))), ?_⟩
    walk_at "rd"
    refine ⟨p, C, dx, _, _, rfl, hp, cf.cl, cf.nT, fS_at t, ?_⟩
    walk_at "rd"
    refine ⟨⟨_, ht.sq⟩, fun M nM => ?_⟩
    refine lc_vals ht.sq hz (Nat.le_trans (tms_len ps) (by decide)) (fun x => .str x.1) nM (fun _ _ => rfl) (fun x H' Z _ _ z => ?_) (fun H' s' hM => ?_)
    · walk_at "rd"
      exact z
    · have hs : SqL K H' M (((tms ps).map (·.1)).map V.str) := by
        rw [List.map_map]
        exact sq hM
      refine ⟨M, _, rfl, .inl hs, rfl, flat_all _, ?_⟩
      rw [inV_str]
      have e : ∀ b : Bool, (b != false) = b := fun b => by cases b <;> rfl
      have z := q H' s'
      first | exact z | (rw [e]; exact z)
/-- dict(terms) -/
theorem mergeK_snoc (kvs : List (Key × V)) (x : Key × V) : mergeK [] (kvs ++ [x]) = putK (mergeK [] kvs) x.1 x.2 := by
  unfold mergeK
  rw [List.foldl_append]
  rfl
def kvT (l : List Tr5) : List (Key × V) := l.map fun x => (Sum.inr x.1, V.int x.2)
theorem dinv_merge : ∀ (n : Nat) (l : List Tr5), l.length = n → (l.map (·.1)).Nodup → DInv l (mergeK [] (kvT l))
  | 0, l, e, _ => by
    match l, e with
    | [], _ => exact dinv_nil
  | n + 1, l, e, nd => by
    obtain ⟨m, x, rfl⟩ : ∃ m x, l = m ++ [x] := ⟨l.dropLast, l.getLast (by intro z; rw [z] at e; cases e), (List.dropLast_concat_getLast _).symm⟩
    rw [List.length_append] at e
    rw [List.map_append] at nd
    obtain ⟨n1, _, n3⟩ := List.nodup_append.mp nd
    have h := dinv_merge n m (by simpa using e) n1
    have hx : x.1 ∉ m.map (·.1) := fun z => n3 _ z _ (List.mem_singleton.mpr rfl) rfl
    have h2 := dinv_put h x
    rw [coef_none hx, Int.zero_add] at h2
    have e2 : kvT (m ++ [x]) = kvT m ++ [(Sum.inr x.1, V.int x.2)] := by
      unfold kvT
      rw [List.map_append]
      rfl
    rw [e2, mergeK_snoc]
    exact h2
theorem pair_of {H : Hp} : ∀ {zs : List V} {l : List Tr5}, DpAll K H zs (l.map tmD) → ∃ as : List Addr, zs = as.map V.ref ∧ Paired (fun p kv => SqT K H p [kV kv.1, kv.2]) as (kvT l)
  | zs, [], h => by
    cases h
    exact ⟨[], rfl, .nil⟩
  | zs, x :: l, h => by
    cases h with
    | cons h t =>
      obtain ⟨a, rfl, ha⟩ := tm_inv h
      obtain ⟨as, rfl, hp⟩ := pair_of t
      exact ⟨a :: as, rfl, .cons ha hp⟩
@[irreducible] def spGet (K : PySem.W.Frag) (C : Addr) : Sp := fun vs H Q _ => ∃ (p : Addr) (ps : List Tr5) (n : Str), vs = [.ref p, .str n] ∧ SumAt K C H p ps ∧ In5 ps ∧ ∀ H', Same H H' → Q (.int (coef ps n)) H'
theorem ok_get {C : Addr} (cf : CF K C) {f : Addr} {fd : FuncData} (F : Fun K "__getitem__" "Sum.__getitem__" s_Sum___getitem__ f fd) (m_dict : mg "dict" = none) : FnOk P w K mg base CX0 1 f fd ["self", "at"] (spGet K C) := by
  refine F.ok sc_Sum___getitem__ (fun vs H Q E h => ?_) (fun cdv A outer s H vs Q E hr h => ?_)
  · unfold spGet at h
    obtain ⟨p, ps, n, rfl, _⟩ := h
    rfl
  · unfold spGet at h
    obtain ⟨p, ps, n, rfl, ⟨dx, t, zs, hp, ht, hz⟩, h5, q⟩ := h
    have hu := hu_of hr
    refine ⟨_, (pss_one (ps_ret (pe_dget2 hu (pe_callTy (T := "dict") (call_dictT rfl) (by rfl) m_dict (by decide +kernel) (pa_cons (pe_fld (pv 0) rfl) pa_nil)) (pv 1) pe_int ⟨rfl, rfl, rfl, rfl⟩))), ?_⟩
    walk_at "rd"
    refine ⟨p, C, dx, _, _, rfl, hp, cf.cl, cf.nT, fS_at t, ?_⟩
    obtain ⟨as, rfl, hpr⟩ := pair_of hz
    walk_at "rd"
    refine ⟨t, as, kvT (tms ps), rfl, ht, hpr, fun d nd => ?_⟩
    walk_at "rd"
    refine ⟨.inl ⟨_, .inl upd_same⟩, ?_⟩
    walk_at "rd"
    refine ⟨_, DGet.k (k := Sum.inr n) upd_same, ?_⟩
    rw [dinv_get (dinv_merge _ _ rfl (asc_nodup (tms_asc ps))), coef_tms h5]
    exact q _ (same_new nd)
end
end K23
namespace K23
local macro_rules | `(tactic| walk_at "rd") => `(tactic| repeat (first | refine ⟨rfl, ?_⟩ | refine ⟨_, rfl, ?_⟩ | refine ⟨_, _, rfl, rfl, ?_⟩ | refine ⟨⟨_, rfl⟩, ?_⟩))
open PySem PySem.Spec PyProof.Rows L2 Bx TL Dx Zx Ow M23
section
variable {P : Program} {w : World} {K : PySem.W.Frag} {mg : Str → Option Value} {base : Heap}
theorem tms60 (ps : List Tr5) : (tms ps).length ≤ 60 := Nat.le_trans (tms_len ps) (by decide)
def neg1 (ps : List Tr5) : List Tr5 := ps.map fun x => (x.1, -1 * x.2)
def scl (k : Int) (ps : List Tr5) : List Tr5 := ps.map fun x => (x.1, k * x.2)
@[irreducible] def spAdd (K : PySem.W.Frag) (C : Addr) : Sp := fun vs H Q _ => ∃ (p r : Addr) (ps qs : List Tr5), vs = [.ref p, .ref r] ∧ SumAt K C H p ps ∧ SumAt K C H r qs ∧ In5 ps ∧ In5 qs ∧ ∀ x H', Same H H' → H x = none → SumAt K C H' x (ps ++ qs) → Q (.ref x) H'
theorem ok_add {C : Addr} (cf : CF K C) {f : Addr} {fd : FuncData} (F : Fun K "__add__" "Sum.__add__" s_Sum___add__ f fd) (K_Sum : MkS P w K mg base C) : FnOk P w K mg base CX0 4 f fd ["self", "other"] (spAdd K C) := by
  refine F.ok sc_Sum___add__ (fun vs H Q E h => ?_) (fun cdv A outer s H vs Q E hr h => ?_)
  · unfold spAdd at h
    obtain ⟨p, r, ps, qs, rfl, _⟩ := h
    rfl
  · unfold spAdd at h
    obtain ⟨p, r, ps, qs, rfl, ⟨dx, t, zs, hp, ht, hz⟩, ⟨dy, u, ys, hr1, hu1, hy⟩, h5, k5, q⟩ := h
    refine ⟨_, (pss_one (ps_ret (pe_mak K_Sum (hr.mono (by decide)) (pa_cons (pe_lst (StX.pa_star (pe_fld (pv 0) rfl) (StX.pa_star (pe_fld (pv 1) rfl) pa_nil))) pa_nil)))), ?_⟩
    walk_at "rd"
    refine ⟨p, C, dx, _, _, rfl, hp, cf.cl, cf.nT, fS_at t, ?_⟩
    walk_at "rd"
    refine ⟨t, zs, rfl, .inl ht.sq, ?_⟩
    refine ⟨_, rfl, r, C, dy, _, _, rfl, hr1, cf.cl, cf.nT, fS_at u, u, ys, rfl, .inl hu1.sq, ?_⟩
    have l1 : zs.length = (tms ps).length := by rw [da_len hz, List.length_map]
    have l2 : ys.length = (tms qs).length := by rw [da_len hy, List.length_map]
    have l3 := tms_len ps
    have l4 := tms_len qs
    refine ⟨sz (by rw [List.append_nil, List.length_append]; omega), fun M nM => ?_⟩
    rw [List.append_nil]
    have s1 := same_new nM (o := .lst (zs ++ ys))
    refine mk_of (ps := tms ps ++ tms qs) (.inl (.lst (sq upd_same) ?_)) (in5_app (in5_tms _) (in5_tms _)) (by rw [List.length_append]; omega) fun x H' s2 nx hs => ?_
    · rw [List.map_append]
      exact dpAll_same s1 (da_app hz hy)
    · exact q x H' (Same.trans s1 s2) (s1.free nx) (hs.congr (tms_add h5 k5))
@[irreducible] def spSub (K : PySem.W.Frag) (C : Addr) : Sp := fun vs H Q _ => ∃ (p r : Addr) (ps qs : List Tr5), vs = [.ref p, .ref r] ∧ SumAt K C H p ps ∧ SumAt K C H r qs ∧ In5 ps ∧ In5 qs ∧ ∀ x H', Same H H' → H x = none → SumAt K C H' x (ps ++ scl (-1) qs) → Q (.ref x) H'
theorem ok_sub {C : Addr} (cf : CF K C) {f : Addr} {fd : FuncData} (F : Fun K "__sub__" "Sum.__sub__" s_Sum___sub__ f fd) (K_Sum : MkS P w K mg base C) : FnOk P w K mg base CX0 4 f fd ["self", "other"] (spSub K C) := by
  refine F.ok sc_Sum___sub__ (fun vs H Q E h => ?_) (fun cdv A outer s H vs Q E hr h => ?_)
  · unfold spSub at h
    obtain ⟨p, r, ps, qs, rfl, _⟩ := h
    rfl
  · unfold spSub at h
    obtain ⟨p, r, ps, qs, rfl, ⟨dx, t, zs, hp, ht, hz⟩, ⟨dy, u, ys, hr1, hu1, hy⟩, h5, k5, q⟩ := h
    refine ⟨_, (pss_one (ps_ret (pe_mak K_Sum (hr.mono (by decide)) (pa_cons (pe_lst (StX.pa_star (pe_fld (pv 0) rfl) (StX.pa_star (pe_lc (own := [("name", 2), ("number", 3)]) (tt := tYes) rfl sc_Sum___sub__.nd (pi_tup (pe_fld (pv 1) rfl)) (blkOk_by (N := n_Sum___sub__) (sc := defScope s_Sum___sub__) (by decide +kernel)) (fun _ _ _ _ _ => pg_tupK (K := K) (n := 2) rfl rfl (pgs_cons (pg_name (i := 2) sc_Sum___sub__.nd rfl (Or.inl rfl)) (pgs_cons (pg_name (i := 3) sc_Sum___sub__.nd rfl (Or.inl rfl)) pgs_nil))) (fun _ _ _ _ _ => pts_nil) (fun _ _ _ _ _ => (pe_tup (pa_cons (pv 2) (pa_cons (pe_un un_neg (pv 3)) pa_nil))))) pa_nil))) pa_nil)))), ?_⟩
    walk_at "rd"
    refine ⟨p, C, dx, _, _, rfl, hp, cf.cl, cf.nT, fS_at t, ?_⟩
    walk_at "rd"
    refine ⟨t, zs, rfl, .inl ht.sq, ?_⟩
    refine ⟨_, rfl, r, C, dy, _, _, rfl, hr1, cf.cl, cf.nT, fS_at u, ?_⟩
    refine ⟨u, rfl, ⟨_, hu1.sq⟩, fun M nM => ?_⟩
    refine lc_terms hu1.sq hy (tms60 qs) (fun x => (x.1, -1 * x.2)) nM (fun _ _ => rfl) (fun x H' Z _ _ z => ?_) (fun us H1 s1 hM dM => ?_)
    · walk_at "rd"
      refine ⟨sz (by show 2 ≤ 100000; decide), fun t nt => ?_⟩
      have e := z t nt
      rw [show -1 * x.2 = -x.2 by omega] at e
      exact e
    · have l1 : zs.length = (tms ps).length := by rw [da_len hz, List.length_map]
      have l2 : us.length = (tms qs).length := by rw [da_len dM, List.length_map, List.length_map]
      have l3 := tms_len ps
      have l4 := tms_len qs
      refine ⟨M, us, rfl, .inr (sq hM), ?_⟩
      refine ⟨sz (by rw [List.append_nil, List.length_append]; omega), fun N nN => ?_⟩
      rw [List.append_nil]
      have s2 := same_new nN (o := .lst (zs ++ us))
      have s12 := Same.trans s1 s2
      refine mk_of (ps := tms ps ++ scl (-1) (tms qs)) (.inl (.lst (sq upd_same) ?_)) (in5_app (in5_tms _) (in5_scale _ (in5_tms _))) (by rw [List.length_append, scl, List.length_map]; omega) fun x H' s3 nx hs => ?_
      · rw [List.map_append]
        exact da_app (dpAll_same s12 hz) (dpAll_same s2 dM)
      · refine q x H' (Same.trans s12 s3) (s12.free nx) (hs.congr (tms_congr fun n _ => ?_))
        unfold scl
        rw [coef_app, coef_app, coef_scale, coef_scale, coef_tms h5, coef_tms k5]
@[irreducible] def spNeg (K : PySem.W.Frag) (C : Addr) : Sp := fun vs H Q _ => ∃ (p : Addr) (ps : List Tr5), vs = [.ref p] ∧ SumAt K C H p ps ∧ In5 ps ∧ ∀ x H', Same H H' → H x = none → SumAt K C H' x (scl (-1) ps) → Q (.ref x) H'
theorem ok_neg {C : Addr} (cf : CF K C) {f : Addr} {fd : FuncData} (F : Fun K "__neg__" "Sum.__neg__" s_Sum___neg__ f fd) (K_Sum : MkS P w K mg base C) : FnOk P w K mg base CX0 4 f fd ["self"] (spNeg K C) := by
  refine F.ok sc_Sum___neg__ (fun vs H Q E h => ?_) (fun cdv A outer s H vs Q E hr h => ?_)
  · unfold spNeg at h
    obtain ⟨p, ps, rfl, _⟩ := h
    rfl
  · unfold spNeg at h
    obtain ⟨p, ps, rfl, ⟨dx, t, zs, hp, ht, hz⟩, h5, q⟩ := h
    refine ⟨_, (pss_one (ps_ret (pe_mak K_Sum (hr.mono (by decide)) (pa_cons (pe_lc (own := [("name", 1), ("number", 2)]) (tt := tYes) rfl sc_Sum___neg__.nd (pi_tup (pe_fld (pv 0) rfl)) (blkOk_by (N := n_Sum___neg__) (sc := defScope s_Sum___neg__) (by decide +kernel)) (fun _ _ _ _ _ => pg_tupK (K := K) (n := 2) rfl rfl (pgs_cons (pg_name (i := 1) sc_Sum___neg__.nd rfl (Or.inl rfl)) (pgs_cons (pg_name (i := 2) sc_Sum___neg__.nd rfl (Or.inl rfl)) pgs_nil))) (fun _ _ _ _ _ => pts_nil) (fun _ _ _ _ _ => (pe_tup (pa_cons (pv 1) (pa_cons (pe_un un_neg (pv 2)) pa_nil))))) pa_nil)))), ?_⟩
    walk_at "rd"
    refine ⟨p, C, dx, _, _, rfl, hp, cf.cl, cf.nT, fS_at t, ?_⟩
    walk_at "rd"
    refine ⟨⟨_, ht.sq⟩, fun M nM => ?_⟩
    refine lc_terms ht.sq hz (tms60 ps) (fun x => (x.1, -1 * x.2)) nM (fun _ _ => rfl) (fun x H' Z _ _ z => ?_) (fun us H1 s1 hM dM => ?_)
    · walk_at "rd"
      refine ⟨sz (by show 2 ≤ 100000; decide), fun t nt => ?_⟩
      have e := z t nt
      rw [show -1 * x.2 = -x.2 by omega] at e
      exact e
    · refine mk_of (ps := scl (-1) (tms ps)) (.inl (.lst (sq hM) dM)) (in5_scale _ (in5_tms _)) (by rw [scl, List.length_map]; exact tms60 ps) fun x H' s3 nx hs => ?_
      exact q x H' (Same.trans s1 s3) (s1.free nx) (hs.congr (tms_scale _ h5))
def Big (ps : List Tr5) : Prop := ∀ x ∈ tms ps, x.2.natAbs < 2 ^ 100
@[irreducible] def spMul (K : PySem.W.Frag) (C : Addr) : Sp := fun vs H Q _ => ∃ (p : Addr) (k : Int) (ps : List Tr5), vs = [.ref p, .int k] ∧ SumAt K C H p ps ∧ In5 ps ∧ Big ps ∧ k.natAbs < 2 ^ 100 ∧ ∀ x H', Same H H' → H x = none → SumAt K C H' x (scl k ps) → Q (.ref x) H'
theorem ok_mul {C : Addr} (cf : CF K C) {f : Addr} {fd : FuncData} (F : Fun K "__mul__" "Sum.__mul__" s_Sum___mul__ f fd) (K_Sum : MkS P w K mg base C) : FnOk P w K mg base CX0 4 f fd ["self", "other"] (spMul K C) := by
  refine F.ok sc_Sum___mul__ (fun vs H Q E h => ?_) (fun cdv A outer s H vs Q E hr h => ?_)
  · unfold spMul at h
    obtain ⟨p, k, ps, rfl, _⟩ := h
    rfl
  · unfold spMul at h
    obtain ⟨p, k, ps, rfl, ⟨dx, t, zs, hp, ht, hz⟩, h5, hb, hkb, q⟩ := h
    refine ⟨_, (pss_one (ps_ret (pe_mak K_Sum (hr.mono (by decide)) (pa_cons (pe_lc (own := [("name", 2), ("number", 3)]) (tt := tYes) rfl sc_Sum___mul__.nd (pi_tup (pe_fld (pv 0) rfl)) (blkOk_by (N := n_Sum___mul__) (sc := defScope s_Sum___mul__) (by decide +kernel)) (fun _ _ _ _ _ => pg_tupK (K := K) (n := 2) rfl rfl (pgs_cons (pg_name (i := 2) sc_Sum___mul__.nd rfl (Or.inl rfl)) (pgs_cons (pg_name (i := 3) sc_Sum___mul__.nd rfl (Or.inl rfl)) pgs_nil))) (fun _ _ _ _ _ => pts_nil) (fun _ _ _ _ _ => (pe_tup (pa_cons (pv 2) (pa_cons (pe_op op_mulW (pv 3) (pv 1)) pa_nil))))) pa_nil)))), ?_⟩
    walk_at "rd"
    refine ⟨p, C, dx, _, _, rfl, hp, cf.cl, cf.nT, fS_at t, ?_⟩
    walk_at "rd"
    refine ⟨⟨_, ht.sq⟩, fun M nM => ?_⟩
    refine lc_terms ht.sq hz (tms60 ps) (fun x => (x.1, k * x.2)) nM (fun _ _ => rfl) (fun x H' Z hx _ z => ?_) (fun us H1 s1 hM dM => ?_)
    · walk_at "rd"
      refine ⟨wide_mul (hb x hx) hkb (by decide) (by decide) (by decide), ?_⟩
      walk_at "rd"
      refine ⟨sz (by show 2 ≤ 100000; decide), fun t nt => ?_⟩
      have e := z t nt
      rw [Int.mul_comm k] at e
      exact e
    · refine mk_of (ps := scl k (tms ps)) (.inl (.lst (sq hM) dM)) (in5_scale _ (in5_tms _)) (by rw [scl, List.length_map]; exact tms60 ps) fun x H' s3 nx hs => ?_
      exact q x H' (Same.trans s1 s3) (s1.free nx) (hs.congr (tms_scale _ h5))
theorem ok_rmul {C : Addr} (cf : CF K C) {f : Addr} {fd : FuncData} (F : Fun K "__rmul__" "Sum.__rmul__" s_Sum___rmul__ f fd) (K_Sum : MkS P w K mg base C) : FnOk P w K mg base CX0 4 f fd ["self", "other"] (spMul K C) := by
  refine F.ok sc_Sum___rmul__ (fun vs H Q E h => ?_) (fun cdv A outer s H vs Q E hr h => ?_)
  · unfold spMul at h
    obtain ⟨p, k, ps, rfl, _⟩ := h
    rfl
  · unfold spMul at h
    obtain ⟨p, k, ps, rfl, ⟨dx, t, zs, hp, ht, hz⟩, h5, hb, hkb, q⟩ := h
    refine ⟨_, (pss_one (ps_ret (pe_mak K_Sum (hr.mono (by decide)) (pa_cons (pe_lc (own := [("name", 2), ("number", 3)]) (tt := tYes) rfl sc_Sum___rmul__.nd (pi_tup (pe_fld (pv 0) rfl)) (blkOk_by (N := n_Sum___rmul__) (sc := defScope s_Sum___rmul__) (by decide +kernel)) (fun _ _ _ _ _ => pg_tupK (K := K) (n := 2) rfl rfl (pgs_cons (pg_name (i := 2) sc_Sum___rmul__.nd rfl (Or.inl rfl)) (pgs_cons (pg_name (i := 3) sc_Sum___rmul__.nd rfl (Or.inl rfl)) pgs_nil))) (fun _ _ _ _ _ => pts_nil) (fun _ _ _ _ _ => (pe_tup (pa_cons (pv 2) (pa_cons (pe_op op_mulW (pv 3) (pv 1)) pa_nil))))) pa_nil)))), ?_⟩
    walk_at "rd"
    refine ⟨p, C, dx, _, _, rfl, hp, cf.cl, cf.nT, fS_at t, ?_⟩
    walk_at "rd"
    refine ⟨⟨_, ht.sq⟩, fun M nM => ?_⟩
    refine lc_terms ht.sq hz (tms60 ps) (fun x => (x.1, k * x.2)) nM (fun _ _ => rfl) (fun x H' Z hx _ z => ?_) (fun us H1 s1 hM dM => ?_)
    · walk_at "rd"
      refine ⟨wide_mul (hb x hx) hkb (by decide) (by decide) (by decide), ?_⟩
      walk_at "rd"
      refine ⟨sz (by show 2 ≤ 100000; decide), fun t nt => ?_⟩
      have e := z t nt
      rw [Int.mul_comm k] at e
      exact e
    · refine mk_of (ps := scl k (tms ps)) (.inl (.lst (sq hM) dM)) (in5_scale _ (in5_tms _)) (by rw [scl, List.length_map]; exact tms60 ps) fun x H' s3 nx hs => ?_
      exact q x H' (Same.trans s1 s3) (s1.free nx) (hs.congr (tms_scale _ h5))
@[irreducible] def spAt (K : PySem.W.Frag) (C : Addr) : Sp := fun vs H Q _ => ∃ (p d : Addr) (ps : List Tr5) (kvs : List (Key × V)) (g : Str → Int), vs = [.ref p, .ref d] ∧ SumAt K C H p ps ∧ Big ps ∧ H d = some (.dK kvs) ∧ (∀ n ∈ N5, valV kvs (Sum.inr n) = some (.int (g n)) ∧ (g n).natAbs < 2 ^ 100) ∧ ∀ H', Same H H' → Q (.int (lin g (tms ps))) H'
theorem ok_at {C : Addr} (cf : CF K C) {f : Addr} {fd : FuncData} (F : Fun K "at" "Sum.at" s_Sum_at f fd) (m_sum : mg "sum" = none) : FnOk P w K mg base CX0 1 f fd ["self", "assignment"] (spAt K C) := by
  refine F.ok sc_Sum_at (fun vs H Q E h => ?_) (fun cdv A outer s H vs Q E hr h => ?_)
  · unfold spAt at h
    obtain ⟨p, d, ps, kvs, g, rfl, _⟩ := h
    rfl
  · unfold spAt at h
    obtain ⟨p, d, ps, kvs, g, rfl, ⟨dx, t, zs, hp, ht, hz⟩, hb, hd, hg, q⟩ := h
    have hu := hu_of hr
    refine ⟨_, (pss_one (ps_ret (pe_callB (id := "sum") (cr_sum rfl) (by rfl) m_sum (by decide +kernel) (pa_cons (pe_lc (own := [("name", 2), ("number", 3)]) (tt := tYes) rfl sc_Sum_at.nd (pi_tup (pe_fld (pv 0) rfl)) (blkOk_by (N := n_Sum_at) (sc := defScope s_Sum_at) (by decide +kernel)) (fun _ _ _ _ _ => pg_tupK (K := K) (n := 2) rfl rfl (pgs_cons (pg_name (i := 2) sc_Sum_at.nd rfl (Or.inl rfl)) (pgs_cons (pg_name (i := 3) sc_Sum_at.nd rfl (Or.inl rfl)) pgs_nil))) (fun _ _ _ _ _ => pts_nil) (fun _ _ _ _ _ => (pe_op op_mulW (pv 3) (pe_dget hu (pv 1) (pv 2) (fun _ _ => rfl))))) pa_nil)))), ?_⟩
    walk_at "rd"
    refine ⟨p, C, dx, _, _, rfl, hp, cf.cl, cf.nT, fS_at t, ?_⟩
    walk_at "rd"
    refine ⟨⟨_, ht.sq⟩, fun M nM => ?_⟩
    refine lc_vals ht.sq hz (tms60 ps) (fun x => .int (g x.1 * x.2)) nM (fun _ _ => rfl) (fun x H' Z hx s' z => ?_) (fun H1 s1 hM => ?_)
    · obtain ⟨e1, e2⟩ := hg x.1 (in5_tms ps x hx)
      walk_at "rd"
      refine ⟨d, _, rfl, e1 ▸ DGet.k (k := Sum.inr x.1) (s' _ _ hd), ?_⟩
      walk_at "rd"
      refine ⟨wide_mul (hb x hx) e2 (by decide) (by decide) (by decide), ?_⟩
      show Z (.int (x.2 * g x.1)) H'
      rw [Int.mul_comm]
      exact z
    · walk_at "rd"
      refine ⟨M, (tms ps).map (fun x : Tr5 => g x.1 * x.2), rfl, ?_, q H1 s1⟩
      rw [List.map_map]
      exact sq hM
@[irreducible] def spRen (K : PySem.W.Frag) (C : Addr) : Sp := fun vs H Q _ => ∃ (p d : Addr) (ps : List Tr5) (kvs : List (Key × V)) (r : Str → Str), vs = [.ref p, .ref d] ∧ SumAt K C H p ps ∧ In5 ps ∧ H d = some (.dK kvs) ∧ (∀ n ∈ N5, (valV kvs (Sum.inr n)).getD (.str n) = .str (r n) ∧ r n ∈ N5) ∧ ∀ x H', Same H H' → H x = none → SumAt K C H' x (ps.map fun x => (r x.1, x.2)) → Q (.ref x) H'
theorem ok_renamed {C : Addr} (cf : CF K C) {f : Addr} {fd : FuncData} (F : Fun K "renamed" "Sum.renamed" s_Sum_renamed f fd) (K_Sum : MkS P w K mg base C) : FnOk P w K mg base CX0 4 f fd ["self", "table"] (spRen K C) := by
  refine F.ok sc_Sum_renamed (fun vs H Q E h => ?_) (fun cdv A outer s H vs Q E hr h => ?_)
  · unfold spRen at h
    obtain ⟨p, d, ps, kvs, r, rfl, _⟩ := h
    rfl
  · unfold spRen at h
    obtain ⟨p, d, ps, kvs, r, rfl, ⟨dx, t, zs, hp, ht, hz⟩, h5, hd, hg, q⟩ := h
    have hu := hu_of hr
    refine ⟨_, (pss_one (ps_ret (pe_mak K_Sum (hr.mono (by decide)) (pa_cons (pe_lc (own := [("name", 2), ("number", 3)]) (tt := tYes) rfl sc_Sum_renamed.nd (pi_tup (pe_fld (pv 0) rfl)) (blkOk_by (N := n_Sum_renamed) (sc := defScope s_Sum_renamed) (by decide +kernel)) (fun _ _ _ _ _ => pg_tupK (K := K) (n := 2) rfl rfl (pgs_cons (pg_name (i := 2) sc_Sum_renamed.nd rfl (Or.inl rfl)) (pgs_cons (pg_name (i := 3) sc_Sum_renamed.nd rfl (Or.inl rfl)) pgs_nil))) (fun _ _ _ _ _ => pts_nil) (fun _ _ _ _ _ => (pe_tup (pa_cons (pe_dget2 hu (pv 1) (pv 2) (pv 2) ⟨rfl, rfl, rfl, rfl⟩) (pa_cons (pv 3) pa_nil))))) pa_nil)))), ?_⟩
    walk_at "rd"
    refine ⟨p, C, dx, _, _, rfl, hp, cf.cl, cf.nT, fS_at t, ?_⟩
    walk_at "rd"
    refine ⟨⟨_, ht.sq⟩, fun M nM => ?_⟩
    refine lc_terms ht.sq hz (tms60 ps) (fun x => (r x.1, x.2)) nM (fun _ _ => rfl) (fun x H' Z hx s' z => ?_) (fun us H1 s1 hM dM => ?_)
    · obtain ⟨e1, e2⟩ := hg x.1 (in5_tms ps x hx)
      walk_at "rd"
      refine ⟨.inl ⟨_, .inl (s' _ _ hd)⟩, ?_⟩
      walk_at "rd"
      refine ⟨_, DGet.k (k := Sum.inr x.1) (s' _ _ hd), ?_⟩
      rw [e1]
      walk_at "rd"
      exact ⟨sz (by show 2 ≤ 100000; decide), fun t nt => z t nt⟩
    · have h5r : In5 ((tms ps).map fun x => (r x.1, x.2)) := fun y hy => by
        obtain ⟨x, hx, rfl⟩ := List.mem_map.mp hy
        exact (hg x.1 (in5_tms ps x hx)).2
      refine mk_of (ps := (tms ps).map fun x => (r x.1, x.2)) (.inl (.lst (sq hM) dM)) h5r (by rw [List.length_map]; exact tms60 ps) fun x H' s3 nx hs => ?_
      exact q x H' (Same.trans s1 s3) (s1.free nx) (hs.congr (tms_ren r h5))
end
end K23
namespace K23
local macro_rules | `(tactic| walk_at "rd") => `(tactic| repeat (first | refine ⟨rfl, ?_⟩ | refine ⟨_, rfl, ?_⟩ | refine ⟨_, _, rfl, rfl, ?_⟩ | refine ⟨⟨_, rfl⟩, ?_⟩))
open PySem PySem.Spec PyProof.Rows L2 Bx TL Dx Zx Ow M23
section
variable {P : Program} {w : World} {K : PySem.W.Frag} {mg : Str → Option Value} {base : Heap}
/-! ### ascending names -/
theorem eqv_strs : ∀ (l m : List Str), PyData.eqvAll (l.map PyData.str) (m.map PyData.str) = decide (l = m)
  | [], [] => rfl
  | [], y :: m => rfl
  | x :: l, [] => rfl
  | x :: l, y :: m => by
    show ((x == y) && PyData.eqvAll (l.map PyData.str) (m.map PyData.str)) = _
    rw [eqv_strs l m]
    by_cases h : x = y
    · subst h
      by_cases h2 : l = m
      · subst h2
        simp
      · simp [h2]
    · simp [h]
def ascB (l : List Str) : Bool := decide (l.Pairwise fun x y => x.cps.toList < y.cps.toList)
theorem ascB_iff {l : List Str} : ascB l = true ↔ Asc l := decide_eq_true_iff
def spAsc (K : PySem.W.Frag) : Sp := fun vs H Q _ => ∃ (a : Addr) (ns : List Str), vs = [.ref a] ∧ (SqL K H a (ns.map V.str) ∨ SqT K H a (ns.map V.str)) ∧ ns.length ≤ 1000 ∧ (∀ x ∈ ns, PyData.strOk x = true) ∧ ∀ H', Same H H' → Q (.bl (ascB ns)) H'
theorem ok_is_ascending {f : Addr} {fd : FuncData} (F : Fun K "is_ascending" "is_ascending" s_is_ascending f fd) (m_list : mg "list" = none) (m_set : mg "set" = none) (m_sorted : mg "sorted" = none) : FnOk P w K mg base CX0 1 f fd ["values"] (spAsc K) := by
  refine F.ok sc_is_ascending (fun vs H Q E h => ?_) (fun cdv A outer s H vs Q E hr h => ?_)
  · obtain ⟨a, ns, rfl, _⟩ := h
    rfl
  · obtain ⟨a, ns, rfl, hs, hl, hok, q⟩ := h
    refine ⟨_, (pss_one (ps_ret (pe_cmpR (op_eqD hr.units) (pe_callTy (T := "list") call_list_of (by rfl) m_list (by decide +kernel) (pa_cons (pv 0) pa_nil)) (pe_callB (id := "sorted") (Sx.cr_sortX rfl) (by rfl) m_sorted (by decide +kernel) (pa_cons (pe_callTy (T := "set") (Sx.cr_setX rfl) (by rfl) m_set (by decide +kernel) (pa_cons (pv 0) pa_nil)) pa_nil)) (nomark _)))), ?_⟩
    walk_at "rd"
    refine ⟨_, _, rfl, hs, fun p np => ?_⟩
    have s1 : Same H (upd H p (.lst (ns.map V.str))) := same_new np
    walk_at "rd"
    refine ⟨a, ns, rfl, hs.imp (Same.seq s1) (Bx.Same.tup s1), by omega, fun p2 ys n2 hm nd hlen => ?_⟩
    walk_at "rd"
    have s2 := Same.trans s1 (same_new n2 (o := Sx.SetV P w p2 ys))
    refine ⟨_, ys, rfl, upd_same, by omega, fun zs p3 pm st n3 => ?_⟩
    have s3 := Same.trans s2 (same_new n3 (o := .lst (zs.map V.str)))
    have hp3 := (Same.trans (same_new n2 (o := Sx.SetV P w p2 ys)) (same_new n3 (o := .lst (zs.map V.str)))) p _ upd_same
    have hzm : ∀ x, x ∈ zs ↔ x ∈ ns := fun x => pm.mem_iff.trans (hm x)
    have hza : Asc zs := asc_of st (pm.nodup_iff.mpr nd)
    have l1 : Lay 1 (.list (ns.map PyData.str)) := lay_list (lays_strs hok)
    have l2 : Lay 1 (.list (zs.map PyData.str)) := lay_list (lays_strs fun x hx => hok x ((hzm x).mp hx))
    refine ⟨_, _, .lst (sq hp3) (dp_strs ns), .lst (sq upd_same) (dp_strs zs), shape l1 (by decide), shape l2 (by decide), ?_⟩
    have e : PyData.eqv (.list (ns.map PyData.str)) (.list (zs.map PyData.str)) = ascB ns := by
      show PyData.eqvAll _ _ = _
      rw [eqv_strs]
      by_cases h : Asc ns
      · rw [ascB_iff.mpr h, decide_eq_true (asc_eq h hza fun x => (hzm x).symm)]
      · rw [Bool.eq_false_iff.mpr fun z => h (ascB_iff.mp z), decide_eq_false fun z : ns = zs => h (z ▸ hza)]
    rw [e]
    exact q _ s3
/-! ### ratios -/
def tp2 (q : Int × Int) : HO := .tup [.int q.1, .int q.2]
def prD (p : Int × Int) : PyData := .tuple [.int p.1, .int p.2]
theorem pr_inv {H : Hp} {v : V} {p : Int × Int} (h : Dp K H v (prD p)) : ∃ a, v = .ref a ∧ SqT K H a [.int p.1, .int p.2] := by
  obtain ⟨a, xs, rfl, s, t⟩ := dp_tup h
  cases t with
  | cons h1 t =>
    cases t with
    | cons h2 t =>
      cases t
      rw [dp_int h1, dp_int h2] at s
      exact ⟨a, rfl, s⟩
theorem pr_dp {H : Hp} {a : Addr} {p : Int × Int} (s : SqT K H a [.int p.1, .int p.2]) : Dp K H (.ref a) (prD p) := .tup s (.cons (.int _) (.cons (.int _) .nil))
theorem pr_at {H : Hp} {xs : List V} {ps : List (Int × Int)} (hd : DpAll K H xs (ps.map prD)) {i : Nat} {x : V} (hx : xs[i]? = some x) : ∃ p, ps[i]? = some p ∧ ∃ a, x = .ref a ∧ SqT K H a [.int p.1, .int p.2] := by
  obtain ⟨d, hd2, hxd⟩ := da_at hd hx
  rw [List.getElem?_map] at hd2
  cases e : ps[i]? with
  | none =>
    rw [e] at hd2
    cases hd2
  | some p =>
    rw [e] at hd2
    cases hd2
    exact ⟨p, rfl, pr_inv hxd⟩
@[irreducible] def spRatio : Sp := fun vs H Q _ => ∃ t b : Int, vs = [.int t, .int b] ∧ b ≠ 0 ∧ b.natAbs < 2 ^ 3000 ∧ ∀ p H', Same H H' → H p = none → H' p = some (tp2 (low t b)) → Q (.ref p) H'
set_option exponentiation.threshold 10000 in
theorem gcd_lt {t b : Int} (hb : b ≠ 0) (h : b.natAbs < 2 ^ 3000) : ((Int.gcd t b : Int)).natAbs < 2 ^ 3000 := by
  have : Int.gcd t b ≤ b.natAbs := Nat.le_of_dvd (by omega) (Int.ofNat_dvd_left.mp (Int.gcd_dvd_right _ _))
  rw [Int.natAbs_natCast]
  exact Nat.lt_of_le_of_lt this h
set_option exponentiation.threshold 10000 in
theorem ok_ratio {dvs : List V} {f : Addr} {fd : FuncData} (F : FunD K "ratio" "ratio" (defArgs s_ratio) (defBody s_ratio) (defScope s_ratio) dvs [] f fd) (m_gcd : mg "gcd" = some (.builtin "math.gcd")) : FnOk P w K mg base CX0 1 f fd ["top", "bottom"] spRatio := by
  refine F.ok sc_ratio (fun vs H Q E h => ?_) (fun cdv A outer s H vs Q E hr h => ?_)
  · unfold spRatio at h
    obtain ⟨t, b, rfl, _⟩ := h
    rfl
  · unfold spRatio at h
    obtain ⟨t, b, rfl, hb, hbb, q⟩ := h
    refine ⟨_, PSs.nox ((pss_cons (ps_set (i := 2) sc_ratio.nd rfl (Or.inl rfl) (pe_callBfun cr_gcd (by rfl) m_gcd (pa_cons (pv 0) (pa_cons (pv 1) pa_nil))))
    (pss_cons (ps_if (pt_cmpR op_lt (pv 1) pe_int (nomark _))
      (pss_one (ps_ret (pe_tup (pa_cons (pe_op op_fdivW (pe_un un_neg (pv 0)) (pv 2)) (pa_cons (pe_op op_fdivW (pe_un un_neg (pv 1)) (pv 2)) pa_nil)))))
      pss_nil)
    (pss_one (ps_ret (pe_tup (pa_cons (pe_op op_fdivW (pv 0) (pv 2)) (pa_cons (pe_op op_fdivW (pv 1) (pv 2)) pa_nil)))))))), ?_⟩
    have hg := gcd_pos (t := t) hb
    have hgb := gcd_lt (t := t) hb hbb
    have hw : ∀ x, CDivW x (Int.gcd t b : Int) := fun x => wide_div hg hgb (by decide) (by decide)
    walk_at "rd"
    refine ⟨t, b, rfl, ?_⟩
    walk_at "rd"
    refine ite2 (fun h0 => ?_) (fun h0 => ?_)
    · have h1 : b < 0 := by simpa using h0
      have e : low t b = ((-t) / (Int.gcd t b : Int), (-b) / (Int.gcd t b : Int)) := if_pos h1
      rw [e] at q
      walk_at "rd"
      refine ⟨hw _, ?_⟩
      walk_at "rd"
      refine ⟨hw _, ?_⟩
      walk_at "rd"
      exact ⟨sz (by show 2 ≤ 100000; decide), fun p np => q p _ (same_new np) np upd_same⟩
    · have h1 : ¬ b < 0 := by simpa using h0
      have e : low t b = (t / (Int.gcd t b : Int), b / (Int.gcd t b : Int)) := if_neg h1
      rw [e] at q
      walk_at "rd"
      refine ⟨hw _, ?_⟩
      walk_at "rd"
      refine ⟨hw _, ?_⟩
      walk_at "rd"
      exact ⟨sz (by show 2 ≤ 100000; decide), fun p np => q p _ (same_new np) np upd_same⟩
abbrev CRatio (P : Program) (w : World) (K : PySem.W.Frag) (mg : Str → Option Value) (base : Heap) : Prop := Cal P w K mg base "ratio" 1 ["top", "bottom"] spRatio
theorem ratio_of {H : Hp} {t b : Int} {Q : VK} {E : XK} (hb : b ≠ 0) (h : b.natAbs < 2 ^ 3000) (q : ∀ p H', Same H H' → H p = none → H' p = some (tp2 (low t b)) → Q (.ref p) H') : spRatio [.int t, .int b] H Q E := by
  unfold spRatio
  exact ⟨t, b, rfl, hb, h, q⟩
/-- numbers of fewer than n bits -/
def Bits (n : Nat) (p : Int × Int) : Prop := p.1.natAbs < 2 ^ n ∧ p.2.natAbs < 2 ^ n
theorem bits_up {m n : Nat} {p : Int × Int} (h : Bits m p) (k : m ≤ n) : Bits n p := ⟨Nat.lt_of_lt_of_le h.1 (Nat.pow_le_pow_right (by decide) k), Nat.lt_of_lt_of_le h.2 (Nat.pow_le_pow_right (by decide) k)⟩
theorem lt_up {x m n : Nat} (h : x < 2 ^ m) (k : m ≤ n) : x < 2 ^ n := Nat.lt_of_lt_of_le h (Nat.pow_le_pow_right (by decide) k)
theorem bits_low {n : Nat} {t b : Int} (hb : b ≠ 0) (h : Bits n (t, b)) : Bits n (low t b) := ⟨Nat.lt_of_le_of_lt (low_le hb).1 h.1, Nat.lt_of_le_of_lt (low_le hb).2 h.2⟩
theorem take_all {α : Type} {R : α → Prop} {l : List α} (h : ∀ x ∈ l, R x) (n : Nat) : ∀ x ∈ l.take n, R x := fun x hx => h x (List.mem_of_mem_take hx)
def spTotal (K : PySem.W.Frag) : Sp := fun vs H Q _ => ∃ ps : List (Int × Int), DpAll K H vs (ps.map prD) ∧ ps.length ≤ 6 ∧ (∀ p ∈ ps, 0 < p.2 ∧ Bits 100 p) ∧ ∀ p H', Same H H' → H p = none → H' p = some (tp2 (low (addR ps).1 (addR ps).2)) → Q (.ref p) H'
def spTotal0 (K : PySem.W.Frag) : Sp := fun vs H Q _ => ∃ (a : Addr) (xs : List V) (ps : List (Int × Int)), vs = [.ref a] ∧ SqT K H a xs ∧ DpAll K H xs (ps.map prD) ∧ ps.length ≤ 6 ∧ (∀ p ∈ ps, 0 < p.2 ∧ Bits 100 p) ∧ ∀ p H', Same H H' → H p = none → H' p = some (tp2 (low (addR ps).1 (addR ps).2)) → Q (.ref p) H'
theorem add_bits {n : Nat} {ps : List (Int × Int)} (hn : ps.length ≤ n) (h : ∀ p ∈ ps, Bits 100 p) : (addR ps).1.natAbs < 2 ^ (n * 101 + 1) ∧ (addR ps).2.natAbs < 2 ^ (n * 101 + 1) := by
  have z := addR_size 100 (by decide) ps h
  have k : ps.length * (100 + 1) + 1 ≤ n * 101 + 1 := Nat.succ_le_succ (Nat.mul_le_mul_right _ hn)
  exact ⟨lt_up z.1 k, lt_up z.2 k⟩
set_option exponentiation.threshold 10000 in
theorem ok_total {f : Addr} {fd : FuncData} (F : Fun K "total" "total" s_total f fd) (C_ratio : CRatio P w K mg base) : FnR P w K mg base CX0 2 f (spTotal K) := by
  have z := okStar (P := P) (w := w) (K := K) (mg := mg) (base := base) (sp := spTotal0 K) (k := 1) F sc_total (fun _ _ _ _ _ _ rest => match rest with | [] => rfl | _ :: _ => rfl) (fun cdv A outer s H vs Q E hr h => ?_)
  · refine z.imp fun vs H Q E h => ?_
    obtain ⟨ps, hd, hl, hb, q⟩ := h
    exact ⟨by rw [da_len hd, List.length_map]; exact sz (by omega), fun p np => ⟨p, vs, ps, rfl, sqt upd_same, dpAll_same (same_new np) hd, hl, hb, fun r H' s nr => q r H' ((same_new np).trans s) ((same_new np).free nr)⟩⟩
  · obtain ⟨a, xs, ps, rfl, hs, hd, hl, hb, q⟩ := h
    refine ⟨_, PSs.nox ((pss_cons (ps_asg (pe_tup (pa_cons pe_int (pa_cons pe_int pa_nil))) (pg_tup rfl (pgs_cons (pg_name (i := 1) sc_total.nd rfl (Or.inl rfl)) (pgs_cons (pg_name (i := 2) sc_total.nd rfl (Or.inl rfl)) pgs_nil))))
    (pss_cons (ps_for PassesOwn.never rfl (pi_tup (pv 0)) (pg_tup rfl (pgs_cons (pg_name (i := 3) sc_total.nd rfl (Or.inl rfl)) (pgs_cons (pg_name (i := 4) sc_total.nd rfl (Or.inl rfl)) pgs_nil)))
      (pss_one (ps_par (i := 1) (j := 2) rfl sc_total.nd rfl rfl (by decide) rfl rfl (pa_cons (pe_op op_add (pe_op op_mulW (pv 1) (pv 4)) (pe_op op_mulW (pv 3) (pv 2))) (pa_cons (pe_op op_mulW (pv 2) (pv 4)) pa_nil)) (by rfl))))
    (pss_one (ps_ret (pe_cal C_ratio (hr.mono (by decide)) (pa_cons (pv 1) (pa_cons (pv 2) pa_nil)))))))), ?_⟩
    have hxl : xs.length = ps.length := by rw [da_len hd, List.length_map]
    walk_at "rd"
    refine ⟨sz (by show 2 ≤ 100000; decide), fun t nt => ?_⟩
    refine ⟨_, _, rfl, sqt upd_same, rfl, _, _, rfl, _, _, rfl, rfl, ?_⟩
    walk_at "rd"
    have s1 := same_new nt (o := .tup [.int 0, .int 1])
    refine ⟨⟨_, Bx.Same.tup s1 hs⟩, for_it walk_tup (fun i σ H' => ∃ o3 o4 : Option V, σ = [some (.ref a), some (.int (addR (ps.take i)).1), some (.int (addR (ps.take i)).2), o3, o4] ∧ Same H H') ⟨none, none, rfl, s1⟩ (fun i σ H' _ ⟨_, _, _, s⟩ => Bx.Same.tup s hs) ?_ ?_⟩
    · rintro i x σ H1 H2 hi ⟨o3, o4, rfl, s2⟩ ⟨rfl, hx⟩
      obtain ⟨p, hp, pa, rfl, hpa⟩ := pr_at hd hx
      have hpb := (hb p (List.mem_of_getElem? hp)).2
      have hab := add_bits (n := 6) (ps := ps.take i) (by rw [List.length_take]; omega) (take_all (fun p hp => (hb p hp).2) i)
      have e : addR (ps.take (i + 1)) = ((addR (ps.take i)).1 * p.2 + p.1 * (addR (ps.take i)).2, (addR (ps.take i)).2 * p.2) := by
        rw [List.take_add_one, hp]
        exact addR_snoc _ _
      refine ⟨_, _, rfl, Bx.Same.tup s2 hpa, rfl, _, _, rfl, _, _, rfl, rfl, ?_⟩
      walk_at "rd"
      refine ⟨wide_mul hab.1 hpb.2 (by decide) (by decide) (by decide), ?_⟩
      walk_at "rd"
      refine ⟨wide_mul hpb.1 hab.2 (by decide) (by decide) (by decide), ?_⟩
      walk_at "rd"
      refine ⟨wide_mul hab.2 hpb.2 (by decide) (by decide) (by decide), ?_⟩
      walk_at "rd"
      refine ⟨_, _, rfl, ?_⟩
      exact ⟨_, _, by rw [e]; rfl, s2⟩
    · rintro σ H1 ⟨o3, o4, rfl, s2⟩
      rw [hxl, List.take_length]
      have hab := add_bits (n := 6) (ps := ps) hl (fun p hp => (hb p hp).2)
      have hpos := addR_pos (ps := ps) fun p hp => (hb p hp).1
      walk_at "rd"
      exact ratio_of (by omega) (lt_up hab.2 (by decide)) fun p H' s3 np hp => q p H' (s2.trans s3) (s2.free np) hp
@[irreducible] def spTimes (K : PySem.W.Frag) : Sp := fun vs H Q _ => ∃ (a b : Addr) (x y : Int × Int), vs = [.ref a, .ref b] ∧ SqT K H a [.int x.1, .int x.2] ∧ SqT K H b [.int y.1, .int y.2] ∧ x.2 * y.2 ≠ 0 ∧ Bits 300 x ∧ Bits 300 y ∧
  ∀ p H', Same H H' → H p = none → H' p = some (tp2 (low (x.1 * y.1) (x.2 * y.2))) → Q (.ref p) H'
set_option exponentiation.threshold 10000 in
theorem ok_times {f : Addr} {fd : FuncData} (F : Fun K "times" "times" s_times f fd) (C_ratio : CRatio P w K mg base) : FnOk P w K mg base CX0 2 f fd ["first", "second"] (spTimes K) := by
  refine F.ok sc_times (fun vs H Q E h => ?_) (fun cdv A outer s H vs Q E hr h => ?_)
  · unfold spTimes at h
    obtain ⟨a, b, x, y, rfl, _⟩ := h
    rfl
  · unfold spTimes at h
    obtain ⟨a, b, x, y, rfl, ha, hb, h0, hx, hy, q⟩ := h
    refine ⟨_, (pss_one (ps_ret (pe_cal C_ratio (hr.mono (by decide)) (pa_cons (pe_op op_mulW (pe_ix ix_tup (pv 0) pe_int (fun _ _ => rfl)) (pe_ix ix_tup (pv 1) pe_int (fun _ _ => rfl))) (pa_cons (pe_op op_mulW (pe_ix ix_tup (pv 0) pe_int (fun _ _ => rfl)) (pe_ix ix_tup (pv 1) pe_int (fun _ _ => rfl))) pa_nil))))), ?_⟩
    walk_at "rd"
    refine ⟨_, _, _, _, rfl, rfl, ha, atI_nat (j := 0) rfl, ?_⟩
    walk_at "rd"
    refine ⟨_, _, _, _, rfl, rfl, hb, atI_nat (j := 0) rfl, ?_⟩
    walk_at "rd"
    refine ⟨wide_mul hx.1 hy.1 (by decide) (by decide) (by decide), ?_⟩
    walk_at "rd"
    refine ⟨_, _, _, _, rfl, rfl, ha, atI_nat (j := 1) rfl, ?_⟩
    walk_at "rd"
    refine ⟨_, _, _, _, rfl, rfl, hb, atI_nat (j := 1) rfl, ?_⟩
    walk_at "rd"
    refine ⟨wide_mul hx.2 hy.2 (by decide) (by decide) (by decide), ?_⟩
    walk_at "rd"
    exact ratio_of h0 (lt_up (wide_lt hx.2 hy.2) (by decide)) q
@[irreducible] def spQuot (K : PySem.W.Frag) : Sp := fun vs H Q _ => ∃ (a b : Addr) (x y : Int × Int), vs = [.ref a, .ref b] ∧ SqT K H a [.int x.1, .int x.2] ∧ SqT K H b [.int y.1, .int y.2] ∧ x.2 * y.1 ≠ 0 ∧ Bits 300 x ∧ Bits 300 y ∧
  ∀ p H', Same H H' → H p = none → H' p = some (tp2 (low (x.1 * y.2) (x.2 * y.1))) → Q (.ref p) H'
set_option exponentiation.threshold 10000 in
theorem ok_quotient {f : Addr} {fd : FuncData} (F : Fun K "quotient" "quotient" s_quotient f fd) (C_ratio : CRatio P w K mg base) : FnOk P w K mg base CX0 2 f fd ["first", "second"] (spQuot K) := by
  refine F.ok sc_quotient (fun vs H Q E h => ?_) (fun cdv A outer s H vs Q E hr h => ?_)
  · unfold spQuot at h
    obtain ⟨a, b, x, y, rfl, _⟩ := h
    rfl
  · unfold spQuot at h
    obtain ⟨a, b, x, y, rfl, ha, hb, h0, hx, hy, q⟩ := h
    refine ⟨_, (pss_one (ps_ret (pe_cal C_ratio (hr.mono (by decide)) (pa_cons (pe_op op_mulW (pe_ix ix_tup (pv 0) pe_int (fun _ _ => rfl)) (pe_ix ix_tup (pv 1) pe_int (fun _ _ => rfl))) (pa_cons (pe_op op_mulW (pe_ix ix_tup (pv 0) pe_int (fun _ _ => rfl)) (pe_ix ix_tup (pv 1) pe_int (fun _ _ => rfl))) pa_nil))))), ?_⟩
    walk_at "rd"
    refine ⟨_, _, _, _, rfl, rfl, ha, atI_nat (j := 0) rfl, ?_⟩
    walk_at "rd"
    refine ⟨_, _, _, _, rfl, rfl, hb, atI_nat (j := 1) rfl, ?_⟩
    walk_at "rd"
    refine ⟨wide_mul hx.1 hy.2 (by decide) (by decide) (by decide), ?_⟩
    walk_at "rd"
    refine ⟨_, _, _, _, rfl, rfl, ha, atI_nat (j := 1) rfl, ?_⟩
    walk_at "rd"
    refine ⟨_, _, _, _, rfl, rfl, hb, atI_nat (j := 0) rfl, ?_⟩
    walk_at "rd"
    refine ⟨wide_mul hx.2 hy.1 (by decide) (by decide) (by decide), ?_⟩
    walk_at "rd"
    exact ratio_of h0 (lt_up (wide_lt hx.2 hy.1) (by decide)) q
@[irreducible] def spBelow (K : PySem.W.Frag) : Sp := fun vs H Q _ => ∃ (a b : Addr) (x y : Int × Int), vs = [.ref a, .ref b] ∧ SqT K H a [.int x.1, .int x.2] ∧ SqT K H b [.int y.1, .int y.2] ∧ Bits 300 x ∧ Bits 300 y ∧ Q (.bl (decide (x.1 * y.2 < y.1 * x.2))) H
theorem ok_is_below {f : Addr} {fd : FuncData} (F : Fun K "is_below" "is_below" s_is_below f fd) : FnOk P w K mg base CX0 1 f fd ["first", "second"] (spBelow K) := by
  refine F.ok sc_is_below (fun vs H Q E h => ?_) (fun cdv A outer s H vs Q E hr h => ?_)
  · unfold spBelow at h
    obtain ⟨a, b, x, y, rfl, _⟩ := h
    rfl
  · unfold spBelow at h
    obtain ⟨a, b, x, y, rfl, ha, hb, hx, hy, q⟩ := h
    refine ⟨_, (pss_one (ps_ret (pe_cmpR op_lt (pe_op op_mulW (pe_ix ix_tup (pv 0) pe_int (fun _ _ => rfl)) (pe_ix ix_tup (pv 1) pe_int (fun _ _ => rfl))) (pe_op op_mulW (pe_ix ix_tup (pv 1) pe_int (fun _ _ => rfl)) (pe_ix ix_tup (pv 0) pe_int (fun _ _ => rfl))) (nomark _)))), ?_⟩
    walk_at "rd"
    refine ⟨_, _, _, _, rfl, rfl, ha, atI_nat (j := 0) rfl, ?_⟩
    walk_at "rd"
    refine ⟨_, _, _, _, rfl, rfl, hb, atI_nat (j := 1) rfl, ?_⟩
    walk_at "rd"
    refine ⟨wide_mul hx.1 hy.2 (by decide) (by decide) (by decide), ?_⟩
    walk_at "rd"
    refine ⟨_, _, _, _, rfl, rfl, hb, atI_nat (j := 0) rfl, ?_⟩
    walk_at "rd"
    refine ⟨_, _, _, _, rfl, rfl, ha, atI_nat (j := 1) rfl, ?_⟩
    walk_at "rd"
    refine ⟨wide_mul hy.1 hx.2 (by decide) (by decide) (by decide), ?_⟩
    walk_at "rd"
    exact q
end
end K23
namespace K23
local macro_rules | `(tactic| walk_at "rd") => `(tactic| repeat (first | refine ⟨rfl, ?_⟩ | refine ⟨_, rfl, ?_⟩ | refine ⟨_, _, rfl, rfl, ?_⟩ | refine ⟨⟨_, rfl⟩, ?_⟩))
open PySem PySem.Spec PyProof.Rows L2 Bx TL Dx Zx Ow M23
section
variable {P : Program} {w : World} {K : PySem.W.Frag} {mg : Str → Option Value} {base : Heap}
def wtd (r : Str → Int × Int) (l : List Tr5) : List (Int × Int) := l.map fun x => (x.2 * (r x.1).1, (r x.1).2)
def RatAt (K : PySem.W.Frag) (H : Hp) (kvs : List (Key × V)) (r : Str → Int × Int) : Prop := ∀ n ∈ N5, (∃ ra, valV kvs (Sum.inr n) = some (.ref ra) ∧ SqT K H ra [.int (r n).1, .int (r n).2]) ∧ 0 < (r n).2 ∧ Bits 41 (r n)
theorem RatAt.same {H H' : Hp} {kvs : List (Key × V)} {r : Str → Int × Int} (s : Same H H') (h : RatAt K H kvs r) : RatAt K H' kvs r := fun n hn => by
  obtain ⟨⟨ra, e, h1⟩, h2⟩ := h n hn
  exact ⟨⟨ra, e, Bx.Same.tup s h1⟩, h2⟩
@[irreducible] def spRatioAt (K : PySem.W.Frag) : Sp := fun vs H Q _ => ∃ (T d : Addr) (zs : List V) (l : List Tr5) (kvs : List (Key × V)) (r : Str → Int × Int), vs = [.ref T, .ref d] ∧ SqT K H T zs ∧ DpAll K H zs (l.map tmD) ∧ l.length ≤ 5 ∧ (∀ x ∈ l, x.1 ∈ N5 ∧ x.2.natAbs < 2 ^ 50) ∧ H d = some (.dK kvs) ∧ RatAt K H kvs r ∧
  ∀ p H', Same H H' → H p = none → H' p = some (tp2 (low (addR (wtd r l)).1 (addR (wtd r l)).2)) → Q (.ref p) H'
def lws (r : Str → Int × Int) (l : List Tr5) : List (Int × Int) := l.map fun x => low (x.2 * (r x.1).1) (1 * (r x.1).2)
theorem lws_wtd {r : Str → Int × Int} {l : List Tr5} (h : ∀ x ∈ l, 0 < (r x.1).2) : low (addR (lws r l)).1 (addR (lws r l)).2 = low (addR (wtd r l)).1 (addR (wtd r l)).2 := by
  have p1 : 0 < (addR (lws r l)).2 := addR_pos fun p hp => by
    obtain ⟨x, hx, rfl⟩ := List.mem_map.mp hp
    have := h x hx
    exact (low_low (by omega)).pos
  have p2 : 0 < (addR (wtd r l)).2 := addR_pos fun p hp => by
    obtain ⟨x, hx, rfl⟩ := List.mem_map.mp hp
    exact h x hx
  refine low_uniq p1 p2 (addR_same _ _ (by unfold lws wtd; rw [List.length_map, List.length_map]) fun i p q e1 e2 => ?_)
  unfold lws at e1
  unfold wtd at e2
  rw [List.getElem?_map] at e1 e2
  cases e : l[i]? with
  | none =>
    rw [e] at e1
    cases e1
  | some x =>
    rw [e] at e1 e2
    cases e1
    cases e2
    have hp := h x (List.mem_of_getElem? e)
    have := low_val (t := x.2 * (r x.1).1) (b := 1 * (r x.1).2) (by omega)
    rw [Int.one_mul] at this
    dsimp only
    rw [Int.one_mul]
    exact this.symm
set_option exponentiation.threshold 10000 in
theorem ok_ratio_at {f : Addr} {fd : FuncData} (F : Fun K "ratio_at" "ratio_at" s_ratio_at f fd) (C_times : Cal P w K mg base "times" 2 ["first", "second"] (spTimes K)) (C_total : CalR P w K mg base "total" 2 (spTotal K)) : FnOk P w K mg base CX0 3 f fd ["terms", "assignment"] (spRatioAt K) := by
  refine F.ok sc_ratio_at (fun vs H Q E h => ?_) (fun cdv A outer s H vs Q E hr h => ?_)
  · unfold spRatioAt at h
    obtain ⟨T, d, zs, l, kvs, r, rfl, _⟩ := h
    rfl
  · unfold spRatioAt at h
    obtain ⟨T, d, zs, l, kvs, r, rfl, hT, hz, hl, hb, hd, hr2, q⟩ := h
    have hu := hu_of hr
    have hzl : zs.length = l.length := by rw [da_len hz, List.length_map]
    refine ⟨_, (pss_cons (ps_setLc (i := 2) (own := [("name", 3), ("coefficient", 4)]) (tt := tYes) rfl sc_ratio_at.nd rfl rfl (sw_true rfl rfl rfl (by decide +kernel)) (pi_tup (pv 0)) (blkOk_by (N := n_ratio_at) (sc := defScope s_ratio_at) (by decide +kernel)) (fun _ _ _ _ _ => pg_tupK (K := K) (n := 2) rfl rfl (pgs_cons (pg_name (i := 3) sc_ratio_at.nd rfl (Or.inl rfl)) (pgs_cons (pg_name (i := 4) sc_ratio_at.nd rfl (Or.inl rfl)) pgs_nil))) (fun _ _ _ _ _ => pts_nil) (fun _ _ _ _ _ => (pe_cal C_times (hr.mono (by decide)) (pa_cons (pe_tup (pa_cons (pv 4) (pa_cons pe_int pa_nil))) (pa_cons (pe_dget hu (pv 1) (pv 3) (fun _ _ => rfl)) pa_nil)))))
    (pss_one (ps_ret (pe_calS C_total (hr.mono (by decide)) (pv 2))))), ?_⟩
    walk_at "rd"
    refine ⟨⟨_, hT⟩, fun M nM => ?_⟩
    refine lc_it walk_tup (fun n H' => ∃ us, H' M = some (.lst us) ∧ DpAll K (mn H' [M]) us ((lws r (l.take n)).map prD) ∧ Same H H') ⟨[], upd_same, .nil, same_new nM⟩ (fun n H' _ ⟨_, _, _, s⟩ => Bx.Same.tup s hT) ?_ ?_
    · rintro n x H1 H2 hi ⟨us, hM, dM, s2⟩ ⟨rfl, hx⟩
      obtain ⟨y, hy, pa, rfl, hpa⟩ := tm_at hz hx
      have hym := List.mem_of_getElem? hy
      obtain ⟨hy5, hyb⟩ := hb y hym
      obtain ⟨⟨ra, era, hra⟩, hpos, hbits⟩ := hr2 y.1 hy5
      have hnl := (List.getElem?_eq_some_iff.mp hy).1
      have hul : us.length < 100000 := by
        rw [da_len dM, List.length_map, lws, List.length_map, List.length_take]
        omega
      refine ⟨_, _, rfl, Bx.Same.tup s2 hpa, rfl, _, _, rfl, _, _, rfl, rfl, rfl, ?_⟩
      walk_at "rd"
      refine ⟨sz (by show 2 ≤ 100000; decide), fun t nt => ?_⟩
      have st := same_new nt (o := .tup [V.int y.2, V.int 1])
      walk_at "rd"
      refine ⟨d, _, rfl, era ▸ DGet.k (k := Sum.inr y.1) (st _ _ (s2 _ _ hd)), ?_⟩
      walk_at "rd"
      unfold spTimes
      refine ⟨t, ra, (y.2, 1), r y.1, rfl, sqt upd_same, Bx.Same.tup (Same.trans s2 st) hra, by show 1 * (r y.1).2 ≠ 0; omega, ⟨lt_up hyb (by decide), by show (1 : Int).natAbs < 2 ^ 300; decide +kernel⟩, bits_up hbits (by decide), fun p H3 s3 np hp => ?_⟩
      have st3 := Same.trans st s3
      refine ⟨us, st3 _ _ hM, szl hul, us ++ [.ref p], upd_same, ?_, same_at nM (Same.trans s2 st3)⟩
      rw [mn_upd (S := [M]) List.mem_cons_self]
      have e : lws r (l.take (n + 1)) = lws r (l.take n) ++ [low (y.2 * (r y.1).1) (1 * (r y.1).2)] := by
        unfold lws
        rw [List.take_add_one, hy, List.map_append]
        rfl
      rw [e, List.map_append]
      refine da_app (dpAll_same (mn_all st3) dM) (da_one (pr_dp (sqt (mn_at ?_ hp))))
      exact fun z => ne_of_none (st _ _ hM) np (List.mem_singleton.mp z).symm
    · rintro H3 ⟨us, hM, dM, s3⟩
      rw [hzl, List.take_length] at dM
      have d3 := dpAll_same mn_same dM
      walk_at "rd"
      refine ⟨M, us, rfl, .inr (sq hM), lws r l, d3, by rw [lws, List.length_map]; omega, fun p hp => ?_, fun p H4 s4 np hp => ?_⟩
      · obtain ⟨x, hx, rfl⟩ := List.mem_map.mp hp
        obtain ⟨h1, h2⟩ := hb x hx
        obtain ⟨_, h3, h4⟩ := hr2 x.1 h1
        refine ⟨(low_low (by omega)).pos, bits_low (by omega) ⟨?_, ?_⟩⟩
        · exact lt_up (wide_lt h2 h4.1) (by decide)
        · rw [Int.one_mul]
          exact lt_up h4.2 (by decide)
      · refine q p H4 (Same.trans s3 s4) (s3.free np) ?_
        rw [lws_wtd fun x hx => (hr2 x.1 (hb x hx).1).2.1] at hp
        exact hp
/-! ### is_terms -/
def okT (l : List Tr5) : Bool := ascB (l.map (·.1)) && l.all fun x => decide (x.2 ≠ 0)
@[irreducible] def spIsTerms (K : PySem.W.Frag) : Sp := fun vs H Q _ => ∃ (T : Addr) (zs : List V) (l : List Tr5), vs = [.ref T] ∧ SqT K H T zs ∧ DpAll K H zs (l.map tmD) ∧ l.length ≤ 60 ∧ (∀ x ∈ l, PyData.strOk x.1 = true) ∧ ∀ H', Same H H' → Q (.bl (okT l)) H'
theorem ok_is_terms {f : Addr} {fd : FuncData} (F : Fun K "is_terms" "is_terms" s_is_terms f fd) (C_is_ascending : Cal P w K mg base "is_ascending" 1 ["values"] (spAsc K)) (m_all : mg "all" = none) : FnOk P w K mg base CX0 2 f fd ["terms"] (spIsTerms K) := by
  refine F.ok sc_is_terms (fun vs H Q E h => ?_) (fun cdv A outer s H vs Q E hr h => ?_)
  · unfold spIsTerms at h
    obtain ⟨T, zs, l, rfl, _⟩ := h
    rfl
  · unfold spIsTerms at h
    obtain ⟨T, zs, l, rfl, hT, hz, hl, hok, q⟩ := h
    refine ⟨_, (pss_one (ps_ret (pe_and (pe_cal C_is_ascending (hr.mono (by decide)) (pa_cons (pe_lc (own := [("name", 1), ("_", 2)]) (tt := tYes) rfl sc_is_terms.nd (pi_tup (pv 0)) (blkOk_by (N := n_is_terms) (sc := defScope s_is_terms) (by decide +kernel)) (fun _ _ _ _ _ => pg_tupK (K := K) (n := 2) rfl rfl (pgs_cons (pg_name (i := 1) sc_is_terms.nd rfl (Or.inl rfl)) (pgs_cons (pg_name (i := 2) sc_is_terms.nd rfl (Or.inl rfl)) pgs_nil))) (fun _ _ _ _ _ => pts_nil) (fun _ _ _ _ _ => (pv 1))) pa_nil)) (pe_one (pe_callB (id := "all") (cr_all rfl) (by rfl) m_all (by decide +kernel) (pa_cons (pe_lc (own := [("_", 2), ("number", 3)]) (tt := tYes) rfl sc_is_terms.nd (pi_tup (pv 0)) (blkOk_by (N := n_is_terms) (sc := defScope s_is_terms) (by decide +kernel)) (fun _ _ _ _ _ => pg_tupK (K := K) (n := 2) rfl rfl (pgs_cons (pg_name (i := 2) sc_is_terms.nd rfl (Or.inl rfl)) (pgs_cons (pg_name (i := 3) sc_is_terms.nd rfl (Or.inl rfl)) pgs_nil))) (fun _ _ _ _ _ => pts_nil) (fun _ _ _ _ _ => (pe_cmpR op_ne (pv 3) pe_int (nomark _)))) pa_nil)))))), ?_⟩
    walk_at "rd"
    refine ⟨⟨_, hT⟩, fun M nM => ?_⟩
    refine lc_vals hT hz hl (fun x => .str x.1) nM (fun _ _ => rfl) (fun x H' Z _ _ z => ?_) (fun H1 s1 hM => ?_)
    · walk_at "rd"
      exact z
    · have hs : SqL K H1 M ((l.map (·.1)).map V.str) := by
        rw [List.map_map]
        exact sq hM
      refine ⟨M, l.map (·.1), rfl, .inl hs, by rw [List.length_map]; omega, fun y hy => ?_, fun H2 s2 => ?_⟩
      · obtain ⟨x, hx, rfl⟩ := List.mem_map.mp hy
        exact hok x hx
      · have s12 := Same.trans s1 s2
        have hsp := q
        refine ⟨_, rfl, ite2 (fun h0 => ?_) (fun h0 => ?_)⟩
        · walk_at "rd"
          refine ⟨⟨_, Bx.Same.tup s12 hT⟩, fun N nN => ?_⟩
          refine lc_vals (Bx.Same.tup s12 hT) (dpAll_same s12 hz) hl (fun x => .bl (!decide (V.int x.2 = V.int 0))) nN (fun _ _ => rfl) (fun x H' Z _ _ z => ?_) (fun H3 s3 hN => ?_)
          · walk_at "rd"
            exact z
          · refine ⟨N, l.map (fun x : Tr5 => !decide (V.int x.2 = V.int 0)), rfl, sq (by rw [hN, List.map_map]; rfl), ?_⟩
            have e : okT l = (l.map fun x : Tr5 => !decide (V.int x.2 = V.int 0)).all id := by
              unfold okT
              rw [h0, Bool.true_and, List.all_map]
              refine List.all_congr rfl fun x => ?_
              show decide (x.2 ≠ 0) = !decide (V.int x.2 = V.int 0)
              by_cases hx : x.2 = 0
              · rw [hx]
                rfl
              · rw [decide_eq_true hx, decide_eq_false (show ¬ V.int x.2 = V.int 0 from fun z => hx (V.int.inj z))]
                rfl
            rw [← e]
            exact q H3 (Same.trans s12 s3)
        · have e : okT l = false := by
            unfold okT
            rw [Bool.eq_false_iff.mpr h0, Bool.false_and]
          have := q H2 s12
          rw [e] at this
          exact this
/-! ### __iter__ -/
theorem it_mk {C : Addr} (cf : CF K C) {f : Addr} {fd : FuncData} (F : Fun K "__iter__" "Sum.__iter__" s_Sum___iter__ f fd) (m_iter : mg "iter" = none) (hfi : PySem.W.findIn K (.ref C) "__iter__" = some (some (.ref f))) (hf : PySem.W.isFn K (.ref f) = true) (hb : Binds K fd ["self"] []) : ItM P w K mg base C "terms" 1 := by
  obtain ⟨oc, od, kV, doc, pm, an, cdv, ct, osl, rfl, lk, hcd⟩ := F.ex
  refine ⟨f, hfi, hf, fun A outer s H E p dx t fs zs hr e0 hp hl hz => ?_⟩
  refine run_here (us := [.ref p]) (vs := [.ref p]) (ps := ["self"]) (k := 0) lk hcd sc_Sum___iter__ hr e0 ?_ (.cons rfl .nil) rfl fun hr0 => ?_
  · exact hb s [.ref p] (e0.mod.kin.keeps (fun a b z => (e0.bs a b z).1)) rfl
  · refine ⟨_, PSs.nox ((pss_one (ps_ret (pe_callB (id := "iter") call_iterT (by rfl) m_iter (by decide +kernel) (pa_cons (pe_fld (pv 0) rfl) pa_nil))))), ?_⟩
    walk_at "rd"
    refine ⟨p, C, dx, fs, _, rfl, hp, cf.cl, cf.nT, hl, ?_⟩
    walk_at "rd"
    refine ⟨t, zs, rfl, hz, fun it n1 hy => ?_⟩
    exact ⟨it, rfl, n1, hy, rfl⟩
end
end K23
namespace K23
local macro_rules | `(tactic| walk_at "rd") => `(tactic| repeat (first | refine ⟨rfl, ?_⟩ | refine ⟨_, rfl, ?_⟩ | refine ⟨_, _, rfl, rfl, ?_⟩ | refine ⟨⟨_, rfl⟩, ?_⟩))
open PySem PySem.Spec PyProof.Rows L2 Bx TL Dx Zx Ow M23 M30
section
variable {P : Program} {w : World} {K : PySem.W.Frag} {mg : Str → Option Value} {base : Heap}
/-! ### the law's own: draws -/
theorem int_at {ns : List Int} {k : Nat} (h : k < ns.length) : atI (ns.map V.int) (k : Int) = some (V.int ns[k]) := atI_nat (by rw [List.getElem?_map, List.getElem?_eq_getElem h]; rfl)
def spSource (K : PySem.W.Frag) : Sp := fun vs H Q _ => ∃ (a : Addr) (ns : List Int) (k : Nat), vs = [.ref a, .int (k : Int)] ∧ SqL K H a (ns.map V.int) ∧ k ≤ 100 ∧ ∀ p n c, H p = none → Q (.ref p) (upd H p (.lst [.int n, .int c]))
theorem ok_source {f : Addr} {fd : FuncData} (F : Fun K "_law_source" "_law_source" s__law_source f fd) (m_len : mg "len" = none) (m_int : mg "int" = none) : FnOk P w K mg base CX0 1 f fd ["_law_script", "_law_k"] (spSource K) := by
  refine F.ok sc__law_source (fun vs H Q E h => ?_) (fun cdv A outer s H vs Q E hr h => ?_)
  · obtain ⟨a, ns, k, rfl, _⟩ := h
    rfl
  · obtain ⟨a, ns, k, rfl, hS, hk, q⟩ := h
    refine ⟨_, (pss_cons (ps_set (i := 2) sc__law_source.nd rfl (Or.inl rfl) pe_int)
    (pss_cons (ps_if (pt_cmpR op_lt (pv 1) (pe_callB call_len_seq (by rfl) m_len PySem.boot_len (pa_cons (pv 0) pa_nil)) (nomark _))
      (pss_one (ps_set (i := 2) sc__law_source.nd rfl (Or.inl rfl) (pe_callTy (T := "int") call_int1 (by rfl) m_int (by decide +kernel) (pa_cons (pe_ix ix_list (pv 0) (pv 1) (fun _ _ => rfl)) pa_nil))))
      pss_nil)
    (pss_one (ps_ret (pe_lst (pa_cons (pv 2) (pa_cons (pe_op op_add (pe_op op_mul pe_int (pv 1)) (pe_callB call_len_seq (by rfl) m_len PySem.boot_len (pa_cons (pv 0) pa_nil))) pa_nil))))))), ?_⟩
    walk_at "rd"
    refine ⟨_, _, rfl, .inl hS, ?_⟩
    walk_at "rd"
    refine ite2 (fun h0 => ?_) (fun h0 => ?_)
    · have h1 : (k : Int) < ((ns.map V.int).length : Nat) := of_decide_eq_true h0
      rw [List.length_map] at h1
      walk_at "rd"
      refine ⟨_, _, _, _, rfl, rfl, hS, int_at (k := k) (by omega), ?_⟩
      refine .inl ⟨_, rfl, ?_⟩
      walk_at "rd"
      refine ⟨.inr ⟨by omega, by omega⟩, ?_⟩
      walk_at "rd"
      refine ⟨_, _, rfl, .inl hS, ?_⟩
      walk_at "rd"
      exact ⟨sz (by show 2 ≤ 100000; decide), fun p np => q p _ _ np⟩
    · walk_at "rd"
      refine ⟨.inr ⟨by omega, by omega⟩, ?_⟩
      walk_at "rd"
      refine ⟨_, _, rfl, .inl hS, ?_⟩
      walk_at "rd"
      exact ⟨sz (by show 2 ≤ 100000; decide), fun p np => q p _ _ np⟩
theorem modb (x : Int) {k : Int} (h : 0 < k) (h2 : k ≤ 2 ^ 64) : -(2 ^ 64) < x % k ∧ x % k < 2 ^ 64 := by
  have a := Int.emod_nonneg x (show k ≠ 0 by omega)
  have b := Int.emod_lt_of_pos x h
  omega
@[irreducible] def spDraw : Sp := fun vs H Q _ => ∃ (a : Addr) (n c lim : Int), vs = [.ref a, .int lim] ∧ H a = some (.lst [.int n, .int c]) ∧ 0 < lim ∧ lim < 1073741824 ∧ ∀ r n' c', 0 ≤ r → r < lim → Q (.int r) (upd H a (.lst [.int n', .int c']))
theorem ok_draw {f : Addr} {fd : FuncData} (F : Fun K "_law_draw" "_law_draw" s__law_draw f fd) (m_int : mg "int" = none) : FnOk P w K mg base CX0 1 f fd ["_law_source_here", "_law_limit"] spDraw := by
  refine F.ok sc__law_draw (fun vs H Q E h => ?_) (fun cdv A outer s H vs Q E hr h => ?_)
  · unfold spDraw at h
    obtain ⟨a, n, c, lim, rfl, _⟩ := h
    rfl
  · unfold spDraw at h
    obtain ⟨a, n, c, lim, rfl, hA, h0, h1, q⟩ := h
    have hfm : ∀ x : Int, 0 ≤ x.fmod lim ∧ x.fmod lim < lim := fun x => by
      rw [Int.fmod_eq_emod_of_nonneg _ (by omega)]
      exact ⟨Int.emod_nonneg _ (by omega), Int.emod_lt_of_pos _ h0⟩
    refine ⟨_, (pss_cons (ps_set (i := 2) sc__law_draw.nd rfl (Or.inl rfl) (pe_ix ix_list (pv 0) pe_int (fun _ _ => rfl)))
    (pss_cons (ps_if (pt_cmpR op_ge (pv 2) (pe_op op_pow pe_int pe_int) (nomark _))
      (pss_cons (ps_asg (pe_op op_fdivN (pv 2) (pv 1)) (pg_sub (pv 0) pe_int set_list))
    (pss_one (ps_ret (pe_op op_modN (pe_callTy (T := "int") call_int1 (by rfl) m_int (by decide +kernel) (pa_cons (pv 2) pa_nil)) (pv 1)))))
      pss_nil)
    (pss_cons (ps_asg (pe_op op_add (pe_ix ix_list (pv 0) pe_int (fun _ _ => rfl)) pe_int) (pg_sub (pv 0) pe_int set_list))
    (pss_cons (ps_set (i := 3) sc__law_draw.nd rfl (Or.inl rfl) (pe_op op_mod (pe_callTy (T := "int") call_int1 (by rfl) m_int (by decide +kernel) (pa_cons (pe_op op_add (pe_op op_add (pe_op op_mul (pv 2) pe_int) (pe_op op_mul (pe_ix ix_list (pv 0) pe_int (fun _ _ => rfl)) pe_int)) pe_int) pa_nil)) pe_int))
    (pss_cons (ps_set (i := 3) sc__law_draw.nd rfl (Or.inl rfl) (pe_op op_mod (pe_callTy (T := "int") call_int1 (by rfl) m_int (by decide +kernel) (pa_cons (pe_op op_add (pe_op op_add (pe_op op_mul (pv 3) (pv 3)) (pv 2)) (pe_op op_mul (pe_ix ix_list (pv 0) pe_int (fun _ _ => rfl)) pe_int)) pa_nil)) pe_int))
    (pss_cons (ps_set (i := 3) sc__law_draw.nd rfl (Or.inl rfl) (pe_op op_mod (pe_callTy (T := "int") call_int1 (by rfl) m_int (by decide +kernel) (pa_cons (pe_op op_add (pe_op op_add (pe_op op_mul (pv 3) (pv 3)) (pe_op op_fdiv (pv 3) pe_int)) pe_int) pa_nil)) pe_int))
    (pss_one (ps_ret (pe_op op_modN (pe_op op_fdiv (pe_callTy (T := "int") call_int1 (by rfl) m_int (by decide +kernel) (pa_cons (pv 3) pa_nil)) pe_int) (pv 1)))))))))), ?_⟩
    walk_at "rd"
    refine ⟨_, _, _, _, rfl, rfl, sq hA, atI_nat (j := 0) rfl, ?_⟩
    walk_at "rd"
    refine ⟨⟨by decide, by decide, by decide⟩, ?_⟩
    walk_at "rd"
    refine ite2 (fun hb => ?_) (fun hb => ?_)
    · walk_at "rd"
      refine ⟨⟨by omega, by omega⟩, ?_⟩
      walk_at "rd"
      refine ⟨_, _, _, 0, rfl, rfl, hA, rfl, ?_⟩
      walk_at "rd"
      refine .inl ⟨_, rfl, ?_⟩
      walk_at "rd"
      refine ⟨by omega, ?_⟩
      exact q _ _ _ (hfm _).1 (hfm _).2
    · walk_at "rd"
      refine ⟨_, _, _, _, rfl, rfl, sq hA, atI_nat (j := 1) rfl, ?_⟩
      walk_at "rd"
      refine ⟨_, _, _, 1, rfl, rfl, hA, rfl, ?_⟩
      -- the first mixing
      walk_at "rd"
      refine ⟨.inr ⟨by decide, by decide⟩, ?_⟩
      walk_at "rd"
      refine ⟨_, _, _, _, rfl, rfl, sq upd_same, atI_nat (j := 1) rfl, ?_⟩
      walk_at "rd"
      refine ⟨.inr ⟨by decide, by decide⟩, ?_⟩
      walk_at "rd"
      refine .inl ⟨_, rfl, ?_⟩
      walk_at "rd"
      refine ⟨by show (0 : Int) < 2147483647; decide, ?_⟩
      -- the second
      walk_at "rd"
      refine ⟨.inl (modb _ (by decide) (by decide)), ?_⟩
      walk_at "rd"
      refine ⟨_, _, _, _, rfl, rfl, sq upd_same, atI_nat (j := 1) rfl, ?_⟩
      walk_at "rd"
      refine ⟨.inr ⟨by decide, by decide⟩, ?_⟩
      walk_at "rd"
      refine .inl ⟨_, rfl, ?_⟩
      walk_at "rd"
      refine ⟨by show (0 : Int) < 2147483629; decide, ?_⟩
      -- the third
      walk_at "rd"
      refine ⟨.inl (modb _ (by decide) (by decide)), ?_⟩
      walk_at "rd"
      refine ⟨⟨by decide, by decide⟩, ?_⟩
      walk_at "rd"
      refine .inl ⟨_, rfl, ?_⟩
      walk_at "rd"
      refine ⟨by show (0 : Int) < 2147483587; decide, ?_⟩
      -- the answer
      walk_at "rd"
      refine .inl ⟨_, rfl, ?_⟩
      walk_at "rd"
      refine ⟨⟨by decide, by decide⟩, ?_⟩
      walk_at "rd"
      refine ⟨by omega, ?_⟩
      exact q _ _ _ (hfm _).1 (hfm _).2
/-- some other source, or none -/
theorem draw_of {H : Hp} {a : Addr} {lim : Int} {Q : VK} {E : XK} (hA : Src H a) (h0 : 0 < lim ∧ lim < 1073741824) (q : ∀ r H', 0 ≤ r → r < lim → SameBut a H H' → Src H' a → Q (.int r) H') : spDraw [.ref a, .int lim] H Q E := by
  obtain ⟨n, c, hA⟩ := hA
  unfold spDraw
  exact ⟨a, n, c, lim, rfl, hA, h0.1, h0.2, fun r n' c' h1 h2 => q r _ h1 h2 SameBut.upd ⟨n', c', upd_same⟩⟩


abbrev CDraw (P : Program) (w : World) (K : PySem.W.Frag) (mg : Str → Option Value) (base : Heap) : Prop := Cal P w K mg base "_law_draw" 1 ["_law_source_here", "_law_limit"] spDraw
/-! ### numbers -/
@[irreducible] def spSize : Sp := fun vs H Q _ => ∃ a : Addr, vs = [.ref a] ∧ Src H a ∧ ∀ r H', 0 ≤ r → r < 1000000000000 → SameBut a H H' → Src H' a → Q (.int r) H'
theorem ok_size {f : Addr} {fd : FuncData} (F : Fun K "_law_size" "_law_size" s__law_size f fd) (C__law_draw : CDraw P w K mg base) : FnOk P w K mg base CX0 2 f fd ["_law_source_here"] spSize := by
  refine F.ok sc__law_size (fun vs H Q E h => ?_) (fun cdv A outer s H vs Q E hr h => ?_)
  · unfold spSize at h
    obtain ⟨a, rfl, _⟩ := h
    rfl
  · unfold spSize at h
    obtain ⟨a, rfl, hA, q⟩ := h
    refine ⟨_, (pss_cons (ps_set (i := 1) sc__law_size.nd rfl (Or.inl rfl) (pe_cal C__law_draw (hr.mono (by decide)) (pa_cons (pv 0) (pa_cons pe_int pa_nil))))
    (pss_cons (ps_if (pt_cmpR op_eq (pv 1) pe_int (nomark _))
      (pss_one (ps_ret (pe_cal C__law_draw (hr.mono (by decide)) (pa_cons (pv 0) (pa_cons pe_int pa_nil)))))
      pss_nil)
    (pss_cons (ps_if (pt_cmpR op_eq (pv 1) pe_int (nomark _))
      (pss_one (ps_ret (pe_cal C__law_draw (hr.mono (by decide)) (pa_cons (pv 0) (pa_cons pe_int pa_nil)))))
      pss_nil)
    (pss_cons (ps_if (pt_cmpR op_eq (pv 1) pe_int (nomark _))
      (pss_one (ps_ret (pe_cal C__law_draw (hr.mono (by decide)) (pa_cons (pv 0) (pa_cons pe_int pa_nil)))))
      pss_nil)
    (pss_one (ps_ret (pe_op op_add (pe_op op_mulW (pe_cal C__law_draw (hr.mono (by decide)) (pa_cons (pv 0) (pa_cons pe_int pa_nil))) pe_int) (pe_cal C__law_draw (hr.mono (by decide)) (pa_cons (pv 0) (pa_cons pe_int pa_nil)))))))))), ?_⟩
    walk_at "rd"
    refine draw_of hA ⟨by decide, by decide⟩ fun r H1 r0 r1 s1 hA1 => ?_
    walk_at "rd"
    refine ite2 (fun h2 => ?_) (fun h2 => ?_)
    · walk_at "rd"
      exact draw_of hA1 ⟨by decide, by decide⟩ fun r H2 r0 r1 s2 hA2 => q r H2 r0 (by omega) (s1.trans s2) hA2
    · walk_at "rd"
      refine ite2 (fun h3 => ?_) (fun h3 => ?_)
      · walk_at "rd"
        exact draw_of hA1 ⟨by decide, by decide⟩ fun r H2 r0 r1 s2 hA2 => q r H2 r0 (by omega) (s1.trans s2) hA2
      · walk_at "rd"
        refine ite2 (fun h4 => ?_) (fun h4 => ?_)
        · walk_at "rd"
          exact draw_of hA1 ⟨by decide, by decide⟩ fun r H2 r0 r1 s2 hA2 => q r H2 r0 (by omega) (s1.trans s2) hA2
        · walk_at "rd"
          refine draw_of hA1 ⟨by decide, by decide⟩ fun x H2 x0 x1 s2 hA2 => ?_
          walk_at "rd"
          refine ⟨wide_mul (a := 20) (b := 20) (by omega) (by decide) (by decide) (by decide) (by decide), ?_⟩
          walk_at "rd"
          refine draw_of hA2 ⟨by decide, by decide⟩ fun y H3 y0 y1 s3 hA3 => ?_
          walk_at "rd"
          exact q _ H3 (by omega) (by omega) (s1.trans (s2.trans s3)) hA3
theorem size_of {H : Hp} {a : Addr} {Q : VK} {E : XK} (hA : Src H a) (q : ∀ r H', 0 ≤ r → r < 1000000000000 → SameBut a H H' → Src H' a → Q (.int r) H') : spSize [.ref a] H Q E := by
  unfold spSize
  exact ⟨a, rfl, hA, q⟩
@[irreducible] def spNumber : Sp := fun vs H Q _ => ∃ a : Addr, vs = [.ref a] ∧ Src H a ∧ ∀ r H', r.natAbs < 1000000000000 → SameBut a H H' → Src H' a → Q (.int r) H'
theorem ok_number {f : Addr} {fd : FuncData} (F : Fun K "_law_number" "_law_number" s__law_number f fd) (C__law_draw : CDraw P w K mg base) (C__law_size : Cal P w K mg base "_law_size" 2 ["_law_source_here"] spSize) : FnOk P w K mg base CX0 3 f fd ["_law_source_here"] spNumber := by
  refine F.ok sc__law_number (fun vs H Q E h => ?_) (fun cdv A outer s H vs Q E hr h => ?_)
  · unfold spNumber at h
    obtain ⟨a, rfl, _⟩ := h
    rfl
  · unfold spNumber at h
    obtain ⟨a, rfl, hA, q⟩ := h
    refine ⟨_, (pss_cons (ps_set (i := 1) sc__law_number.nd rfl (Or.inl rfl) (pe_cal C__law_size (hr.mono (by decide)) (pa_cons (pv 0) pa_nil)))
    (pss_cons (ps_if (pt_cmpR op_eq (pe_cal C__law_draw (hr.mono (by decide)) (pa_cons (pv 0) (pa_cons pe_int pa_nil))) pe_int (nomark _))
      (pss_one (ps_ret (pe_un un_neg (pv 1))))
      pss_nil)
    (pss_one (ps_ret (pv 1))))), ?_⟩
    walk_at "rd"
    refine size_of hA fun r H1 r0 r1 s1 hA1 => ?_
    walk_at "rd"
    refine draw_of hA1 ⟨by decide, by decide⟩ fun y H2 y0 y1 s2 hA2 => ?_
    walk_at "rd"
    refine ite2 (fun h2 => ?_) (fun h2 => ?_)
    · walk_at "rd"
      exact q _ H2 (by omega) (s1.trans s2) hA2
    · walk_at "rd"
      exact q _ H2 (by omega) (s1.trans s2) hA2
theorem number_of {H : Hp} {a : Addr} {Q : VK} {E : XK} (hA : Src H a) (q : ∀ r H', r.natAbs < 1000000000000 → SameBut a H H' → Src H' a → Q (.int r) H') : spNumber [.ref a] H Q E := by
  unfold spNumber
  exact ⟨a, rfl, hA, q⟩
def spShared : Sp := fun vs H Q _ => ∃ a b : Int, vs = [.int a, .int b] ∧ a.natAbs < 2 ^ 290 ∧ b.natAbs < 2 ^ 290 ∧ Q (.int (Int.gcd a b : Int)) H
set_option exponentiation.threshold 1000 in
theorem abs_b {a : Int} {n : Nat} (h : a.natAbs < n) : 0 ≤ (if a < 0 then -a else a) ∧ (if a < 0 then -a else a).toNat < n := by
  split <;> omega
theorem ok_shared {f : Addr} {fd : FuncData} (F : Fun K "_law_shared" "_law_shared" s__law_shared f fd) (m_abs : mg "abs" = none) (m_range : mg "range" = none) (m_int : mg "int" = none) : FnOk P w K mg base CX0 1 f fd ["_law_first", "_law_second"] spShared := by
  refine F.ok sc__law_shared (fun vs H Q E h => ?_) (fun cdv A outer s H vs Q E hr h => ?_)
  · obtain ⟨a, b, rfl, _⟩ := h
    rfl
  · obtain ⟨a, b, rfl, ha, hb, q⟩ := h
    refine ⟨_, (pss_cons (ps_set (i := 2) sc__law_shared.nd rfl (Or.inl rfl) (pe_callB call_abs (by rfl) m_abs (by decide +kernel) (pa_cons (pv 0) pa_nil)))
    (pss_cons (ps_set (i := 3) sc__law_shared.nd rfl (Or.inl rfl) (pe_callB call_abs (by rfl) m_abs (by decide +kernel) (pa_cons (pv 1) pa_nil)))
    (pss_cons (ps_for PassesOwn.never rfl (pi_range1 (by rfl) m_range (pa_cons pe_int pa_nil)) (pg_name (i := 4) sc__law_shared.nd rfl (Or.inl rfl))
      (pss_cons (ps_if (pt_cmpR op_eq (pv 3) pe_int (nomark _))
      (pss_one (ps_ret (pv 2)))
      pss_nil)
    (pss_cons (ps_set (i := 5) sc__law_shared.nd rfl (Or.inl rfl) (pe_op op_mod (pe_callTy (T := "int") call_int1 (by rfl) m_int (by decide +kernel) (pa_cons (pv 2) pa_nil)) (pv 3)))
    (pss_cons (ps_set (i := 2) sc__law_shared.nd rfl (Or.inl rfl) (pv 3))
    (pss_one (ps_set (i := 3) sc__law_shared.nd rfl (Or.inl rfl) (pv 5)))))))
    (pss_one (ps_ret (pv 2)))))), ?_⟩
    walk_at "rd"
    have ha2 := abs_b ha
    have hb2 := abs_b hb
    rw [← gcd_abs] at q
    generalize (if a < 0 then -a else a) = a0 at *
    generalize (if b < 0 then -b else b) = b0 at *
    refine ⟨by decide, by decide, for_it walk_range (fun i σ H' => ∃ (x y : Int) (o4 o5 : Option V), σ = [some (.int a), some (.int b), some (.int x), some (.int y), o4, o5] ∧ H' = H ∧ Eu a0 b0 i x y) ⟨a0, b0, none, none, rfl, rfl, eu_start ha2.1 hb2.1⟩ (fun _ _ _ _ _ => trivial) ?_ ?_⟩
    · rintro i z σ H1 H2 hi ⟨x, y, o4, o5, rfl, rfl, eu⟩ ⟨rfl, rfl⟩
      walk_at "rd"
      refine ite2 (fun h2 => ?_) (fun h2 => ?_)
      · have e := int_t h2
        subst e
        walk_at "rd"
        rw [eu_gcd eu]
        exact q
      · have e := int_f h2
        have hy := eu.nb
        walk_at "rd"
        refine .inl ⟨_, rfl, ?_⟩
        walk_at "rd"
        refine ⟨by omega, ?_⟩
        walk_at "rd"
        exact ⟨_, _, _, _, rfl, rfl, eu_turn eu e⟩
    · rintro σ H1 ⟨x, y, o4, o5, rfl, rfl, eu⟩
      walk_at "rd"
      have e := eu_end2 eu ha2.2 hb2.2
      subst e
      rw [eu_gcd eu]
      exact q
@[irreducible] def spLow : Sp := fun vs H Q _ => ∃ t b : Int, vs = [.int t, .int b] ∧ b ≠ 0 ∧ t.natAbs < 2 ^ 290 ∧ b.natAbs < 2 ^ 290 ∧ ∀ p H', Same H H' → H p = none → H' p = some (tp2 (low t b)) → Q (.ref p) H'
set_option exponentiation.threshold 10000 in
theorem ok_lowest {f : Addr} {fd : FuncData} (F : Fun K "_law_lowest" "_law_lowest" s__law_lowest f fd) (C__law_shared : Cal P w K mg base "_law_shared" 1 ["_law_first", "_law_second"] spShared) : FnOk P w K mg base CX0 2 f fd ["_law_top", "_law_bottom"] spLow := by
  refine F.ok sc__law_lowest (fun vs H Q E h => ?_) (fun cdv A outer s H vs Q E hr h => ?_)
  · unfold spLow at h
    obtain ⟨t, b, rfl, _⟩ := h
    rfl
  · unfold spLow at h
    obtain ⟨t, b, rfl, hb, ht2, hb2, q⟩ := h
    refine ⟨_, (pss_cons (ps_set (i := 2) sc__law_lowest.nd rfl (Or.inl rfl) (pe_cal C__law_shared (hr.mono (by decide)) (pa_cons (pv 0) (pa_cons (pv 1) pa_nil))))
    (pss_cons (ps_if (pt_cmpR op_lt (pv 1) pe_int (nomark _))
      (pss_one (ps_set (i := 2) sc__law_lowest.nd rfl (Or.inl rfl) (pe_un un_neg (pv 2))))
      pss_nil)
    (pss_one (ps_ret (pe_tup (pa_cons (pe_op op_fdivZ (pv 0) (pv 2)) (pa_cons (pe_op op_fdivZ (pv 1) (pv 2)) pa_nil))))))), ?_⟩
    have hg := gcd_pos (t := t) hb
    have hgb := gcd_lt (t := t) hb (lt_up hb2 (by decide))
    rw [← low_law hb] at q
    walk_at "rd"
    refine ⟨t, b, rfl, ht2, hb2, ?_⟩
    walk_at "rd"
    refine if_asg (fun v H' => v = .int (if b < 0 then -(Int.gcd t b : Int) else (Int.gcd t b : Int)) ∧ H' = H) rfl (fun h Z k => ?_) (fun h => ⟨by rw [if_neg (by simpa using h)], rfl⟩) ?_
    · walk_at "rd"
      exact k _ _ ⟨by rw [if_pos (by simpa using h)], rfl⟩
    rintro _ _ ⟨rfl, rfl⟩
    generalize hG : (if b < 0 then -(Int.gcd t b : Int) else (Int.gcd t b : Int)) = G at q ⊢
    have hG0 : G ≠ 0 ∧ G.natAbs < 2 ^ 3000 := by
      rw [← hG]
      split
      · rw [Int.natAbs_neg]
        exact ⟨by omega, hgb⟩
      · exact ⟨by omega, hgb⟩
    have hw : ∀ x, CDivZ x G := fun x => wide_divZ hG0.1 hG0.2 (by decide) (by decide)
    walk_at "rd"
    refine ⟨hw _, ?_⟩
    walk_at "rd"
    refine ⟨hw _, ?_⟩
    walk_at "rd"
    exact ⟨sz (by show 2 ≤ 100000; decide), fun p np => q p _ (same_new np) np upd_same⟩
theorem lowest_of {H : Hp} {t b : Int} {Q : VK} {E : XK} (hb : b ≠ 0) (h1 : t.natAbs < 2 ^ 290) (h2 : b.natAbs < 2 ^ 290) (q : ∀ p H', Same H H' → H p = none → H' p = some (tp2 (low t b)) → Q (.ref p) H') : spLow [.int t, .int b] H Q E := by
  unfold spLow
  exact ⟨t, b, rfl, hb, h1, h2, q⟩
theorem n41 {x : Int} (h : x.natAbs < 1000000000000) : x.natAbs < 2 ^ 40 := by omega
@[irreducible] def spRat : Sp := fun vs H Q _ => ∃ a : Addr, vs = [.ref a] ∧ Src H a ∧ ∀ p r H', SameBut a H H' → Src H' a → H p = none → H' p = some (tp2 r) → 0 < r.2 → Bits 41 r → Q (.ref p) H'
theorem ok_law_ratio {f : Addr} {fd : FuncData} (F : Fun K "_law_ratio" "_law_ratio" s__law_ratio f fd) (C__law_number : Cal P w K mg base "_law_number" 3 ["_law_source_here"] spNumber) (C__law_size : Cal P w K mg base "_law_size" 2 ["_law_source_here"] spSize) (C__law_lowest : Cal P w K mg base "_law_lowest" 2 ["_law_top", "_law_bottom"] spLow) :
    FnOk P w K mg base CX0 4 f fd ["_law_source_here"] spRat := by
  refine F.ok sc__law_ratio (fun vs H Q E h => ?_) (fun cdv A outer s H vs Q E hr h => ?_)
  · unfold spRat at h
    obtain ⟨a, rfl, _⟩ := h
    rfl
  · unfold spRat at h
    obtain ⟨a, rfl, hA, q⟩ := h
    refine ⟨_, (pss_cons (ps_set (i := 1) sc__law_ratio.nd rfl (Or.inl rfl) (pe_cal C__law_number (hr.mono (by decide)) (pa_cons (pv 0) pa_nil)))
    (pss_one (ps_ret (pe_cal C__law_lowest (hr.mono (by decide)) (pa_cons (pv 1) (pa_cons (pe_op op_add pe_int (pe_cal C__law_size (hr.mono (by decide)) (pa_cons (pv 0) pa_nil))) pa_nil)))))), ?_⟩
    walk_at "rd"
    refine number_of hA fun t H1 t1 s1 hA1 => ?_
    walk_at "rd"
    refine size_of hA1 fun b H2 b0 b1 s2 hA2 => ?_
    walk_at "rd"
    have hb : (1 + b).natAbs < 2 ^ 41 := by omega
    have s12 := s1.trans s2
    refine lowest_of (by omega) (lt_up (n41 t1) (by decide)) (lt_up hb (by decide)) fun p H3 s3 np hp => ?_
    refine q p _ H3 (s12.trans (Bx.Same.but s3)) (src_same hA2 s3) ?_ hp (low_low (by omega)).pos (bits_low (by omega) ⟨lt_up (n41 t1) (by decide), hb⟩)
    exact but_free s12 (fun e => by rw [e] at np; obtain ⟨n, c, z⟩ := hA2; rw [z] at np; cases np) np
theorem rat_of {H : Hp} {a : Addr} {Q : VK} {E : XK} (hA : Src H a) (q : ∀ p r H', SameBut a H H' → Src H' a → H p = none → H' p = some (tp2 r) → 0 < r.2 → Bits 41 r → Q (.ref p) H') : spRat [.ref a] H Q E := by
  unfold spRat
  exact ⟨a, rfl, hA, q⟩
/-! ### is, added, total -/
@[irreducible] def spIs (K : PySem.W.Frag) : Sp := fun vs H Q _ => ∃ (a b : Addr) (x : Int × Int), vs = [.ref a, .ref b] ∧ SqT K H a [.int x.1, .int x.2] ∧ SqT K H b [.int x.1, .int x.2] ∧ Q (.bl true) H
theorem ok_is {f : Addr} {fd : FuncData} (F : Fun K "_law_is" "_law_is" s__law_is f fd) (m_isinstance : mg "isinstance" = none) (m_len : mg "len" = none) (m_tuple : mg "tuple" = none) (m_int : mg "int" = none) (m_bool : mg "bool" = none) (m_range : mg "range" = none) : FnOk P w K mg base CX0 1 f fd ["_law_actual", "_law_expected"] (spIs K) := by
  refine F.ok sc__law_is (fun vs H Q E h => ?_) (fun cdv A outer s H vs Q E hr h => ?_)
  · unfold spIs at h
    obtain ⟨a, b, x, rfl, _⟩ := h
    rfl
  · unfold spIs at h
    obtain ⟨a, b, x, rfl, ha, hb, q⟩ := h
    refine ⟨_, (pss_cons (ps_if (PW.pt (pw_or (pt_not (pt_val (pe_callB (id := "isinstance") call_isi (by rfl) m_isinstance (by decide +kernel) (pa_cons (pv 0) (pa_cons (pe_bltn (v := .ty "tuple") (by rfl) m_tuple (by decide +kernel) rfl) pa_nil))))) (pw_or1 (pt_cmpR op_ne (pe_callB call_len_seq (by rfl) m_len PySem.boot_len (pa_cons (pv 0) pa_nil)) pe_int (nomark _)))))
      (pss_one (ps_ret pe_bl))
      pss_nil)
    (pss_cons (ps_for PassesOwn.never rfl (pi_range1 (by rfl) m_range (pa_cons pe_int pa_nil)) (pg_name (i := 2) sc__law_is.nd rfl (Or.inl rfl))
      (pss_one (ps_if (PW.pt (pw_or (pt_not (pt_val (pe_callB (id := "isinstance") call_isi (by rfl) m_isinstance (by decide +kernel) (pa_cons (pe_ix ix_tup (pv 0) (pv 2) (fun _ _ => rfl)) (pa_cons (pe_bltn (v := .ty "int") (by rfl) m_int (by decide +kernel) rfl) pa_nil))))) (pw_or (pt_val (pe_callB (id := "isinstance") call_isi (by rfl) m_isinstance (by decide +kernel) (pa_cons (pe_ix ix_tup (pv 0) (pv 2) (fun _ _ => rfl)) (pa_cons (pe_bltn (v := .ty "bool") (by rfl) m_bool (by decide +kernel) rfl) pa_nil)))) (pw_or1 (pt_cmpR op_ne (pe_ix ix_tup (pv 0) (pv 2) (fun _ _ => rfl)) (pe_ix ix_tup (pv 1) (pv 2) (fun _ _ => rfl)) (nomark _))))))
      (pss_one (ps_ret pe_bl))
      pss_nil)))
    (pss_one (ps_ret pe_bl)))), ?_⟩
    walk_at "rd"
    refine ⟨_, _, _, _, true, rfl, .ty "tuple", ty_tup ha, kit_ty (by decide +kernel), ?_⟩
    walk_at "rd"
    refine ⟨_, _, rfl, .inr ha, ?_⟩
    walk_at "rd"
    refine ⟨by decide, by decide, for_it walk_range (fun i σ H' => ∃ o2 : Option V, σ = [some (.ref a), some (.ref b), o2] ∧ H' = H) ⟨none, rfl, rfl⟩ (fun _ _ _ _ _ => trivial) ?_ ?_⟩
    · rintro i z σ H1 H2 hi ⟨o2, rfl, rfl⟩ ⟨rfl, rfl⟩
      have hi2 : i < 2 := by simpa using hi
      obtain ⟨n, hn⟩ : ∃ n : Int, [V.int x.1, V.int x.2][i]? = some (.int n) := by
        match i, hi2 with
        | 0, _ => exact ⟨_, rfl⟩
        | 1, _ => exact ⟨_, rfl⟩
      have hat : atI [V.int x.1, V.int x.2] (0 + (i : Int)) = some (.int n) := by
        rw [Int.zero_add]
        exact atI_nat hn
      walk_at "rd"
      refine ⟨_, _, _, _, rfl, rfl, ha, hat, ?_⟩
      walk_at "rd"
      refine ⟨_, _, _, _, true, rfl, .ty "int", .base (.int n), kit_ty (by decide +kernel), ?_⟩
      walk_at "rd"
      refine ⟨_, _, _, _, rfl, rfl, ha, hat, ?_⟩
      walk_at "rd"
      refine ⟨_, _, _, _, false, rfl, .ty "bool", .base (.int n), kit_ty (by decide +kernel), ?_⟩
      walk_at "rd"
      refine ⟨_, _, _, _, rfl, rfl, ha, hat, ?_⟩
      walk_at "rd"
      refine ⟨_, _, _, _, rfl, rfl, hb, hat, ?_⟩
      walk_at "rd"
      refine ite2 (fun h => absurd rfl (int_nt h)) (fun _ => ?_)
      exact ⟨_, rfl, rfl⟩
    · rintro σ H1 ⟨o2, rfl, rfl⟩
      walk_at "rd"
      exact q
theorem is_of {H : Hp} {a b : Addr} {x : Int × Int} {Q : VK} {E : XK} (ha : SqT K H a [.int x.1, .int x.2]) (hb : SqT K H b [.int x.1, .int x.2]) (q : Q (.bl true) H) : spIs K [.ref a, .ref b] H Q E := by
  unfold spIs
  exact ⟨a, b, x, rfl, ha, hb, q⟩
/-- parts: fractions with positive bottoms, not too great -/
def Parts (ps : List (Int × Int)) : Prop := ps.length ≤ 5 ∧ ∀ p ∈ ps, 0 < p.2 ∧ p.1.natAbs < 2 ^ 84 ∧ p.2.natAbs < 2 ^ 41
theorem parts_take {ps : List (Int × Int)} (h : Parts ps) (n : Nat) : Parts (ps.take n) := ⟨by rw [List.length_take]; have := h.1; omega, take_all h.2 n⟩
theorem parts_size {ps : List (Int × Int)} (h : Parts ps) : (addR ps).1.natAbs < 2 ^ 252 ∧ (addR ps).2.natAbs < 2 ^ 252 := by
  have z := addR_size2 41 43 ps fun p hp => ⟨Nat.le_of_lt (h.2 p hp).2.1, Nat.le_of_lt (h.2 p hp).2.2⟩
  have k : 2 ^ (ps.length * 41 + 43) ≤ 2 ^ 248 := Nat.pow_le_pow_right (by decide) (by have := h.1; omega)
  have k2 : 2 ^ (ps.length * 41) ≤ 2 ^ 248 := Nat.pow_le_pow_right (by decide) (by have := h.1; omega)
  have h5 := h.1
  have k3 : ps.length * 2 ^ (ps.length * 41 + 43) ≤ 5 * 2 ^ 248 := Nat.mul_le_mul h5 k
  constructor
  · exact Nat.lt_of_le_of_lt (Nat.le_trans z.1 k3) (by decide)
  · exact Nat.lt_of_le_of_lt (Nat.le_trans z.2 k2) (by decide)
@[irreducible] def spLAdd (K : PySem.W.Frag) : Sp := fun vs H Q _ => ∃ (a : Addr) (xs : List V) (ps : List (Int × Int)), vs = [.ref a] ∧ SqL K H a xs ∧ DpAll K H xs (ps.map prD) ∧ Parts ps ∧ ∀ p H', Same H H' → H p = none → H' p = some (tp2 (low (addR ps).1 (addR ps).2)) → Q (.ref p) H'
set_option exponentiation.threshold 10000 in
theorem ok_law_added {f : Addr} {fd : FuncData} (F : Fun K "_law_added" "_law_added" s__law_added f fd) (C__law_lowest : Cal P w K mg base "_law_lowest" 2 ["_law_top", "_law_bottom"] spLow) : FnOk P w K mg base CX0 3 f fd ["_law_parts"] (spLAdd K) := by
  refine F.ok sc__law_added (fun vs H Q E h => ?_) (fun cdv A outer s H vs Q E hr h => ?_)
  · unfold spLAdd at h
    obtain ⟨a, xs, ps, rfl, _⟩ := h
    rfl
  · unfold spLAdd at h
    obtain ⟨a, xs, ps, rfl, hs, hd, hp, q⟩ := h
    have hxl : xs.length = ps.length := by rw [da_len hd, List.length_map]
    refine ⟨_, (pss_cons (ps_set (i := 1) sc__law_added.nd rfl (Or.inl rfl) pe_int)
    (pss_cons (ps_set (i := 2) sc__law_added.nd rfl (Or.inl rfl) pe_int)
    (pss_cons (ps_for PassesOwn.never rfl (pi_list (pv 0)) (pg_name (i := 3) sc__law_added.nd rfl (Or.inl rfl))
      (pss_cons (ps_set (i := 1) sc__law_added.nd rfl (Or.inl rfl) (pe_op op_add (pe_op op_mulW (pv 1) (pe_ix ix_tup (pv 3) pe_int (fun _ _ => rfl))) (pe_op op_mulW (pe_ix ix_tup (pv 3) pe_int (fun _ _ => rfl)) (pv 2))))
    (pss_one (ps_set (i := 2) sc__law_added.nd rfl (Or.inl rfl) (pe_op op_mulW (pv 2) (pe_ix ix_tup (pv 3) pe_int (fun _ _ => rfl)))))))
    (pss_one (ps_ret (pe_cal C__law_lowest (hr.mono (by decide)) (pa_cons (pv 1) (pa_cons (pv 2) pa_nil)))))))), ?_⟩
    walk_at "rd"
    refine ⟨⟨_, hs⟩, for_it walk_list (fun i σ H' => ∃ o3 : Option V, σ = [some (.ref a), some (.int (addR (ps.take i)).1), some (.int (addR (ps.take i)).2), o3] ∧ H' = H) ⟨none, rfl, rfl⟩ (fun i σ H' _ ⟨_, _, e⟩ => e ▸ hs) ?_ ?_⟩
    · rintro i x σ H1 H2 hi ⟨o3, rfl, rfl⟩ ⟨rfl, hx⟩
      obtain ⟨p, hpp, pa, rfl, hpa⟩ := pr_at hd hx
      have hb := hp.2 p (List.mem_of_getElem? hpp)
      have hz := parts_size (parts_take hp i)
      have e : addR (ps.take (i + 1)) = ((addR (ps.take i)).1 * p.2 + p.1 * (addR (ps.take i)).2, (addR (ps.take i)).2 * p.2) := by
        rw [List.take_add_one, hpp]
        exact addR_snoc _ _
      walk_at "rd"
      refine ⟨_, _, _, _, rfl, rfl, hpa, atI_nat (j := 1) rfl, ?_⟩
      walk_at "rd"
      refine ⟨wide_mul hz.1 hb.2.2 (by decide) (by decide) (by decide), ?_⟩
      walk_at "rd"
      refine ⟨_, _, _, _, rfl, rfl, hpa, atI_nat (j := 0) rfl, ?_⟩
      walk_at "rd"
      refine ⟨wide_mul hb.2.1 hz.2 (by decide) (by decide) (by decide), ?_⟩
      walk_at "rd"
      refine ⟨_, _, _, _, rfl, rfl, hpa, atI_nat (j := 1) rfl, ?_⟩
      walk_at "rd"
      refine ⟨wide_mul hz.2 hb.2.2 (by decide) (by decide) (by decide), ?_⟩
      walk_at "rd"
      exact ⟨_, by rw [e]; rfl, rfl⟩
    · rintro σ H1 ⟨o3, rfl, rfl⟩
      rw [hxl, List.take_length]
      have hz := parts_size hp
      have hpos := addR_pos (ps := ps) fun p h => (hp.2 p h).1
      walk_at "rd"
      exact lowest_of (by omega) (lt_up hz.1 (by decide)) (lt_up hz.2 (by decide)) q
@[irreducible] def spLTot (K : PySem.W.Frag) : Sp := fun vs H Q _ => ∃ (a : Addr) (xs : List V) (ps : List (Int × Int)), vs = [.ref a] ∧ SqL K H a xs ∧ DpAll K H xs (ps.map prD) ∧ Parts ps ∧ ∀ p H', Same H H' → H p = none → H' p = some (tp2 (low (addR ps).1 (addR ps).2)) → Q (.ref p) H'
theorem len_dec {n k : Nat} (h : decide (V.int (n : Int) = V.int (k : Int)) = true) : n = k := by
  have := int_t h
  omega
theorem ok_law_total {f : Addr} {fd : FuncData} (F : Fun K "_law_total" "_law_total" s__law_total f fd) (m_len : mg "len" = none) (C_total : CalR P w K mg base "total" 2 (spTotal K)) : FnOk P w K mg base CX0 3 f fd ["_law_parts"] (spLTot K) := by
  refine F.ok sc__law_total (fun vs H Q E h => ?_) (fun cdv A outer s H vs Q E hr h => ?_)
  · unfold spLTot at h
    obtain ⟨a, xs, ps, rfl, _⟩ := h
    rfl
  · unfold spLTot at h
    obtain ⟨a, xs, ps, rfl, hs, hd, hp, q⟩ := h
    have hxl : xs.length = ps.length := by rw [da_len hd, List.length_map]
    have h5 := hp.1
    have go : spTotal K xs H Q E0 := ⟨ps, hd, by omega, fun p h => ⟨(hp.2 p h).1, lt_up (hp.2 p h).2.1 (by decide), lt_up (hp.2 p h).2.2 (by decide)⟩, q⟩
    refine ⟨_, (pss_cons (ps_if (pt_cmpR op_eq (pe_callB call_len_seq (by rfl) m_len PySem.boot_len (pa_cons (pv 0) pa_nil)) pe_int (nomark _))
      (pss_one (ps_ret (pe_calR0 C_total (hr.mono (by decide)))))
      pss_nil)
    (pss_cons (ps_if (pt_cmpR op_eq (pe_callB call_len_seq (by rfl) m_len PySem.boot_len (pa_cons (pv 0) pa_nil)) pe_int (nomark _))
      (pss_one (ps_ret (pe_calR C_total (hr.mono (by decide)) (pa_cons (pe_ix ix_list (pv 0) pe_int (fun _ _ => rfl)) pa_nil))))
      pss_nil)
    (pss_cons (ps_if (pt_cmpR op_eq (pe_callB call_len_seq (by rfl) m_len PySem.boot_len (pa_cons (pv 0) pa_nil)) pe_int (nomark _))
      (pss_one (ps_ret (pe_calR C_total (hr.mono (by decide)) (pa_cons (pe_ix ix_list (pv 0) pe_int (fun _ _ => rfl)) (pa_cons (pe_ix ix_list (pv 0) pe_int (fun _ _ => rfl)) pa_nil)))))
      pss_nil)
    (pss_cons (ps_if (pt_cmpR op_eq (pe_callB call_len_seq (by rfl) m_len PySem.boot_len (pa_cons (pv 0) pa_nil)) pe_int (nomark _))
      (pss_one (ps_ret (pe_calR C_total (hr.mono (by decide)) (pa_cons (pe_ix ix_list (pv 0) pe_int (fun _ _ => rfl)) (pa_cons (pe_ix ix_list (pv 0) pe_int (fun _ _ => rfl)) (pa_cons (pe_ix ix_list (pv 0) pe_int (fun _ _ => rfl)) pa_nil))))))
      pss_nil)
    (pss_cons (ps_if (pt_cmpR op_eq (pe_callB call_len_seq (by rfl) m_len PySem.boot_len (pa_cons (pv 0) pa_nil)) pe_int (nomark _))
      (pss_one (ps_ret (pe_calR C_total (hr.mono (by decide)) (pa_cons (pe_ix ix_list (pv 0) pe_int (fun _ _ => rfl)) (pa_cons (pe_ix ix_list (pv 0) pe_int (fun _ _ => rfl)) (pa_cons (pe_ix ix_list (pv 0) pe_int (fun _ _ => rfl)) (pa_cons (pe_ix ix_list (pv 0) pe_int (fun _ _ => rfl)) pa_nil)))))))
      pss_nil)
    (pss_one (ps_ret (pe_calR C_total (hr.mono (by decide)) (pa_cons (pe_ix ix_list (pv 0) pe_int (fun _ _ => rfl)) (pa_cons (pe_ix ix_list (pv 0) pe_int (fun _ _ => rfl)) (pa_cons (pe_ix ix_list (pv 0) pe_int (fun _ _ => rfl)) (pa_cons (pe_ix ix_list (pv 0) pe_int (fun _ _ => rfl)) (pa_cons (pe_ix ix_list (pv 0) pe_int (fun _ _ => rfl)) pa_nil))))))))))))), ?_⟩
    walk_at "rd"
    refine ⟨_, _, rfl, .inl hs, ?_⟩
    walk_at "rd"
    refine ite2 (fun h0 => ?_) (fun h0 => ?_)
    · have e := len_dec (k := 0) h0
      match xs, e, hs, go with
      | [], _, hs, go =>
        walk_at "rd"
        exact go
    have e0 := int_f h0
    walk_at "rd"
    refine ⟨_, _, rfl, .inl hs, ?_⟩
    walk_at "rd"
    refine ite2 (fun h1 => ?_) (fun h1 => ?_)
    · have e := len_dec (k := 1) h1
      match xs, e, hs, go with
      | [x0], _, hs, go =>
        walk_at "rd"
        refine ⟨_, _, _, _, rfl, rfl, hs, atI_nat (j := 0) rfl, ?_⟩
        exact go
    have e1 := int_f h1
    walk_at "rd"
    refine ⟨_, _, rfl, .inl hs, ?_⟩
    walk_at "rd"
    refine ite2 (fun h2 => ?_) (fun h2 => ?_)
    · have e := len_dec (k := 2) h2
      match xs, e, hs, go with
      | [x0, x1], _, hs, go =>
        walk_at "rd"
        refine ⟨_, _, _, _, rfl, rfl, hs, atI_nat (j := 0) rfl, ?_⟩
        walk_at "rd"
        refine ⟨_, _, _, _, rfl, rfl, hs, atI_nat (j := 1) rfl, ?_⟩
        exact go
    have e2 := int_f h2
    walk_at "rd"
    refine ⟨_, _, rfl, .inl hs, ?_⟩
    walk_at "rd"
    refine ite2 (fun h3 => ?_) (fun h3 => ?_)
    · have e := len_dec (k := 3) h3
      match xs, e, hs, go with
      | [x0, x1, x2], _, hs, go =>
        walk_at "rd"
        refine ⟨_, _, _, _, rfl, rfl, hs, atI_nat (j := 0) rfl, ?_⟩
        walk_at "rd"
        refine ⟨_, _, _, _, rfl, rfl, hs, atI_nat (j := 1) rfl, ?_⟩
        walk_at "rd"
        refine ⟨_, _, _, _, rfl, rfl, hs, atI_nat (j := 2) rfl, ?_⟩
        exact go
    have e3 := int_f h3
    walk_at "rd"
    refine ⟨_, _, rfl, .inl hs, ?_⟩
    walk_at "rd"
    refine ite2 (fun h4 => ?_) (fun h4 => ?_)
    · have e := len_dec (k := 4) h4
      match xs, e, hs, go with
      | [x0, x1, x2, x3], _, hs, go =>
        walk_at "rd"
        refine ⟨_, _, _, _, rfl, rfl, hs, atI_nat (j := 0) rfl, ?_⟩
        walk_at "rd"
        refine ⟨_, _, _, _, rfl, rfl, hs, atI_nat (j := 1) rfl, ?_⟩
        walk_at "rd"
        refine ⟨_, _, _, _, rfl, rfl, hs, atI_nat (j := 2) rfl, ?_⟩
        walk_at "rd"
        refine ⟨_, _, _, _, rfl, rfl, hs, atI_nat (j := 3) rfl, ?_⟩
        exact go
    have e4 := int_f h4
    have e : xs.length = 5 := by omega
    match xs, e, hs, go with
    | [x0, x1, x2, x3, x4], _, hs, go =>
      walk_at "rd"
      refine ⟨_, _, _, _, rfl, rfl, hs, atI_nat (j := 0) rfl, ?_⟩
      walk_at "rd"
      refine ⟨_, _, _, _, rfl, rfl, hs, atI_nat (j := 1) rfl, ?_⟩
      walk_at "rd"
      refine ⟨_, _, _, _, rfl, rfl, hs, atI_nat (j := 2) rfl, ?_⟩
      walk_at "rd"
      refine ⟨_, _, _, _, rfl, rfl, hs, atI_nat (j := 3) rfl, ?_⟩
      walk_at "rd"
      refine ⟨_, _, _, _, rfl, rfl, hs, atI_nat (j := 4) rfl, ?_⟩
      exact go
end
end K23
namespace K23
local macro_rules | `(tactic| walk_at "rd") => `(tactic| repeat (first | refine ⟨rfl, ?_⟩ | refine ⟨_, rfl, ?_⟩ | refine ⟨_, _, rfl, rfl, ?_⟩ | refine ⟨⟨_, rfl⟩, ?_⟩))
open PySem PySem.Spec PyProof.Rows L2 Bx TL Dx Zx Ow M23 M30
section
variable {P : Program} {w : World} {K : PySem.W.Frag} {mg : Str → Option Value} {base : Heap}
theorem low_one (t : Int) : low t 1 = (t, 1) := by
  unfold low
  rw [if_neg (by decide), Int.gcd_one]
  rw [show ((1 : Nat) : Int) = 1 from rfl, Int.ediv_one, Int.ediv_one]
abbrev CRat (P : Program) (w : World) (K : PySem.W.Frag) (mg : Str → Option Value) (base : Heap) : Prop := Cal P w K mg base "_law_ratio" 4 ["_law_source_here"] spRat
abbrev CNum (P : Program) (w : World) (K : PySem.W.Frag) (mg : Str → Option Value) (base : Heap) : Prop := Cal P w K mg base "_law_number" 3 ["_law_source_here"] spNumber
abbrev CLow (P : Program) (w : World) (K : PySem.W.Frag) (mg : Str → Option Value) (base : Heap) : Prop := Cal P w K mg base "_law_lowest" 2 ["_law_top", "_law_bottom"] spLow
abbrev CIs (P : Program) (w : World) (K : PySem.W.Frag) (mg : Str → Option Value) (base : Heap) : Prop := Cal P w K mg base "_law_is" 1 ["_law_actual", "_law_expected"] (spIs K)
set_option exponentiation.threshold 10000 in
theorem ok_ratios_right {f : Addr} {fd : FuncData} (F : Fun K "_law_ratios_right" "_law_ratios_right" s__law_ratios_right f fd) (m_range : mg "range" = none) (m_isinstance : mg "isinstance" = none) (m_bool : mg "bool" = none) (C__law_draw : CDraw P w K mg base) (C__law_number : CNum P w K mg base) (C__law_size : Cal P w K mg base "_law_size" 2 ["_law_source_here"] spSize)
    (C__law_ratio : CRat P w K mg base) (C__law_lowest : CLow P w K mg base) (C__law_is : CIs P w K mg base) (C_ratio : CRatio P w K mg base) (D_ratio : CalD P w K mg base "ratio" 1 ["top", "bottom"] spRatio [V.int 1]) (C_total : CalR P w K mg base "total" 2 (spTotal K))
    (C_times : Cal P w K mg base "times" 2 ["first", "second"] (spTimes K)) (C_quotient : Cal P w K mg base "quotient" 2 ["first", "second"] (spQuot K)) (C_is_below : Cal P w K mg base "is_below" 1 ["first", "second"] (spBelow K)) (C__law_total : Cal P w K mg base "_law_total" 3 ["_law_parts"] (spLTot K)) (C__law_added : Cal P w K mg base "_law_added" 3 ["_law_parts"] (spLAdd K)) :
    FnOk P w K mg base CX0 5 f fd ["_law_source_here"] spRight := by
  refine F.ok sc__law_ratios_right (fun vs H Q E h => ?_) (fun cdv A outer s H vs Q E hr h => ?_)
  · obtain ⟨a, rfl, _⟩ := h
    rfl
  · obtain ⟨src, rfl, hA, q⟩ := h
    refine ⟨_, (pss_cons (ps_set (i := 1) sc__law_ratios_right.nd rfl (Or.inl rfl) (pe_cal C__law_number (hr.mono (by decide)) (pa_cons (pv 0) pa_nil)))
    (pss_cons (ps_set (i := 2) sc__law_ratios_right.nd rfl (Or.inl rfl) (pe_op op_add pe_int (pe_cal C__law_size (hr.mono (by decide)) (pa_cons (pv 0) pa_nil))))
    (pss_cons (ps_if (pt_cmpR op_eq (pe_cal C__law_draw (hr.mono (by decide)) (pa_cons (pv 0) (pa_cons pe_int pa_nil))) pe_int (nomark _))
      (pss_one (ps_set (i := 2) sc__law_ratios_right.nd rfl (Or.inl rfl) (pe_un un_neg (pv 2))))
      pss_nil)
    (pss_cons (ps_if (PW.pt (pw_or (pt_not (pt_val (pe_cal C__law_is (hr.mono (by decide)) (pa_cons (pe_cal C_ratio (hr.mono (by decide)) (pa_cons (pv 1) (pa_cons (pv 2) pa_nil))) (pa_cons (pe_cal C__law_lowest (hr.mono (by decide)) (pa_cons (pv 1) (pa_cons (pv 2) pa_nil))) pa_nil))))) (pw_or1 (pt_not (pt_val (pe_cal C__law_is (hr.mono (by decide)) (pa_cons (pe_calD D_ratio (hr.mono (by decide)) (pa_cons (pv 1) pa_nil)) (pa_cons (pe_tup (pa_cons (pv 1) (pa_cons pe_int pa_nil))) pa_nil))))))))
      (pss_one (ps_ret pe_bl))
      pss_nil)
    (pss_cons (ps_setLc (i := 3) (own := [("_law_k", 7)]) (tt := tYes) rfl sc__law_ratios_right.nd rfl rfl (sw_true rfl rfl rfl (by decide +kernel)) (pi_range1 (by rfl) m_range (pa_cons (pe_cal C__law_draw (hr.mono (by decide)) (pa_cons (pv 0) (pa_cons pe_int pa_nil))) pa_nil)) (blkOk_by (N := n__law_ratios_right) (sc := defScope s__law_ratios_right) (by decide +kernel)) (fun _ _ _ _ _ => pg_name (i := 7) sc__law_ratios_right.nd rfl (Or.inl rfl)) (fun _ _ _ _ _ => pts_nil) (fun _ _ _ _ _ => (pe_cal C__law_ratio (hr.mono (by decide)) (pa_cons (pv 0) pa_nil))))
    (pss_cons (ps_if (PW.pt (pw_or (pt_not (pt_val (pe_cal C__law_is (hr.mono (by decide)) (pa_cons (pe_cal C__law_total (hr.mono (by decide)) (pa_cons (pv 3) pa_nil)) (pa_cons (pe_cal C__law_added (hr.mono (by decide)) (pa_cons (pv 3) pa_nil)) pa_nil))))) (pw_or1 (pt_not (pt_val (pe_cal C__law_is (hr.mono (by decide)) (pa_cons (pe_calR0 C_total (hr.mono (by decide))) (pa_cons (pe_tup (pa_cons pe_int (pa_cons pe_int pa_nil))) pa_nil))))))))
      (pss_one (ps_ret pe_bl))
      pss_nil)
    (pss_cons (ps_set (i := 4) sc__law_ratios_right.nd rfl (Or.inl rfl) (pe_cal C__law_ratio (hr.mono (by decide)) (pa_cons (pv 0) pa_nil)))
    (pss_cons (ps_set (i := 5) sc__law_ratios_right.nd rfl (Or.inl rfl) (pe_cal C__law_ratio (hr.mono (by decide)) (pa_cons (pv 0) pa_nil)))
    (pss_cons (ps_if (pt_cmpR op_eq (pe_cal C__law_draw (hr.mono (by decide)) (pa_cons (pv 0) (pa_cons pe_int pa_nil))) pe_int (nomark _))
      (pss_one (ps_set (i := 5) sc__law_ratios_right.nd rfl (Or.inl rfl) (pv 4)))
      pss_nil)
    (pss_cons (ps_if (pt_not (pt_val (pe_cal C__law_is (hr.mono (by decide)) (pa_cons (pe_cal C_times (hr.mono (by decide)) (pa_cons (pv 4) (pa_cons (pv 5) pa_nil))) (pa_cons (pe_cal C__law_lowest (hr.mono (by decide)) (pa_cons (pe_op op_mulW (pe_ix ix_tup (pv 4) pe_int (fun _ _ => rfl)) (pe_ix ix_tup (pv 5) pe_int (fun _ _ => rfl))) (pa_cons (pe_op op_mulW (pe_ix ix_tup (pv 4) pe_int (fun _ _ => rfl)) (pe_ix ix_tup (pv 5) pe_int (fun _ _ => rfl))) pa_nil))) pa_nil)))))
      (pss_one (ps_ret pe_bl))
      pss_nil)
    (pss_cons (ps_if (pt_cmpR op_ne (pe_ix ix_tup (pv 5) pe_int (fun _ _ => rfl)) pe_int (nomark _))
      (pss_one (ps_if (pt_not (pt_val (pe_cal C__law_is (hr.mono (by decide)) (pa_cons (pe_cal C_quotient (hr.mono (by decide)) (pa_cons (pv 4) (pa_cons (pv 5) pa_nil))) (pa_cons (pe_cal C__law_lowest (hr.mono (by decide)) (pa_cons (pe_op op_mulW (pe_ix ix_tup (pv 4) pe_int (fun _ _ => rfl)) (pe_ix ix_tup (pv 5) pe_int (fun _ _ => rfl))) (pa_cons (pe_op op_mulW (pe_ix ix_tup (pv 4) pe_int (fun _ _ => rfl)) (pe_ix ix_tup (pv 5) pe_int (fun _ _ => rfl))) pa_nil))) pa_nil)))))
      (pss_one (ps_ret pe_bl))
      pss_nil))
      pss_nil)
    (pss_cons (ps_set (i := 6) sc__law_ratios_right.nd rfl (Or.inl rfl) (pe_cal C_is_below (hr.mono (by decide)) (pa_cons (pv 4) (pa_cons (pv 5) pa_nil))))
    (pss_one (ps_ret (pe_and (pe_callB (id := "isinstance") call_isi (by rfl) m_isinstance (by decide +kernel) (pa_cons (pv 6) (pa_cons (pe_bltn (v := .ty "bool") (by rfl) m_bool (by decide +kernel) rfl) pa_nil))) (pe_one (pe_cmpR op_eq (pv 6) (pe_cmpR op_lt (pe_op op_mulW (pe_ix ix_tup (pv 4) pe_int (fun _ _ => rfl)) (pe_ix ix_tup (pv 5) pe_int (fun _ _ => rfl))) (pe_op op_mulW (pe_ix ix_tup (pv 5) pe_int (fun _ _ => rfl)) (pe_ix ix_tup (pv 4) pe_int (fun _ _ => rfl))) (nomark _)) (nomark _)))))))))))))))))), ?_⟩
    walk_at "rd"
    refine number_of hA fun t H1 t1 s1 hA1 => ?_
    walk_at "rd"
    refine size_of hA1 fun b0 H2 b1 b2 s2 hA2 => ?_
    walk_at "rd"
    refine draw_of hA2 ⟨by decide, by decide⟩ fun y H3 y0 y1 s3 hA3 => ?_
    have s13 := s1.trans (s2.trans s3)
    walk_at "rd"
    refine if_asg (fun v H' => ∃ b : Int, v = .int b ∧ b ≠ 0 ∧ b.natAbs < 2 ^ 41 ∧ H' = H3) rfl (fun _ Z k => ?_) (fun _ => ⟨1 + b0, rfl, by omega, by omega, rfl⟩) ?_
    · walk_at "rd"
      exact k _ _ ⟨_, rfl, by omega, by omega, rfl⟩
    rintro _ _ ⟨b, rfl, hb0, hb, rfl⟩
    walk_at "rd"
    refine ratio_of hb0 (lt_up hb (by decide)) fun p1 H4 s4 n4 h4 => ?_
    walk_at "rd"
    refine lowest_of hb0 (lt_up (n41 t1) (by decide)) (lt_up hb (by decide)) fun p2 H5 s5 n5 h5 => ?_
    refine is_of (x := low t b) (sqt (s5 _ _ h4)) (sqt h5) ?_
    walk_at "rd"
    refine ratio_of (by decide) (by decide +kernel) fun p3 H6 s6 n6 h6 => ?_
    rw [low_one] at h6
    walk_at "rd"
    refine ⟨sz (by show 2 ≤ 100000; decide), fun p4 n4 => ?_⟩
    refine is_of (x := (t, 1)) (sqt ((same_new n4) _ _ h6)) (sqt upd_same) ?_
    have s46 := Same.trans (Same.trans s4 s5) (Same.trans s6 (same_new n4 (o := .tup [V.int t, V.int 1])))
    have hA6 := src_same hA3 s46
    have s16 := s13.trans (Bx.Same.but s46)
    generalize upd H6 p4 (.tup [V.int t, V.int 1]) = H7 at *
    walk_at "rd"
    refine draw_of hA6 ⟨by decide, by decide⟩ fun k H8 k0 k1 s8 hA8 => ?_
    obtain ⟨kn, rfl⟩ := Int.eq_ofNat_of_zero_le k0
    have s18 := s16.trans s8
    refine ⟨_, rfl, by omega, by omega, fun M nM => ?_⟩
    have nMs : M ≠ src := (src_ne hA8 nM).symm
    refine lc_it walk_range (fun i H' => ∃ us ps, SameBut src H8 H' ∧ Src H' src ∧ H' M = some (.lst us) ∧ DpAll K (mn H' [src, M]) us (ps.map prD) ∧ ps.length = i ∧ ∀ p ∈ ps, 0 < p.2 ∧ Bits 41 p) ⟨[], [], Bx.Same.but (same_new nM), src_upd hA8 nMs.symm, upd_same, .nil, rfl, fun p hp => by cases hp⟩ (fun _ _ _ _ => trivial) ?_ ?_
    · rintro i x H9 H9' hi ⟨us, ps, s9, hA9, hM, dM, hl, hb⟩ ⟨rfl, rfl⟩
      have hi6 : i < 6 := by omega
      refine ⟨rfl, ?_⟩
      walk_at "rd"
      refine rat_of hA9 fun p r H10 s10 hA10 np hp r0 rb => ?_
      have hus : us.length < 100000 := by
        rw [da_len dM, List.length_map, hl]
        omega
      have npM : p ≠ M := fun e => by rw [e, hM] at np; cases np
      have nps : p ≠ src := (src_ne hA9 np).symm
      refine ⟨us, s10 _ _ nMs hM, szl hus, us ++ [.ref p], ps ++ [r], ?_, src_upd hA10 nMs.symm, upd_same, ?_, by rw [List.length_append, hl]; rfl, ?_⟩
      · intro b o hb1 e
        rw [upd_ne (ne_of_none e nM)]
        exact s10 _ _ hb1 (s9 _ _ hb1 e)
      · rw [mn_upd (S := [src, M]) (by simp), List.map_append]
        refine da_app (dpAll_same (mn_but (by simp) s10) dM) (da_one (pr_dp (sqt (mn_at ?_ hp))))
        simp only [List.mem_cons, List.mem_nil_iff, or_false, not_or]
        exact ⟨nps, npM⟩
      · intro z hz
        rcases List.mem_append.mp hz with hz | hz
        · exact hb z hz
        · rw [List.mem_singleton.mp hz]
          exact ⟨r0, rb⟩
    rintro H9 ⟨us, ps, s9, hA9, hM, dM, hl, hb⟩
    have d9 := dpAll_same mn_same dM
    have hP : Parts ps := ⟨by omega, fun p hp => ⟨(hb p hp).1, lt_up (hb p hp).2.1 (by decide), (hb p hp).2.2⟩⟩
    have s19 := s18.trans s9
    walk_at "rd"
    unfold spLTot
    refine ⟨M, us, ps, rfl, sq hM, d9, hP, fun p5 H10 s10 n5 h5 => ?_⟩
    walk_at "rd"
    unfold spLAdd
    refine ⟨M, us, ps, rfl, sq (s10 _ _ hM), dpAll_same s10 d9, hP, fun p6 H11 s11 n6 h6 => ?_⟩
    refine is_of (x := low (addR ps).1 (addR ps).2) (sqt (s11 _ _ h5)) (sqt h6) ?_
    walk_at "rd"
    refine ⟨[], .nil, by decide, (fun p hp => nomatch hp), fun p7 H12 s12 n7 h7 => ?_⟩
    walk_at "rd"
    refine ⟨sz (by show 2 ≤ 100000; decide), fun p8 n8 => ?_⟩
    have e0 : low (addR []).1 (addR []).2 = (0, 1) := by decide +kernel
    rw [e0] at h7
    refine is_of (x := (0, 1)) (sqt ((same_new n8) _ _ h7)) (sqt upd_same) ?_
    have sA := Same.trans (Same.trans s10 s11) (Same.trans s12 (same_new n8 (o := .tup [V.int 0, V.int 1])))
    have hA12 := src_same hA9 sA
    have s112 := s19.trans (Bx.Same.but sA)
    generalize upd H12 p8 (.tup [V.int 0, V.int 1]) = H13 at *
    walk_at "rd"
    refine rat_of hA12 fun pa x H14 s14 hA14 na ha x0 xb => ?_
    walk_at "rd"
    refine rat_of hA14 fun pb y H15 s15 hA15 nb hb2 y0 yb => ?_
    have nas : pa ≠ src := (src_ne hA12 na).symm
    have nbs : pb ≠ src := (src_ne hA14 nb).symm
    have ha15 := s15 _ _ nas ha
    walk_at "rd"
    refine draw_of hA15 ⟨by decide, by decide⟩ fun z H16 _ _ s16' hA16 => ?_
    have sB := s112.trans (s14.trans (s15.trans s16'))
    have ha16 := s16' _ _ nas ha15
    have hb16 := s16' _ _ nbs hb2
    walk_at "rd"
    refine if_asg (fun v H' => ∃ (pc : Addr) (y : Int × Int), v = .ref pc ∧ H' = H16 ∧ H16 pc = some (tp2 y) ∧ 0 < y.2 ∧ Bits 41 y) rfl (fun _ Z k => ?_) (fun _ => ⟨pb, y, rfl, rfl, hb16, y0, yb⟩) ?_
    · walk_at "rd"
      exact k _ _ ⟨pa, x, rfl, rfl, ha16, x0, xb⟩
    rintro _ _ ⟨pc, y, rfl, rfl, hc16, y0, yb⟩
    have xb3 : Bits 300 x := bits_up xb (by decide)
    have yb3 : Bits 300 y := bits_up yb (by decide)
    walk_at "rd"
    have hA17 := hA16
    have m0 : x.2 * y.2 ≠ 0 := by
      have := Int.mul_pos x0 y0
      omega
    have sq1 : SqT K _ pa [.int x.1, .int x.2] := sqt ha16
    have sq2 : SqT K _ pc [.int y.1, .int y.2] := sqt hc16
    unfold spTimes
    refine ⟨pa, pc, x, y, rfl, sq1, sq2, m0, xb3, yb3, fun p9 H17 s17 n9 h9 => ?_⟩
    walk_at "rd"
    refine ⟨_, _, _, _, rfl, rfl, Bx.Same.tup s17 sq1, atI_nat (j := 0) rfl, ?_⟩
    walk_at "rd"
    refine ⟨_, _, _, _, rfl, rfl, Bx.Same.tup s17 sq2, atI_nat (j := 0) rfl, ?_⟩
    walk_at "rd"
    refine ⟨wide_mul xb.1 yb.1 (by decide) (by decide) (by decide), ?_⟩
    walk_at "rd"
    refine ⟨_, _, _, _, rfl, rfl, Bx.Same.tup s17 sq1, atI_nat (j := 1) rfl, ?_⟩
    walk_at "rd"
    refine ⟨_, _, _, _, rfl, rfl, Bx.Same.tup s17 sq2, atI_nat (j := 1) rfl, ?_⟩
    walk_at "rd"
    refine ⟨wide_mul xb.2 yb.2 (by decide) (by decide) (by decide), ?_⟩
    walk_at "rd"
    refine lowest_of m0 (lt_up (wide_lt xb.1 yb.1) (by decide)) (lt_up (wide_lt xb.2 yb.2) (by decide)) fun p10 H18 s18' n10 h10 => ?_
    refine is_of (x := low (x.1 * y.1) (x.2 * y.2)) (sqt (s18' _ _ h9)) (sqt h10) ?_
    have sC := Same.trans s17 s18'
    walk_at "rd"
    refine ⟨_, _, _, _, rfl, rfl, Bx.Same.tup sC sq2, atI_nat (j := 0) rfl, ?_⟩
    walk_at "rd"
    apply cont_of (R := fun H' : Hp => Same H18 H')
    · intro kont
      refine ite2 (fun h0 => ?_) (fun h0 => ?_)
      rotate_left
      · walk_at "rd"
        exact kont H18 (Same.refl _)
      have hy0 := int_nt h0
      have m1 : x.2 * y.1 ≠ 0 := Int.mul_ne_zero (by omega) hy0
      walk_at "rd"
      unfold spQuot
      refine ⟨pa, pc, x, y, rfl, Bx.Same.tup sC sq1, Bx.Same.tup sC sq2, m1, xb3, yb3, fun p11 H20 s20 n11 h11 => ?_⟩
      have sD := Same.trans sC s20
      walk_at "rd"
      refine ⟨_, _, _, _, rfl, rfl, Bx.Same.tup sD sq1, atI_nat (j := 0) rfl, ?_⟩
      walk_at "rd"
      refine ⟨_, _, _, _, rfl, rfl, Bx.Same.tup sD sq2, atI_nat (j := 1) rfl, ?_⟩
      walk_at "rd"
      refine ⟨wide_mul xb.1 yb.2 (by decide) (by decide) (by decide), ?_⟩
      walk_at "rd"
      refine ⟨_, _, _, _, rfl, rfl, Bx.Same.tup sD sq1, atI_nat (j := 1) rfl, ?_⟩
      walk_at "rd"
      refine ⟨_, _, _, _, rfl, rfl, Bx.Same.tup sD sq2, atI_nat (j := 0) rfl, ?_⟩
      walk_at "rd"
      refine ⟨wide_mul xb.2 yb.1 (by decide) (by decide) (by decide), ?_⟩
      walk_at "rd"
      refine lowest_of m1 (lt_up (wide_lt xb.1 yb.2) (by decide)) (lt_up (wide_lt xb.2 yb.1) (by decide)) fun p12 H21 s21 n12 h12 => ?_
      refine is_of (x := low (x.1 * y.2) (x.2 * y.1)) (sqt (s21 _ _ h11)) (sqt h12) ?_
      walk_at "rd"
      exact kont H21 (Same.trans s20 s21)
    intro H19 s19'
    have sE := Same.trans sC s19'
    walk_at "rd"
    unfold spBelow
    refine ⟨pa, pc, x, y, rfl, Bx.Same.tup sE sq1, Bx.Same.tup sE sq2, xb3, yb3, ?_⟩
    walk_at "rd"
    refine ⟨_, _, _, _, true, rfl, .ty "bool", .base (.bl _), kit_ty (by decide +kernel), ?_⟩
    walk_at "rd"
    refine ⟨_, _, _, _, rfl, rfl, Bx.Same.tup sE sq1, atI_nat (j := 0) rfl, ?_⟩
    walk_at "rd"
    refine ⟨_, _, _, _, rfl, rfl, Bx.Same.tup sE sq2, atI_nat (j := 1) rfl, ?_⟩
    walk_at "rd"
    refine ⟨wide_mul xb.1 yb.2 (by decide) (by decide) (by decide), ?_⟩
    walk_at "rd"
    refine ⟨_, _, _, _, rfl, rfl, Bx.Same.tup sE sq2, atI_nat (j := 0) rfl, ?_⟩
    walk_at "rd"
    refine ⟨_, _, _, _, rfl, rfl, Bx.Same.tup sE sq1, atI_nat (j := 1) rfl, ?_⟩
    walk_at "rd"
    refine ⟨wide_mul yb.1 xb.2 (by decide) (by decide) (by decide), ?_⟩
    walk_at "rd"
    have qq := q H19 (sB.trans (Bx.Same.but sE))
    have e : decide (V.bl (decide (x.1 * y.2 < y.1 * x.2)) = V.bl (decide (x.1 * y.2 < y.1 * x.2))) = true := decide_eq_true rfl
    rw [← e] at qq
    exact qq
end
end K23
namespace K23
local macro_rules | `(tactic| walk_at "rd") => `(tactic| repeat (first | refine ⟨rfl, ?_⟩ | refine ⟨_, rfl, ?_⟩ | refine ⟨_, _, rfl, rfl, ?_⟩ | refine ⟨⟨_, rfl⟩, ?_⟩))
open PySem PySem.Spec PyProof.Rows L2 Bx TL Dx Zx Ow M23 M30
section
variable {P : Program} {w : World} {K : PySem.W.Frag} {mg : Str → Option Value} {base : Heap}
/-- [x[1] for x in pairs if x[0] == n] -/
theorem lc_coef {H : Hp} {a : Addr} {xs : List V} {ps : List Tr5} (hs : SqL K H a xs) (hd : DpAll K H xs (ps.map tmD)) (hl : ps.length ≤ 60) (n : Str) {tt : TT} {te : TE} {σ : L2.St} {vs : List Nat} {M : Addr} {Qd : Hp → Prop} {i : Nat} (nM : H M = none)
    (hw : ∀ x : V, wipe ((wipe σ vs).set i (some x)) vs = wipe σ vs)
    (htt : ∀ (pa : Addr) (y : Tr5) (H' : Hp) (Z : Bool → Hp → Prop), SqT K H' pa [.str y.1, .int y.2] → Z (decide (V.str y.1 = V.str n)) H' → tt ((wipe σ vs).set i (some (.ref pa))) H' Z)
    (hte : ∀ (pa : Addr) (y : Tr5) (H' : Hp) (Z : VK), SqT K H' pa [.str y.1, .int y.2] → Z (.int y.2) H' → te ((wipe σ vs).set i (some (.ref pa))) H' Z)
    (done : ∀ H', Same H H' → H' M = some (.lst (((ps.filter fun x => decide (x.1 = n)).map (·.2)).map V.int)) → Qd H') :
    ∃ W : Nat → Nat → Hp → Prop, (∃ m, W 0 m (upd H M (.lst []))) ∧ ∀ k m H, W k m H →
      ((Itl K a).stop k H ∧ Qd H) ∨ ((Itl K a).go k H ∧ ∃ Nx : Hp → Prop, (∀ H', Nx H' → ∃ m', m' < m ∧ W (k + 1) m' H') ∧ ∀ x H', (Itl K a).yld k H x H' → gName i x (wipe σ vs) H' fun σ2 H2 => wipe σ2 vs = wipe σ vs ∧ tt σ2 H2 fun b H3 =>
        if b = true then te σ2 H3 fun y H4 => ∃ acc, H4 M = some (.lst acc) ∧ acc.length < sizeLine ∧ Nx (upd H4 M (.lst (acc ++ [y]))) else Nx H3) := by
  have hxl : xs.length = ps.length := by rw [da_len hd, List.length_map]
  refine lc_it walk_list (fun k H' => H' = upd H M (.lst ((((ps.take k).filter fun x => decide (x.1 = n)).map (·.2)).map V.int))) rfl (fun k H' _ e => e ▸ (same_new nM).seq hs) ?_ ?_
  · rintro k x H1 H2 hi rfl ⟨rfl, hx⟩
    obtain ⟨y, hy, pa, rfl, hpa⟩ := tm_at hd hx
    have sq2 := Bx.Same.tup (same_new (o := .lst ((((ps.take k).filter fun x => decide (x.1 = n)).map (·.2)).map V.int)) nM) hpa
    refine ⟨hw _, htt pa y _ _ sq2 ?_⟩
    have tk : (ps.take (k + 1)).filter (fun x => decide (x.1 = n)) = (ps.take k).filter (fun x => decide (x.1 = n)) ++ [y].filter (fun x => decide (x.1 = n)) := by
      rw [List.take_add_one, hy, List.filter_append]
      rfl
    have hlen : (((ps.take k).filter fun x => decide (x.1 = n)).map (·.2)).length < 100000 := by
      rw [List.length_map]
      have := List.length_filter_le (fun x : Tr5 => decide (x.1 = n)) (ps.take k)
      rw [List.length_take] at this
      omega
    by_cases e : y.1 = n
    · rw [if_pos (decide_eq_true (congrArg V.str e))]
      refine hte pa y _ _ sq2 ⟨_, upd_same, by rw [List.length_map]; exact szl hlen, ?_⟩
      have : [y].filter (fun x => decide (x.1 = n)) = [y] := List.filter_eq_self.mpr fun z hz => by
        rw [List.mem_singleton.mp hz]
        exact decide_eq_true e
      rw [upd_upd, tk, this, List.map_append, List.map_append]
      rfl
    · have e2 : ¬ V.str y.1 = V.str n := fun z => e (V.str.inj z)
      rw [if_neg (by rw [decide_eq_false e2]; decide)]
      have : [y].filter (fun x => decide (x.1 = n)) = [] := List.filter_eq_nil_iff.mpr fun z hz => by
        rw [List.mem_singleton.mp hz]
        exact fun q => e (of_decide_eq_true q)
      rw [tk, this, List.append_nil]
  · rintro H3 rfl
    rw [hxl, List.take_length]
    exact done _ (same_new nM) upd_same
theorem n5_ok : ∀ n ∈ N5, PyData.strOk n = true := by decide +kernel
/-! ### the pairs -/
@[irreducible] def spPairs (K : PySem.W.Frag) : Sp := fun vs H Q _ => ∃ a : Addr, vs = [.ref a] ∧ Src H a ∧ ∀ r xs ps H', SameBut a H H' → Src H' a → H r = none → H' r = some (.lst xs) → DpAll K H' xs (ps.map tmD) → In5 ps → ps.length ≤ 6 → (∀ x ∈ ps, x.2.natAbs < 1000000000000) → Q (.ref r) H'
theorem ok_pairs {f : Addr} {fd : FuncData} (F : Fun K "_law_pairs" "_law_pairs" s__law_pairs f fd) (m_range : mg "range" = none) (C__law_draw : CDraw P w K mg base) (C__law_number : CNum P w K mg base) : FnOk P w K mg base CX0 4 f fd ["_law_source_here"] (spPairs K) := by
  refine F.ok sc__law_pairs (fun vs H Q E h => ?_) (fun cdv A outer s H vs Q E hr h => ?_)
  · unfold spPairs at h
    obtain ⟨a, rfl, _⟩ := h
    rfl
  · unfold spPairs at h
    obtain ⟨src, rfl, hA, q⟩ := h
    refine ⟨_, (pss_cons (ps_set (i := 1) sc__law_pairs.nd rfl (Or.inl rfl) (pe_lst pa_nil))
    (pss_cons (ps_for PassesOwn.never rfl (pi_range1 (by rfl) m_range (pa_cons (pe_cal C__law_draw (hr.mono (by decide)) (pa_cons (pv 0) (pa_cons pe_int pa_nil))) pa_nil)) (pg_name (i := 2) sc__law_pairs.nd rfl (Or.inl rfl))
      (pss_cons (ps_set (i := 3) sc__law_pairs.nd rfl (Or.inl rfl) (pe_ix ix_list (pe_lst (pa_cons pe_str (pa_cons pe_str (pa_cons pe_str (pa_cons pe_str (pa_cons pe_str pa_nil)))))) (pe_cal C__law_draw (hr.mono (by decide)) (pa_cons (pv 0) (pa_cons pe_int pa_nil))) (fun _ _ => rfl)))
    (pss_one (ps_expr (pe_bm PySem.F.plainAttrs_list PySem.F.slot_list_append PySem.F.type_list_append mt_append (pv 1) (pa_cons (pe_tup (pa_cons (pv 3) (pa_cons (pe_ifExp (pt_cmpR op_eq (pe_cal C__law_draw (hr.mono (by decide)) (pa_cons (pv 0) (pa_cons pe_int pa_nil))) pe_int (nomark _)) (pe_cal C__law_number (hr.mono (by decide)) (pa_cons (pv 0) pa_nil)) (pe_op op_sub (pe_cal C__law_draw (hr.mono (by decide)) (pa_cons (pv 0) (pa_cons pe_int pa_nil))) pe_int)) pa_nil))) pa_nil))))))
    (pss_one (ps_ret (pv 1))))), ?_⟩
    walk_at "rd"
    refine ⟨sz (by decide), fun l nl => ?_⟩
    have nsl := src_ne hA nl
    walk_at "rd"
    refine draw_of (src_upd hA nsl) ⟨by decide, by decide⟩ fun k H1 k0 k1 s1 hA1 => ?_
    have s01 : SameBut src H H1 := but_new nl s1
    have hl1 : H1 l = some (.lst []) := s1 _ _ nsl.symm upd_same
    obtain ⟨kn, rfl⟩ := Int.eq_ofNat_of_zero_le k0
    refine ⟨_, rfl, by omega, by omega, for_it walk_range (fun i σ H' => ∃ (o2 o3 : Option V) (xs : List V) (ps : List Tr5), σ = [some (.ref src), some (.ref l), o2, o3] ∧ SameBut src H H' ∧ Src H' src ∧ H' l = some (.lst xs) ∧ DpAll K (mn H' [src, l]) xs (ps.map tmD) ∧ ps.length = i ∧ In5 ps ∧ ∀ x ∈ ps, x.2.natAbs < 1000000000000)
      ⟨none, none, [], [], rfl, s01, hA1, hl1, .nil, rfl, (fun p hp => nomatch hp), fun p hp => nomatch hp⟩ (fun _ _ _ _ _ => trivial) ?_ ?_⟩
    · rintro i z σ H2 H2' hi ⟨o2, o3, xs, ps, rfl, s2, hA2, hl2, hd, hn, h5, hb⟩ ⟨rfl, rfl⟩
      walk_at "rd"
      refine ⟨sz (by show 5 ≤ 100000; decide), fun L nL => ?_⟩
      have nLs : src ≠ L := src_ne hA2 nL
      have nLl : L ≠ l := fun e => by rw [e, hl2] at nL; cases nL
      walk_at "rd"
      refine draw_of (src_upd hA2 nLs) ⟨by decide, by decide⟩ fun r H3 r0 r1 s3 hA3 => ?_
      have hL3 := s3 _ _ nLs.symm upd_same
      obtain ⟨n, hn5, hat⟩ : ∃ n : Str, n ∈ N5 ∧ atI [V.str (Str.ofString "b"), V.str (Str.ofString "a"), V.str (Str.ofString "a1"), V.str (Str.ofString "c.d"), V.str (Str.ofString "ab")] r = some (.str n) := by
        obtain ⟨rn, rfl⟩ := Int.eq_ofNat_of_zero_le r0
        have h5 : rn < 5 := by omega
        match rn, h5 with
        | 0, _ => exact ⟨_, by decide +kernel, rfl⟩
        | 1, _ => exact ⟨_, by decide +kernel, rfl⟩
        | 2, _ => exact ⟨_, by decide +kernel, rfl⟩
        | 3, _ => exact ⟨_, by decide +kernel, rfl⟩
        | 4, _ => exact ⟨_, by decide +kernel, rfl⟩
      refine ⟨_, _, _, _, rfl, rfl, sq hL3, hat, ?_⟩
      have s23 : SameBut src H2' H3 := but_new nL s3
      have hl3 := s23 _ _ nsl.symm hl2
      walk_at "rd"
      refine ⟨.inl ⟨rfl, _, sq hl3⟩, ?_⟩
      walk_at "rd"
      refine draw_of hA3 ⟨by decide, by decide⟩ fun d H4 d0 d1 s4 hA4 => ?_
      walk_at "rd"
      apply cont_of2 (R := fun (v : V) (H' : Hp) => ∃ c : Int, v = .int c ∧ c.natAbs < 1000000000000 ∧ SameBut src H2' H' ∧ Src H' src)
      · intro kont
        refine ite2 (fun _ => ?_) (fun _ => ?_)
        · walk_at "rd"
          refine number_of hA4 fun c H5 c1 s5 hA5 => ?_
          have hR : ∃ e : Int, V.int c = .int e ∧ e.natAbs < 1000000000000 ∧ SameBut src H2' H5 ∧ Src H5 src := ⟨c, rfl, c1, s23.trans (s4.trans s5), hA5⟩
          revert hR
          generalize V.int c = v
          exact fun hR => kont v H5 hR
        · walk_at "rd"
          refine draw_of hA4 ⟨by decide, by decide⟩ fun c H5 c0 c1 s5 hA5 => ?_
          walk_at "rd"
          exact kont _ H5 ⟨c - 2, rfl, by omega, s23.trans (s4.trans s5), hA5⟩
      rintro _ H5 ⟨c, rfl, cb, s5, hA5⟩
      have hl5 := s5 _ _ nsl.symm hl2
      have hxl : xs.length = i := by rw [da_len hd, List.length_map, hn]
      walk_at "rd"
      refine ⟨sz (by show 2 ≤ 100000; decide), fun t nt => ?_⟩
      have ntl : t ≠ l := fun e => by rw [e, hl5] at nt; cases nt
      have nts : t ≠ src := fun e => (src_ne hA5 (e ▸ nt)) e.symm
      refine ⟨l, _, _, rfl, rfl, by rw [upd_ne ntl.symm]; exact hl5, szl (by omega), ?_⟩
      have sm5 : Same (mn H2' [src, l]) (mn H5 [src, l]) := mn_but (by simp) s5
      have sm6 : Same (mn H5 [src, l]) (mn (upd (upd H5 t (.tup [.str n, .int c])) l (.lst (xs ++ [.ref t]))) [src, l]) := by
        rw [mn_upd (by simp)]
        exact mn_new nt
      refine ⟨_, _, _, ps ++ [(n, c)], rfl, ?_, src_upd (src_upd hA5 nts.symm) nsl, upd_same, ?_, by rw [List.length_append, hn]; rfl, ?_, ?_⟩
      · intro b o hb1 e
        have e5 := s5 _ _ hb1 (s2 _ _ hb1 e)
        by_cases hbl : b = l
        · rw [hbl, nl] at e
          cases e
        · rw [upd_ne hbl, upd_ne (ne_of_none e5 nt)]
          exact e5
      · rw [List.map_append]
        refine da_app (dpAll_same (sm5.trans sm6) hd) (da_one (tm_dp (x := (n, c)) (sqt (mn_at ?_ ?_))))
        · simp only [List.mem_cons, List.mem_nil_iff, or_false, not_or]
          exact ⟨nts, ntl⟩
        · rw [upd_ne ntl, upd_same]
      · exact in5_app h5 fun x hx => by rw [List.mem_singleton.mp hx]; exact hn5
      · intro x hx
        rcases List.mem_append.mp hx with hx | hx
        · exact hb x hx
        · rw [List.mem_singleton.mp hx]
          exact cb
    · rintro σ H2 ⟨o2, o3, xs, ps, rfl, s2, hA2, hl2, hd, hn, h5, hb⟩
      walk_at "rd"
      exact q l xs ps H2 s2 hA2 nl hl2 (dpAll_same mn_same hd) h5 (by omega) hb
/-! ### terms, scaled -/
@[irreducible] def spTerms (K : PySem.W.Frag) : Sp := fun vs H Q _ => ∃ (a : Addr) (xs : List V) (ps : List Tr5), vs = [.ref a] ∧ SqL K H a xs ∧ DpAll K H xs (ps.map tmD) ∧ ps.length ≤ 60 ∧ ∀ t zs H', Same H H' → H t = none → SqT K H' t zs → DpAll K H' zs ((tms ps).map tmD) → Q (.ref t) H'
def pre (ps : List Tr5) (i : Nat) : List Tr5 := ((N5.take i).map fun n => ((n, coef ps n) : Tr5)).filter fun x => decide (x.2 ≠ 0)
theorem pre_snoc {ps : List Tr5} {i : Nat} {n : Str} (h : N5[i]? = some n) : pre ps (i + 1) = pre ps i ++ if coef ps n ≠ 0 then [(n, coef ps n)] else [] := by
  unfold pre
  rw [List.take_add_one, h, List.map_append, List.filter_append]
  congr 1
  by_cases e : coef ps n = 0
  · rw [if_neg (by simpa using e)]
    exact List.filter_eq_nil_iff.mpr fun y hy => by
      rw [List.mem_singleton.mp hy]
      exact fun z => of_decide_eq_true z e
  · rw [if_pos e]
    exact List.filter_eq_self.mpr fun y hy => by
      rw [List.mem_singleton.mp hy]
      exact decide_eq_true e
theorem pre_len (ps : List Tr5) (i : Nat) : (pre ps i).length ≤ 5 := by
  unfold pre
  refine Nat.le_trans (List.length_filter_le _ _) ?_
  rw [List.length_map, List.length_take]
  exact Nat.min_le_right _ _
theorem ok_terms {f : Addr} {fd : FuncData} (F : Fun K "_law_terms" "_law_terms" s__law_terms f fd) (m_sum : mg "sum" = none) (m_tuple : mg "tuple" = none) : FnOk P w K mg base CX0 1 f fd ["_law_pairs_here"] (spTerms K) := by
  refine F.ok sc__law_terms (fun vs H Q E h => ?_) (fun cdv A outer s H vs Q E hr h => ?_)
  · unfold spTerms at h
    obtain ⟨a, xs, ps, rfl, _⟩ := h
    rfl
  · unfold spTerms at h
    obtain ⟨a, xs, ps, rfl, hs, hd, hl, q⟩ := h
    refine ⟨_, (pss_cons (ps_set (i := 1) sc__law_terms.nd rfl (Or.inl rfl) (pe_lst pa_nil))
    (pss_cons (ps_for PassesOwn.never rfl (pi_list (pe_lst (pa_cons pe_str (pa_cons pe_str (pa_cons pe_str (pa_cons pe_str (pa_cons pe_str pa_nil))))))) (pg_name (i := 2) sc__law_terms.nd rfl (Or.inr rfl))
      (pss_cons (ps_set (i := 3) sc__law_terms.nd rfl (Or.inl rfl) (pe_callB (id := "sum") (cr_sum rfl) (by rfl) m_sum (by decide +kernel) (pa_cons (pe_lc (own := [("_law_pair", 4)]) rfl sc__law_terms.nd (pi_list (pv 0)) (blkOk_by (N := n__law_terms) (sc := defScope s__law_terms) (by decide +kernel)) (fun _ _ _ _ _ => pg_name (i := 4) sc__law_terms.nd rfl (Or.inl rfl)) (fun _ _ _ _ _ => pts_one (pt_cmpR op_eq (pe_ix (ix_tupK (K := K) rfl) (pv 4) pe_int (fun _ _ => rfl)) (pv 2) (nomark _))) (fun _ _ _ _ _ => (pe_ix (ix_tupK (K := K) rfl) (pv 4) pe_int (fun _ _ => rfl)))) pa_nil)))
    (pss_one (ps_if (pt_cmpR op_ne (pv 3) pe_int (nomark _))
      (pss_one (ps_expr (pe_bm PySem.F.plainAttrs_list PySem.F.slot_list_append PySem.F.type_list_append mt_append (pv 1) (pa_cons (pe_tup (pa_cons (pv 2) (pa_cons (pv 3) pa_nil))) pa_nil))))
      pss_nil))))
    (pss_one (ps_ret (pe_callTy (T := "tuple") call_tuple_of (by rfl) m_tuple (by decide +kernel) (pa_cons (pv 1) pa_nil)))))), ?_⟩
    walk_at "rd"
    refine ⟨sz (by decide), fun l nl => ?_⟩
    have s0 := same_new nl (o := .lst [])
    walk_at "rd"
    refine ⟨sz (by show 5 ≤ 100000; decide), fun L nL => ?_⟩
    have nLl : L ≠ l := fun e => by rw [e, upd_same] at nL; cases nL
    have sL := same_new nL (o := .lst (N5.map V.str))
    refine ⟨L, rfl, ⟨_, sq upd_same⟩, for_it walk_list (fun i σ H' => ∃ (o2 o3 o4 : Option V) (us : List V), σ = [some (.ref a), some (.ref l), o2, o3, o4] ∧ Same H H' ∧ H' L = some (.lst (N5.map V.str)) ∧ H' l = some (.lst us) ∧ DpAll K (mn H' [l]) us ((pre ps i).map tmD))
      ⟨none, none, none, [], rfl, Same.trans s0 sL, upd_same, by rw [upd_ne nLl.symm, upd_same], .nil⟩ (fun i σ H' _ ⟨_, _, _, _, _, _, e, _⟩ => sq e) ?_ ?_⟩
    · rintro i x σ H1 H1' hi ⟨o2, o3, o4, us, rfl, s1, hL, hl1, dM⟩ ⟨rfl, hx⟩
      obtain ⟨n, hn, rfl⟩ := at_map (l := N5) hx
      have hus : us.length < 100000 := by
        have := pre_len ps i
        rw [da_len dM, List.length_map]
        omega
      walk_at "rd"
      refine ⟨⟨_, s1.seq hs⟩, fun M nM => ?_⟩
      refine lc_coef (s1.seq hs) (dpAll_same s1 hd) hl n nM (fun _ => rfl) (fun pa y H' Z hp z => ?_) (fun pa y H' Z hp z => ?_) (fun H2 s2 hM => ?_)
      · walk_at "rd"
        refine ⟨_, _, _, _, rfl, rfl, hp, atI_nat (j := 0) rfl, ?_⟩
        walk_at "rd"
        exact z
      · walk_at "rd"
        exact ⟨_, _, _, _, rfl, rfl, hp, atI_nat (j := 1) rfl, z⟩
      · have hl2 := s2 _ _ hl1
        have hL2 := s2 _ _ hL
        have dM2 : DpAll K (mn H2 [l]) us ((pre ps i).map tmD) := dpAll_same (mn_all s2) dM
        walk_at "rd"
        refine ⟨M, _, rfl, sq hM, ?_⟩
        show gName 3 (.int (coef ps n)) _ _ _
        walk_at "rd"
        refine ite2 (fun h0 => ?_) (fun h0 => ?_)
        · have hc := int_nt h0
          walk_at "rd"
          refine ⟨.inl ⟨rfl, _, sq hl2⟩, ?_⟩
          walk_at "rd"
          refine ⟨sz (by show 2 ≤ 100000; decide), fun t nt => ?_⟩
          have ntl : t ≠ l := fun e => by rw [e, hl2] at nt; cases nt
          refine ⟨l, _, _, rfl, rfl, by rw [upd_ne ntl.symm]; exact hl2, szl hus, ?_⟩
          refine ⟨_, _, _, _, rfl, ?_, ?_, upd_same, ?_⟩
          · intro b o e
            have e2 := s2 _ _ (s1 _ _ e)
            by_cases hbl : b = l
            · rw [hbl, nl] at e
              cases e
            · rw [upd_ne hbl, upd_ne (ne_of_none e2 nt)]
              exact e2
          · rw [upd_ne nLl, upd_ne (ne_of_none hL2 nt)]
            exact hL2
          · rw [mn_upd (S := [l]) (by simp), pre_snoc hn, if_pos hc, List.map_append]
            refine da_app (dpAll_same (mn_new nt) dM2) (da_one (tm_dp (x := (n, coef ps n)) (sqt (mn_at ?_ upd_same))))
            exact fun z => ntl (List.mem_singleton.mp z)
        · have hc := int_nf h0
          refine ⟨_, _, _, us, rfl, Same.trans s1 s2, hL2, hl2, ?_⟩
          rw [pre_snoc hn, if_neg (fun z => z hc), List.append_nil]
          exact dM2
    · rintro σ H1 ⟨o2, o3, o4, us, rfl, s1, hL, hl1, dM⟩
      have e5 : pre ps (List.map V.str N5).length = tms ps := rfl
      have dM1 := dpAll_same mn_same dM
      rw [e5] at dM1
      walk_at "rd"
      refine ⟨l, us, rfl, .inl ⟨sq hl1, fun t nt => ?_⟩⟩
      have st := same_new nt (o := .tup us)
      exact q t us _ (Same.trans s1 st) (s1.free nt) (sqt upd_same) (dpAll_same st dM1)
@[irreducible] def spScaled (K : PySem.W.Frag) : Sp := fun vs H Q _ => ∃ (a : Addr) (k : Int) (xs : List V) (ps : List Tr5), vs = [.ref a, .int k] ∧ SqL K H a xs ∧ DpAll K H xs (ps.map tmD) ∧ ps.length ≤ 60 ∧ k.natAbs < 2 ^ 40 ∧ (∀ x ∈ ps, x.2.natAbs < 2 ^ 40) ∧ ∀ r us H', Same H H' → H r = none → H' r = some (.lst us) → DpAll K H' us ((scl k ps).map tmD) → Q (.ref r) H'
theorem ok_scaled {f : Addr} {fd : FuncData} (F : Fun K "_law_scaled" "_law_scaled" s__law_scaled f fd) : FnOk P w K mg base CX0 1 f fd ["_law_pairs_here", "_law_factor"] (spScaled K) := by
  refine F.ok sc__law_scaled (fun vs H Q E h => ?_) (fun cdv A outer s H vs Q E hr h => ?_)
  · unfold spScaled at h
    obtain ⟨a, k, xs, ps, rfl, _⟩ := h
    rfl
  · unfold spScaled at h
    obtain ⟨a, k, xs, ps, rfl, hs, hd, hl, hk, hb, q⟩ := h
    have hxl : xs.length = ps.length := by rw [da_len hd, List.length_map]
    refine ⟨_, (pss_one (ps_ret (pe_lc (own := [("_law_pair", 2)]) (tt := tYes) rfl sc__law_scaled.nd (pi_list (pv 0)) (blkOk_by (N := n__law_scaled) (sc := defScope s__law_scaled) (by decide +kernel)) (fun _ _ _ _ _ => pg_name (i := 2) sc__law_scaled.nd rfl (Or.inl rfl)) (fun _ _ _ _ _ => pts_nil) (fun _ _ _ _ _ => (pe_tup (pa_cons (pe_ix (ix_tupK (K := K) rfl) (pv 2) pe_int (fun _ _ => rfl)) (pa_cons (pe_op op_mulW (pv 1) (pe_ix (ix_tupK (K := K) rfl) (pv 2) pe_int (fun _ _ => rfl))) pa_nil))))))), ?_⟩
    walk_at "rd"
    refine ⟨⟨_, hs⟩, fun M nM => ?_⟩
    refine lc_it walk_list (fun n H' => ∃ us, H' M = some (.lst us) ∧ DpAll K (mn H' [M]) us ((scl k (ps.take n)).map tmD) ∧ Same H H') ⟨[], upd_same, .nil, same_new nM⟩ (fun n H' _ ⟨_, _, _, s⟩ => s.seq hs) ?_ ?_
    · rintro n x H1 H2 hi ⟨us, hM, dM, s2⟩ ⟨rfl, hx⟩
      obtain ⟨y, hy, pa, rfl, hpa⟩ := tm_at hd hx
      have hpa2 := Bx.Same.tup s2 hpa
      have hnl := (List.getElem?_eq_some_iff.mp hy).1
      have hul : us.length < 100000 := by
        rw [da_len dM, List.length_map, scl, List.length_map, List.length_take]
        omega
      refine ⟨rfl, ?_⟩
      walk_at "rd"
      refine ⟨_, _, _, _, rfl, rfl, hpa2, atI_nat (j := 0) rfl, ?_⟩
      walk_at "rd"
      refine ⟨_, _, _, _, rfl, rfl, hpa2, atI_nat (j := 1) rfl, ?_⟩
      walk_at "rd"
      refine ⟨wide_mul hk (hb y (List.mem_of_getElem? hy)) (by decide) (by decide) (by decide), ?_⟩
      walk_at "rd"
      refine ⟨sz (by show 2 ≤ 100000; decide), fun t nt => ?_⟩
      have st := same_new nt (o := .tup [V.str y.1, V.int (k * y.2)])
      refine ⟨_, st _ _ hM, szl hul, us ++ [.ref t], upd_same, ?_, same_at nM (Same.trans s2 st)⟩
      rw [mn_upd (S := [M]) List.mem_cons_self, List.take_add_one, hy, scl, List.map_append, List.map_append]
      refine da_app (dpAll_same (mn_all st) dM) (da_one (tm_dp (x := (y.1, k * y.2)) (sqt (mn_at ?_ upd_same))))
      exact fun z => ne_of_none hM nt (List.mem_singleton.mp z).symm
    · rintro H3 ⟨us, hM, dM, s3⟩
      rw [hxl, List.take_length] at dM
      exact q M us H3 s3 nM hM (dpAll_same mn_same dM)
end
end K23
namespace K23
local macro_rules | `(tactic| walk_at "rd") => `(tactic| repeat (first | refine ⟨rfl, ?_⟩ | refine ⟨_, rfl, ?_⟩ | refine ⟨_, _, rfl, rfl, ?_⟩ | refine ⟨⟨_, rfl⟩, ?_⟩))
open PySem PySem.Spec PyProof.Rows L2 Bx TL Dx Zx Ow M23 M30
section
variable {P : Program} {w : World} {K : PySem.W.Frag} {mg : Str → Option Value} {base : Heap}
theorem lay_ts {l : List Tr5} (h : ∀ x ∈ l, PyData.strOk x.1 = true) : Lays 1 (l.map tmD) := lays_of fun d hd => by
  obtain ⟨x, hx, rfl⟩ := List.mem_map.mp hd
  exact lay_tuple (lays_cons (lay_str (h x hx)) (lays_cons lay_int lays_nil))
theorem in5_ok {l : List Tr5} (h : In5 l) : ∀ x ∈ l, PyData.strOk x.1 = true := fun x hx => n5_ok _ (h x hx)
structure CO (P : Program) (w : World) (K : PySem.W.Frag) (mg : Str → Option Value) (base : Heap) (C : Addr) : Prop where
  len : OwM P w K mg base CX0 C "__len__" 1 ["self"] (spLen K C)
  cont : OwM P w K mg base CX0 C "__contains__" 1 ["self", "x"] (spCont K C)
  get : OwM P w K mg base CX0 C "__getitem__" 1 ["self", "at"] (spGet K C)
  fi : ∀ f, PySem.W.findIn K (.ref C) "__getitem__" = some (some (.ref f)) → PySem.W.fnIn K f = true
  it : ItM P w K mg base C "terms" 1
  cf : CF K C
@[irreducible] def spSame (K : PySem.W.Frag) (C : Addr) : Sp := fun vs H Q _ => ∃ (p a : Addr) (xs : List V) (ps qs : List Tr5), vs = [.ref p, .ref a] ∧ SumAt K C H p ps ∧ SqL K H a xs ∧ DpAll K H xs (qs.map tmD) ∧ In5 ps ∧ In5 qs ∧ qs.length ≤ 60 ∧ tms ps = tms qs ∧ ∀ H', Same H H' → Q (.bl true) H'
theorem ok_same {C : Addr} (co : CO P w K mg base C) {f : Addr} {fd : FuncData} (F : Fun K "_law_same" "_law_same" s__law_same f fd) (m_isinstance : mg "isinstance" = none) (m_tuple : mg "tuple" = none) (m_len : mg "len" = none) (m_list : mg "list" = none) (m_int : mg "int" = none) (m_bool : mg "bool" = none) (m_sum : mg "sum" = none)
    (C__law_terms : Cal P w K mg base "_law_terms" 1 ["_law_pairs_here"] (spTerms K)) : FnOk P w K mg base CX0 3 f fd ["_law_actual", "_law_pairs_here"] (spSame K C) := by
  have O___len__ := co.len
  have O___contains__ := co.cont
  have O___getitem__ := co.get
  have fi_getitem := co.fi
  have I_Sum := co.it
  have cf := co.cf
  refine F.ok sc__law_same (fun vs H Q E h => ?_) (fun cdv A outer s H vs Q E hr h => ?_)
  · unfold spSame at h
    obtain ⟨p, a, xs, ps, qs, rfl, _⟩ := h
    rfl
  · unfold spSame at h
    obtain ⟨p, a, xs, ps, qs, rfl, hS, hs, hd, h5, k5, hl, eq, q⟩ := h
    obtain ⟨dx, t, zs, hp, ht, hz⟩ := id hS
    have L2' : Lay 2 (.tuple ((tms ps).map tmD)) := lay_tuple (lay_ts (in5_ok (in5_tms ps)))
    have L3' : Lay 2 (.list ((tms ps).map tmD)) := lay_list (lay_ts (in5_ok (in5_tms ps)))
    have hzl : zs.length = (tms ps).length := by rw [da_len hz, List.length_map]
    refine ⟨_, (pss_cons (ps_set (i := 2) sc__law_same.nd rfl (Or.inl rfl) (pe_cal C__law_terms (hr.mono (by decide)) (pa_cons (pv 1) pa_nil)))
    (pss_cons (ps_if (PW.pt (pw_or (pt_not (pt_val (pe_callB (id := "isinstance") call_isi (by rfl) m_isinstance (by decide +kernel) (pa_cons (pe_fld (pv 0) rfl) (pa_cons (pe_bltn (v := .ty "tuple") (by rfl) m_tuple (by decide +kernel) rfl) pa_nil))))) (pw_or (pt_cmpR (op_neD hr.units) (pe_fld (pv 0) rfl) (pv 2) (nomark _)) (pw_or1 (pt_cmpR op_ne (pe_callB (call_lenO O___len__ (hr.mono (by decide))) (by rfl) m_len PySem.boot_len (pa_cons (pv 0) pa_nil)) (pe_callB call_len_seq (by rfl) m_len PySem.boot_len (pa_cons (pv 2) pa_nil)) (nomark _))))))
      (pss_one (ps_ret pe_bl))
      pss_nil)
    (pss_cons (ps_if (pt_cmpR (op_neD hr.units) (pe_lc (own := [("_law_term", 5)]) (tt := tYes) rfl sc__law_same.nd (pi_iterO I_Sum (hr.mono (by decide)) (pv 0)) (blkOk_by (N := n__law_same) (sc := defScope s__law_same) (by decide +kernel)) (fun _ _ _ _ _ => pg_name (i := 5) sc__law_same.nd rfl (Or.inl rfl)) (fun _ _ _ _ _ => pts_nil) (fun _ _ _ _ _ => (pv 5))) (pe_callTy (T := "list") call_list_of (by rfl) m_list (by decide +kernel) (pa_cons (pv 2) pa_nil)) (nomark _))
      (pss_one (ps_ret pe_bl))
      pss_nil)
    (pss_cons (ps_for PassesOwn.never rfl (pi_tup (pe_fld (pv 0) rfl)) (pg_tup rfl (pgs_cons (pg_name (i := 3) sc__law_same.nd rfl (Or.inr rfl)) (pgs_cons (pg_name (i := 4) sc__law_same.nd rfl (Or.inl rfl)) pgs_nil)))
      (pss_one (ps_if (PW.pt (pw_or (pt_not (pt_val (pe_callB (id := "isinstance") call_isi (by rfl) m_isinstance (by decide +kernel) (pa_cons (pv 4) (pa_cons (pe_bltn (v := .ty "int") (by rfl) m_int (by decide +kernel) rfl) pa_nil))))) (pw_or1 (pt_val (pe_callB (id := "isinstance") call_isi (by rfl) m_isinstance (by decide +kernel) (pa_cons (pv 4) (pa_cons (pe_bltn (v := .ty "bool") (by rfl) m_bool (by decide +kernel) rfl) pa_nil)))))))
      (pss_one (ps_ret pe_bl))
      pss_nil)))
    (pss_cons (ps_for PassesOwn.never rfl (pi_list (pe_lst (pa_cons pe_str (pa_cons pe_str (pa_cons pe_str (pa_cons pe_str (pa_cons pe_str pa_nil))))))) (pg_name (i := 3) sc__law_same.nd rfl (Or.inr rfl))
      (pss_cons (ps_set (i := 4) sc__law_same.nd rfl (Or.inl rfl) (pe_callB (id := "sum") (cr_sum rfl) (by rfl) m_sum (by decide +kernel) (pa_cons (pe_lc (own := [("_law_pair", 6)]) rfl sc__law_same.nd (pi_list (pv 1)) (blkOk_by (N := n__law_same) (sc := defScope s__law_same) (by decide +kernel)) (fun _ _ _ _ _ => pg_name (i := 6) sc__law_same.nd rfl (Or.inl rfl)) (fun _ _ _ _ _ => pts_one (pt_cmpR op_eq (pe_ix (ix_tupK (K := K) rfl) (pv 6) pe_int (fun _ _ => rfl)) (pv 3) (nomark _))) (fun _ _ _ _ _ => (pe_ix (ix_tupK (K := K) rfl) (pv 6) pe_int (fun _ _ => rfl)))) pa_nil)))
    (pss_one (ps_if (PW.pt (pw_or (pt_cmpR op_ne (pe_subO0 O___getitem__ fi_getitem (hr.mono (by decide)) (pv 0) (pv 3)) (pv 4) (nomark _)) (pw_or1 (pt_cmpR op_ne (pe_cmpR (op_inO O___contains__ (hr.mono (by decide))) (pv 3) (pv 0) (by rfl)) (pe_cmpR op_ne (pv 4) pe_int (nomark _)) (nomark _)))))
      (pss_one (ps_ret pe_bl))
      pss_nil))))
    (pss_one (ps_ret pe_bl))))))), ?_⟩
    walk_at "rd"
    unfold spTerms
    refine ⟨a, xs, qs, rfl, hs, hd, hl, fun t2 z2 H1 s1 n2 h2 d2 => ?_⟩
    rw [← eq] at d2
    have hp1 := s1 _ _ hp
    have ht1 := ht.same s1
    have hz1 := dpAll_same s1 hz
    have hzl2 : z2.length = (tms ps).length := by rw [da_len d2, List.length_map]
    walk_at "rd"
    refine ⟨p, C, dx, _, _, rfl, hp1, cf.cl, cf.nT, fS_at t, ?_⟩
    walk_at "rd"
    refine ⟨_, _, _, _, true, rfl, .ty "tuple", ty_tup ht1.sq, kit_ty (by decide +kernel), ?_⟩
    walk_at "rd"
    refine ⟨p, C, dx, _, _, rfl, hp1, cf.cl, cf.nT, fS_at t, ?_⟩
    walk_at "rd"
    refine ⟨_, _, .tup ht1.sq hz1, .tup h2 d2, shape L2' (by decide), shape L2' (by decide), ?_⟩
    rw [eq_refl L2']
    walk_at "rd"
    unfold spLen
    refine ⟨p, dx, _, rfl, hp1, p, ps, rfl, hS.same s1, (tms ps).length, rfl, by have := tms_len ps; omega, ?_⟩
    walk_at "rd"
    refine ⟨_, _, rfl, .inr h2, ?_⟩
    rw [hzl2]
    walk_at "rd"
    refine ite2 (fun h => absurd rfl (int_nt h)) (fun _ => ?_)
    walk_at "rd"
    refine ⟨p, dx, _, t, zs, rfl, hp1, fS_at t, ht1.sq, fun M nM => ?_⟩
    refine lc_it walk_tup (fun n H' => H' = upd H1 M (.lst (zs.take n))) rfl (fun n H' _ e => e ▸ Bx.Same.tup (same_new nM) ht1.sq) ?_ ?_
    · rintro n x H2 H2' hi rfl ⟨rfl, hx⟩
      refine ⟨rfl, ?_⟩
      walk_at "rd"
      refine ⟨_, upd_same, ?_, ?_⟩
      · rw [List.length_take]
        have := tms_len ps
        exact szl (by omega)
      · rw [upd_upd, List.take_add_one, hx]
        rfl
    rintro H2 rfl
    have sM := same_new nM (o := .lst (zs.take zs.length))
    have hM : (upd H1 M (.lst (zs.take zs.length))) M = some (.lst zs) := by rw [upd_same, List.take_length]
    generalize upd H1 M (.lst (zs.take zs.length)) = H2 at *
    walk_at "rd"
    refine ⟨_, _, rfl, .inr (Bx.Same.tup sM h2), fun N nN => ?_⟩
    have sN := same_new nN (o := .lst z2)
    walk_at "rd"
    refine ⟨_, _, .lst (sq (sN _ _ hM)) (dpAll_same (Same.trans sM sN) hz1), .lst (sq upd_same) (dpAll_same (Same.trans sM sN) d2), shape L3' (by decide), shape L3' (by decide), ?_⟩
    rw [eq_refl L3']
    have s3 := Same.trans s1 (Same.trans sM sN)
    generalize upd H2 N (.lst z2) = H3 at *
    walk_at "rd"
    refine ⟨p, C, dx, _, _, rfl, s3 _ _ hp, cf.cl, cf.nT, fS_at t, ?_⟩
    walk_at "rd"
    have hcoef : ∀ n, coef ps n = coef qs n := fun n => by rw [← coef_tms h5, eq, coef_tms k5]
    have ht3 := ht.same s3
    have hz3 := dpAll_same s3 hz
    refine ⟨⟨_, ht3.sq⟩, for_it walk_tup (fun i σ H' => ∃ o3 o4 o5 o6 : Option V, σ = [some (.ref p), some (.ref a), some (.ref t2), o3, o4, o5, o6] ∧ H' = H3) ⟨none, none, none, none, rfl, rfl⟩ (fun i σ H' _ ⟨_, _, _, _, _, e⟩ => e ▸ ht3.sq) ?_ ?_⟩
    · rintro i x σ H4 H4' hi ⟨o3, o4, o5, o6, rfl, rfl⟩ ⟨rfl, hx⟩
      obtain ⟨y, hy, pa, rfl, hpa⟩ := tm_at hz3 hx
      refine ⟨_, _, rfl, hpa, rfl, _, _, rfl, _, _, rfl, rfl, ?_⟩
      walk_at "rd"
      refine ⟨_, _, _, _, true, rfl, .ty "int", .base (.int _), kit_ty (by decide +kernel), ?_⟩
      walk_at "rd"
      refine ⟨_, _, _, _, false, rfl, .ty "bool", .base (.int _), kit_ty (by decide +kernel), ?_⟩
      walk_at "rd"
      exact ⟨_, _, _, _, rfl, rfl⟩
    rintro σ H4 ⟨o3, o4, o5, o6, rfl, rfl⟩
    walk_at "rd"
    refine ⟨sz (by show 5 ≤ 100000; decide), fun L nL => ?_⟩
    have sL := same_new nL (o := .lst (N5.map V.str))
    refine ⟨L, rfl, ⟨_, sq upd_same⟩, for_it walk_list (fun i σ H' => ∃ o3 o4 o5 o6 : Option V, σ = [some (.ref p), some (.ref a), some (.ref t2), o3, o4, o5, o6] ∧ Same (upd H4 L (.lst (N5.map V.str))) H') ⟨_, _, _, _, rfl, Same.refl _⟩ (fun i σ H' _ ⟨_, _, _, _, _, e⟩ => sq (e _ _ upd_same)) ?_ ?_⟩
    · rintro i x σ H5 H5' hi ⟨o3, o4, o5, o6, rfl, s5⟩ ⟨rfl, hx⟩
      obtain ⟨n, hn, rfl⟩ := at_map (l := N5) hx
      have hn5 : n ∈ N5 := List.mem_of_getElem? hn
      have s05 := Same.trans s3 (Same.trans sL s5)
      walk_at "rd"
      refine ⟨⟨_, s05.seq hs⟩, fun M2 nM2 => ?_⟩
      refine lc_coef (s05.seq hs) (dpAll_same s05 hd) hl n nM2 (fun _ => rfl) (fun pa y H' Z hp z => ?_) (fun pa y H' Z hp z => ?_) (fun H6 s6 hM2 => ?_)
      · walk_at "rd"
        refine ⟨_, _, _, _, rfl, rfl, hp, atI_nat (j := 0) rfl, ?_⟩
        walk_at "rd"
        exact z
      · walk_at "rd"
        exact ⟨_, _, _, _, rfl, rfl, hp, atI_nat (j := 1) rfl, z⟩
      · have s06 := Same.trans s05 s6
        walk_at "rd"
        refine ⟨M2, _, rfl, sq hM2, ?_⟩
        show gName 4 (.int (coef qs n)) _ _ _
        walk_at "rd"
        unfold spGet
        refine ⟨p, dx, _, rfl, s06 _ _ hp, p, ps, n, rfl, hS.same s06, h5, fun H7 s7 => ?_⟩
        have s07 := Same.trans s06 s7
        rw [hcoef n]
        walk_at "rd"
        refine ite2 (fun h => absurd rfl (int_nt h)) (fun _ => ?_)
        walk_at "rd"
        unfold spCont
        refine ⟨p, dx, _, rfl, s07 _ _ hp, p, ps, n, rfl, hS.same s07, fun H8 s8 => ?_⟩
        walk_at "rd"
        have e8 : (decide (n ∈ (tms ps).map (·.1)) != false) = (!decide (V.int (coef qs n) = V.int 0)) := by
          have key : n ∈ (tms ps).map (·.1) ↔ coef qs n ≠ 0 := by
            rw [tms_names, List.mem_filter, hcoef n]
            exact ⟨fun z => of_decide_eq_true z.2, fun z => ⟨hn5, decide_eq_true z⟩⟩
          by_cases h0 : coef qs n = 0
          · rw [decide_eq_false (show ¬ n ∈ (tms ps).map (·.1) from fun z => key.mp z h0), h0]
            rfl
          · rw [decide_eq_true (key.mpr h0), decide_eq_false (show ¬ V.int (coef qs n) = V.int 0 from fun z => h0 (V.int.inj z))]
            rfl
        refine ite2 (fun h => absurd (congrArg V.bl e8) (ne_t h)) (fun _ => ?_)
        exact ⟨_, _, _, _, rfl, Same.trans s5 (Same.trans s6 (Same.trans s7 s8))⟩
    · rintro σ H5 ⟨o3, o4, o5, o6, rfl, s5⟩
      walk_at "rd"
      exact q H5 (Same.trans s3 (Same.trans sL s5))
end
end K23
namespace K23
local macro_rules | `(tactic| walk_at "rd") => `(tactic| repeat (first | refine ⟨rfl, ?_⟩ | refine ⟨_, rfl, ?_⟩ | refine ⟨_, _, rfl, rfl, ?_⟩ | refine ⟨⟨_, rfl⟩, ?_⟩))
open PySem PySem.Spec PyProof.Rows L2 Bx TL Dx Zx Ow M23 M30
section
variable {P : Program} {w : World} {K : PySem.W.Frag} {mg : Str → Option Value} {base : Heap}
/-- the operators -/
structure CP (P : Program) (w : World) (K : PySem.W.Frag) (mg : Str → Option Value) (base : Heap) (C : Addr) : Prop where
  add : OwM P w K mg base CX0 C (PySem.dunder "add") 4 ["self", "other"] (spAdd K C)
  sub : OwM P w K mg base CX0 C (PySem.dunder "sub") 4 ["self", "other"] (spSub K C)
  mul : OwM P w K mg base CX0 C (PySem.dunder "mul") 4 ["self", "other"] (spMul K C)
  rmul : OwM P w K mg base CX0 C "__rmul__" 4 ["self", "other"] (spMul K C)
  neg : OwM P w K mg base CX0 C "__neg__" 4 ["self"] (spNeg K C)
  bmul : BinF K C .Mult "int"
  hf1 : PySem.W.selfFirst K C = true
  hfm : ∃ f : Addr, PySem.W.findIn K (.ref C) "__mul__" = some (some (.ref f))
  hsb : PySem.W.subIn K (.ref C) (.type "int") = some false
theorem SumAt.at_ {C : Addr} {H : Hp} {p : Addr} {ps : List Tr5} (h : SumAt K C H p ps) : ∃ dx fs, H p = some (.ins C dx fs) := by
  obtain ⟨dx, t, zs, h1, _⟩ := h
  exact ⟨dx, _, h1⟩
theorem init_of {C : Addr} {H : Hp} {v : V} {ps : List Tr5} {R : VK} {E : XK} {x dx : Addr} (nx : H x = none) (nd : H dx = none) (hv : TmAt K H v ps) (h5 : In5 ps) (hl : ps.length ≤ 60) (q : ∀ H', Same H H' → SumAt K C H' x ps → R .non H') :
    spInit K C [.ref x, v] (upd (upd H dx (.own x)) x (.ins C dx [])) R E := by
  have s1 : Same H (upd (upd H dx (.own x)) x (.ins C dx [])) := fun b o e => by
    rw [upd_ne (ne_of_none e nx), upd_ne (ne_of_none e nd)]
    exact e
  unfold spInit
  exact ⟨x, dx, v, ps, rfl, upd_same, hv.same s1, h5, hl, fun H' hs sb => q H' (fun b o e => sb b o (ne_of_none e nx) (s1 b o e)) hs⟩
/-- a list of pairs, with bounds -/
structure Prs (K : PySem.W.Frag) (H : Hp) (a : Addr) (ps : List Tr5) : Prop where
  at_ : ∃ xs, H a = some (.lst xs) ∧ DpAll K H xs (ps.map tmD)
  h5 : In5 ps
  len : ps.length ≤ 12
  bnd : ∀ x ∈ ps, x.2.natAbs < 2 ^ 40
theorem Prs.same {H H' : Hp} {a : Addr} {ps : List Tr5} (s : Same H H') (h : Prs K H a ps) : Prs K H' a ps := by
  obtain ⟨⟨xs, h1, h2⟩, h3, h4, h6⟩ := h
  exact ⟨⟨xs, s _ _ h1, dpAll_same s h2⟩, h3, h4, h6⟩
theorem big_of {ps : List Tr5} (hl : ps.length ≤ 12) (hb : ∀ x ∈ ps, x.2.natAbs < 2 ^ 40) : Big ps := fun x hx => by
  obtain ⟨e, _⟩ := tms_mem hx
  have h := coef_size (B := 2 ^ 40) (ps := ps) (fun y hy => Nat.le_of_lt (hb y hy)) x.1
  rw [e]
  have h2 : ps.length * 2 ^ 40 ≤ 12 * 2 ^ 40 := Nat.mul_le_mul_right _ hl
  exact Nat.lt_of_le_of_lt (Nat.le_trans h h2) (by decide)
theorem same_of {C : Addr} {H : Hp} {p a : Addr} {xs : List V} {ps qs : List Tr5} {Q : VK} {E : XK} (hS : SumAt K C H p ps) (hs : SqL K H a xs) (hd : DpAll K H xs (qs.map tmD)) (h5 : In5 ps) (k5 : In5 qs) (hl : qs.length ≤ 60) (eq : tms ps = tms qs) (q : ∀ H', Same H H' → Q (.bl true) H') : spSame K C [.ref p, .ref a] H Q E := by
  unfold spSame
  exact ⟨p, a, xs, ps, qs, rfl, hS, hs, hd, h5, k5, hl, eq, q⟩
abbrev CSame (P : Program) (w : World) (K : PySem.W.Frag) (mg : Str → Option Value) (base : Heap) (C : Addr) : Prop := Cal P w K mg base "_law_same" 3 ["_law_actual", "_law_pairs_here"] (spSame K C)
abbrev CScl (P : Program) (w : World) (K : PySem.W.Frag) (mg : Str → Option Value) (base : Heap) : Prop := Cal P w K mg base "_law_scaled" 1 ["_law_pairs_here", "_law_factor"] (spScaled K)
theorem scl_len (k : Int) (ps : List Tr5) : (scl k ps).length = ps.length := by
  unfold scl
  rw [List.length_map]
theorem scaled_of {H : Hp} {a : Addr} {k : Int} {ps : List Tr5} {Q : VK} {E : XK} (hA : Prs K H a ps) (hk : k.natAbs < 2 ^ 40) (q : ∀ r us H', Same H H' → H r = none → H' r = some (.lst us) → DpAll K H' us ((scl k ps).map tmD) → Q (.ref r) H') : spScaled K [.ref a, .int k] H Q E := by
  obtain ⟨⟨xs, h1, h2⟩, h3, h4, h6⟩ := hA
  unfold spScaled
  exact ⟨a, k, xs, ps, rfl, sq h1, h2, by omega, hk, h6, q⟩
def spSigns (K : PySem.W.Frag) : Sp := fun vs H Q _ => ∃ (a b : Addr) (k : Int) (ps qs : List Tr5), vs = [.ref a, .ref b, .int k] ∧ Prs K H a ps ∧ Prs K H b qs ∧ k.natAbs < 2 ^ 40 ∧ ∀ H', Same H H' → Q (.bl true) H'
theorem ok_signs_right {C : Addr} (cp : CP P w K mg base C) {f : Addr} {fd : FuncData} (F : Fun K "_law_signs_right" "_law_signs_right" s__law_signs_right f fd) (m_tuple : mg "tuple" = none) (m_list : mg "list" = none) (K_Sum : MkS P w K mg base C) (C__law_same : CSame P w K mg base C) (C__law_scaled : CScl P w K mg base) :
    FnOk P w K mg base CX0 6 f fd ["_law_left", "_law_right", "_law_factor"] (spSigns K) := by
  have O___add__ := cp.add
  have O___sub__ := cp.sub
  have O___mul__ := cp.mul
  have O___rmul__ := cp.rmul
  have O___neg__ := cp.neg
  have B___mul__ := cp.bmul
  have hf1 := cp.hf1
  have hfm := cp.hfm
  have hsb := cp.hsb
  refine F.ok sc__law_signs_right (fun vs H Q E h => ?_) (fun cdv A outer s H vs Q E hr h => ?_)
  · obtain ⟨a, b, k, ps, qs, rfl, _⟩ := h
    rfl
  · obtain ⟨a, b, k, ps, qs, rfl, hA, hB, hk, q⟩ := h
    obtain ⟨⟨xs, hxs, hxd⟩, h5, hal, hab⟩ := id hA
    obtain ⟨⟨ys, hys, hyd⟩, k5, hbl, hbb⟩ := id hB
    have hxl : xs.length = ps.length := by rw [da_len hxd, List.length_map]
    have hyl : ys.length = qs.length := by rw [da_len hyd, List.length_map]
    refine ⟨_, (pss_cons (ps_set (i := 3) sc__law_signs_right.nd rfl (Or.inl rfl) (pe_mak K_Sum (hr.mono (by decide)) (pa_cons (pe_callTy (T := "tuple") call_tuple_of (by rfl) m_tuple (by decide +kernel) (pa_cons (pv 0) pa_nil)) pa_nil)))
    (pss_cons (ps_set (i := 4) sc__law_signs_right.nd rfl (Or.inl rfl) (pe_mak K_Sum (hr.mono (by decide)) (pa_cons (pe_callTy (T := "list") call_list_of (by rfl) m_list (by decide +kernel) (pa_cons (pv 1) pa_nil)) pa_nil)))
    (pss_cons (ps_if (PW.pt (pw_or (pt_not (pt_val (pe_cal C__law_same (hr.mono (by decide)) (pa_cons (pe_op (op_same O___add__ hf1 (hr.mono (by decide))) (pv 3) (pv 4)) (pa_cons (pe_op op_cat (pv 0) (pv 1)) pa_nil))))) (pw_or1 (pt_not (pt_val (pe_cal C__law_same (hr.mono (by decide)) (pa_cons (pe_op (op_same O___sub__ hf1 (hr.mono (by decide))) (pv 3) (pv 4)) (pa_cons (pe_op op_cat (pv 0) (pe_cal C__law_scaled (hr.mono (by decide)) (pa_cons (pv 1) (pa_cons (pe_un un_neg pe_int) pa_nil)))) pa_nil))))))))
      (pss_one (ps_ret pe_bl))
      pss_nil)
    (pss_cons (ps_if (PW.pt (pw_or (pt_not (pt_val (pe_cal C__law_same (hr.mono (by decide)) (pa_cons (pe_un (un_negO O___neg__ (hr.mono (by decide))) (pv 3)) (pa_cons (pe_cal C__law_scaled (hr.mono (by decide)) (pa_cons (pv 0) (pa_cons (pe_un un_neg pe_int) pa_nil))) pa_nil))))) (pw_or1 (pt_not (pt_val (pe_cal C__law_same (hr.mono (by decide)) (pa_cons (pe_op (op_same O___sub__ hf1 (hr.mono (by decide))) (pv 3) (pv 3)) (pa_cons (pe_lst pa_nil) pa_nil))))))))
      (pss_one (ps_ret pe_bl))
      pss_nil)
    (pss_cons (ps_if (pt_not (pt_val (pe_cal C__law_same (hr.mono (by decide)) (pa_cons (pe_op (op_ownT (T := "int") O___mul__ B___mul__ (hr.mono (by decide))) (pv 3) (pv 2)) (pa_cons (pe_cal C__law_scaled (hr.mono (by decide)) (pa_cons (pv 0) (pa_cons (pv 2) pa_nil))) pa_nil)))))
      (pss_one (ps_ret pe_bl))
      pss_nil)
    (pss_cons (ps_if (pt_not (pt_val (pe_cal C__law_same (hr.mono (by decide)) (pa_cons (pe_op (op_mulR O___rmul__ hf1 hfm hsb (hr.mono (by decide))) (pv 2) (pv 4)) (pa_cons (pe_cal C__law_scaled (hr.mono (by decide)) (pa_cons (pv 1) (pa_cons (pv 2) pa_nil))) pa_nil)))))
      (pss_one (ps_ret pe_bl))
      pss_nil)
    (pss_one (ps_ret (pe_and (pe_cal C__law_same (hr.mono (by decide)) (pa_cons (pv 3) (pa_cons (pv 0) pa_nil))) (pe_one (pe_cal C__law_same (hr.mono (by decide)) (pa_cons (pv 4) (pa_cons (pv 1) pa_nil))))))))))))), ?_⟩
    walk_at "rd"
    refine ⟨a, xs, rfl, (.inl ⟨sq hxs, fun t nt => ?_⟩)⟩
    have st := same_new nt (o := .tup xs)
    walk_at "rd"
    intro p dp np nd _
    refine init_of (ps := ps) np nd (.inr (.tup (sqt upd_same) (dpAll_same st hxd))) h5 (by omega) fun H1 s1 hp => ⟨rfl, ?_⟩
    have s01 := Same.trans st s1
    walk_at "rd"
    refine ⟨b, ys, rfl, .inl (sq (s01 _ _ hys)), fun l nl => ?_⟩
    have sl := same_new nl (o := .lst ys)
    walk_at "rd"
    intro r dr nr nd2 _
    refine init_of (ps := qs) nr nd2 (.inl (.lst (sq upd_same) (dpAll_same (Same.trans s01 sl) hyd))) k5 (by omega) fun H2 s2 hr1 => ⟨rfl, ?_⟩
    have s12 := Same.trans sl s2
    have s02 := Same.trans s01 s12
    have hp2 := hp.same s12
    clear st s1 sl s2
    walk_at "rd"
    obtain ⟨dx, fs, e1⟩ := hp2.at_
    obtain ⟨dy, gs, e2⟩ := hr1.at_
    refine ⟨p, r, dx, dy, fs, gs, rfl, rfl, e1, e2, ?_⟩
    unfold spAdd
    refine ⟨p, r, ps, qs, rfl, hp2, hr1, h5, k5, fun u H3 s3 nu hu1 => ?_⟩
    have s03 := Same.trans s02 s3
    walk_at "rd"
    refine ⟨a, b, xs, ys, rfl, rfl, s03 _ _ hxs, s03 _ _ hys, sz (by omega), fun l3 n3 => ?_⟩
    have sl3 := same_new n3 (o := .lst (xs ++ ys))
    have s04 := Same.trans s03 sl3
    refine same_of (hu1.same sl3) (sq upd_same) (by rw [List.map_append]; exact da_app (dpAll_same s04 hxd) (dpAll_same s04 hyd)) (in5_app h5 k5) (in5_app h5 k5) (by rw [List.length_append]; omega) rfl fun H4 s4 => ?_
    have s05 := Same.trans s04 s4
    have s24 := Same.trans (Same.trans s3 sl3) s4
    clear s3 sl3 s4 s04 s03
    have hp4 := hp2.same s24
    have hr4 := hr1.same s24
    walk_at "rd"
    refine ⟨p, r, dx, dy, fs, gs, rfl, rfl, s24 _ _ e1, s24 _ _ e2, ?_⟩
    unfold spSub
    refine ⟨p, r, ps, qs, rfl, hp4, hr4, h5, k5, fun u H5 s5 nu hu5 => ?_⟩
    walk_at "rd"
    refine scaled_of ((hB.same s05).same s5) (by decide) fun l6 us H6 s6 n6 h6 d6 => ?_
    have hul : us.length = qs.length := by rw [da_len d6, List.length_map, scl_len]
    have s06 := Same.trans s05 (Same.trans s5 s6)
    walk_at "rd"
    refine ⟨a, l6, xs, us, rfl, rfl, s06 _ _ hxs, h6, sz (by omega), fun l7 n7 => ?_⟩
    have s7 := same_new n7 (o := .lst (xs ++ us))
    have m5 : In5 (ps ++ scl (-1) qs) := in5_app h5 (in5_scale _ k5)
    refine same_of (hu5.same (Same.trans s6 s7)) (sq upd_same) (by rw [List.map_append]; exact da_app (dpAll_same (Same.trans s06 s7) hxd) (dpAll_same s7 d6)) m5 m5 (by rw [List.length_append, scl_len]; omega) rfl fun H8 s8 => ?_
    have s08 := Same.trans (Same.trans s06 s7) s8
    have s48 := Same.trans (Same.trans (Same.trans s5 s6) s7) s8
    clear s5 s6 s7 s8 s06 hu5
    have hp8 := hp4.same s48
    have hr8 := hr4.same s48
    have e18 := s48 _ _ (s24 _ _ e1)
    have e28 := s48 _ _ (s24 _ _ e2)
    have hA8 := hA.same s08
    have hB8 := hB.same s08
    have q8 : ∀ H', Same H8 H' → Q (.bl true) H' := fun H' s => q H' (Same.trans s08 s)
    have hxs8 := s08 _ _ hxs
    have hxd8 := dpAll_same s08 hxd
    have hys8 := s08 _ _ hys
    have hyd8 := dpAll_same s08 hyd
    clear q s08 s48 hA hB hp4 hr4 e1 e2 s05 s24 hp2 hr1
    have nl5 : In5 (scl (-1) ps) := in5_scale _ h5
    walk_at "rd"
    refine ⟨p, dx, fs, rfl, e18, ?_⟩
    unfold spNeg
    refine ⟨p, ps, rfl, hp8, h5, fun u H9 s9 nu hu9 => ?_⟩
    walk_at "rd"
    refine scaled_of (hA8.same s9) (by decide) fun l10 vs H10 s10 n10 h10 d10 => ?_
    refine same_of (hu9.same s10) (sq h10) d10 nl5 nl5 (by rw [scl_len]; omega) rfl fun H11 s11 => ?_
    have sA := Same.trans s9 (Same.trans s10 s11)
    walk_at "rd"
    refine ⟨p, p, dx, dx, fs, fs, rfl, rfl, sA _ _ e18, sA _ _ e18, ?_⟩
    refine ⟨p, p, ps, ps, rfl, hp8.same sA, hp8.same sA, h5, h5, fun u2 H12 s12' nu2 hu12 => ?_⟩
    walk_at "rd"
    refine ⟨sz (by decide), fun l13 n13 => ?_⟩
    have s13 := same_new n13 (o := .lst [])
    refine same_of (qs := []) (hu12.same s13) (sq upd_same) .nil (in5_app h5 nl5) (fun x hx => nomatch hx) (by decide) (by rw [tms_nil]; exact tms_minus h5) fun H14 s14 => ?_
    have sB := Same.trans sA (Same.trans s12' (Same.trans s13 s14))
    walk_at "rd"
    refine ⟨p, dx, fs, rfl, sB _ _ e18, .int k, ?_⟩
    unfold spMul
    have big := big_of hal hab
    have bigq := big_of hbl hbb
    have hk3 : k.natAbs < 2 ^ 100 := lt_up hk (by decide)
    refine ⟨p, k, ps, rfl, hp8.same sB, h5, big, hk3, fun u3 H15 s15 nu3 hu15 => ?_⟩
    have sk5 : In5 (scl k ps) := in5_scale _ h5
    have sk6 : In5 (scl k qs) := in5_scale _ k5
    walk_at "rd"
    refine scaled_of (hA8.same (Same.trans sB s15)) hk fun l16 ws H16 s16 n16 h16 d16 => ?_
    refine same_of (hu15.same s16) (sq h16) d16 sk5 sk5 (by rw [scl_len]; omega) rfl fun H17 s17 => ?_
    have sC := Same.trans sB (Same.trans s15 (Same.trans s16 s17))
    walk_at "rd"
    refine ⟨r, dy, gs, k, rfl, rfl, sC _ _ e28, ?_⟩
    refine ⟨r, k, qs, rfl, hr8.same sC, k5, bigq, hk3, fun u4 H18 s18 nu4 hu18 => ?_⟩
    walk_at "rd"
    refine scaled_of (hB8.same (Same.trans sC s18)) hk fun l19 zs H19 s19 n19 h19 d19 => ?_
    refine same_of (hu18.same s19) (sq h19) d19 sk6 sk6 (by rw [scl_len]; omega) rfl fun H20 s20 => ?_
    have sD := Same.trans sC (Same.trans s18 (Same.trans s19 s20))
    walk_at "rd"
    refine same_of (hp8.same sD) (sq (sD _ _ hxs8)) (dpAll_same sD hxd8) h5 h5 (by omega) rfl fun H21 s21 => ?_
    have sE := Same.trans sD s21
    walk_at "rd"
    refine same_of (hr8.same sE) (sq (sE _ _ hys8)) (dpAll_same sE hyd8) k5 k5 (by omega) rfl fun H22 s22 => ?_
    exact q8 H22 (Same.trans sE s22)
end
end K23
namespace K23
local macro_rules | `(tactic| walk_at "rd") => `(tactic| repeat (first | refine ⟨rfl, ?_⟩ | refine ⟨_, rfl, ?_⟩ | refine ⟨_, _, rfl, rfl, ?_⟩ | refine ⟨⟨_, rfl⟩, ?_⟩))
open PySem PySem.Spec PyProof.Rows L2 Bx TL Dx Zx Ow M23 M30
section
variable {P : Program} {w : World} {K : PySem.W.Frag} {mg : Str → Option Value} {base : Heap}
/-! ### the form of terms -/
theorem okT_zero {l : List Tr5} {x : Tr5} (h : x.2 = 0) : okT (l ++ [x]) = false := by
  unfold okT
  have : (l ++ [x]).all (fun x => decide (x.2 ≠ 0)) = false := by
    rw [List.all_append]
    simp [h]
  rw [this, Bool.and_false]
theorem okT_bad {l : List Tr5} {z x : Tr5} (h : ¬ z.1.cps.toList < x.1.cps.toList) : okT ((l ++ [z]) ++ [x]) = false := by
  unfold okT
  have : ascB (((l ++ [z]) ++ [x]).map (·.1)) = false := Bool.eq_false_iff.mpr fun q => by
    have q2 := ascB_iff.mp q
    rw [List.map_append, List.map_append] at q2
    exact h ((List.pairwise_append.mp q2).2.2 z.1 (List.mem_append_right _ List.mem_cons_self) x.1 List.mem_cons_self)
  rw [this, Bool.false_and]
theorem okT_one {x : Tr5} (h : x.2 ≠ 0) : okT [x] = true := by
  unfold okT
  have e1 : ascB ([x].map (·.1)) = true := ascB_iff.mpr (List.pairwise_singleton _ _)
  rw [e1]
  simp [h]
theorem okT_good {l : List Tr5} {z x : Tr5} (h0 : x.2 ≠ 0) (h : z.1.cps.toList < x.1.cps.toList) : okT ((l ++ [z]) ++ [x]) = okT (l ++ [z]) := by
  have e1 : ascB (((l ++ [z]) ++ [x]).map (·.1)) = ascB ((l ++ [z]).map (·.1)) := by
    have key : Asc (((l ++ [z]) ++ [x]).map (·.1)) ↔ Asc ((l ++ [z]).map (·.1)) := by
      rw [List.map_append (l₂ := [x])]
      constructor
      · exact fun q => (List.pairwise_append.mp q).1
      · intro q
        refine List.pairwise_append.mpr ⟨q, List.pairwise_singleton _ _, fun a ha b hb => ?_⟩
        rw [List.mem_singleton.mp hb]
        rw [List.map_append] at ha q
        rcases List.mem_append.mp ha with ha | ha
        · exact List.lt_trans ((List.pairwise_append.mp q).2.2 a ha z.1 List.mem_cons_self) h
        · rw [List.mem_singleton.mp ha]
          exact h
    by_cases q : Asc ((l ++ [z]).map (·.1))
    · rw [ascB_iff.mpr q, ascB_iff.mpr (key.mpr q)]
    · rw [Bool.eq_false_iff.mpr fun z => q (ascB_iff.mp z), Bool.eq_false_iff.mpr fun z => q (key.mp (ascB_iff.mp z))]
  unfold okT
  rw [e1, List.all_append (xs := l ++ [z])]
  simp [h0]
theorem okT_tms (ps : List Tr5) : okT (tms ps) = true := by
  unfold okT
  rw [ascB_iff.mpr (tms_asc ps), Bool.true_and]
  exact List.all_eq_true.mpr fun x hx => decide_eq_true (tms_mem hx).2
@[irreducible] def spForm (K : PySem.W.Frag) : Sp := fun vs H Q _ => ∃ (a : Addr) (ps : List Tr5), vs = [.ref a] ∧ Prs K H a ps ∧ ∀ H', Same H H' → Q (.bl true) H'
theorem ok_form_right {f : Addr} {fd : FuncData} (F : Fun K "_law_form_right" "_law_form_right" s__law_form_right f fd) (m_range : mg "range" = none) (m_len : mg "len" = none) (m_tuple : mg "tuple" = none) (m_isinstance : mg "isinstance" = none) (m_bool : mg "bool" = none)
    (C_is_terms : Cal P w K mg base "is_terms" 2 ["terms"] (spIsTerms K)) (C__law_terms : Cal P w K mg base "_law_terms" 1 ["_law_pairs_here"] (spTerms K)) : FnOk P w K mg base CX0 3 f fd ["_law_pairs_here"] (spForm K) := by
  refine F.ok sc__law_form_right (fun vs H Q E h => ?_) (fun cdv A outer s H vs Q E hr h => ?_)
  · unfold spForm at h
    obtain ⟨a, ps, rfl, _⟩ := h
    rfl
  · unfold spForm at h
    obtain ⟨a, ps, rfl, hA, q⟩ := h
    obtain ⟨⟨xs, hxs, hxd⟩, h5, hal, hab⟩ := id hA
    have hxl : xs.length = ps.length := by rw [da_len hxd, List.length_map]
    refine ⟨_, (pss_cons (ps_setLc (i := 1) (own := [("_law_pair", 5)]) (tt := tYes) rfl sc__law_form_right.nd rfl rfl (sw_true rfl rfl rfl (by decide +kernel)) (pi_list (pv 0)) (blkOk_by (N := n__law_form_right) (sc := defScope s__law_form_right) (by decide +kernel)) (fun _ _ _ _ _ => pg_name (i := 5) sc__law_form_right.nd rfl (Or.inl rfl)) (fun _ _ _ _ _ => pts_nil) (fun _ _ _ _ _ => (pe_ix (ix_tupK (K := K) rfl) (pv 5) pe_int (fun _ _ => rfl))))
    (pss_cons (ps_set (i := 2) sc__law_form_right.nd rfl (Or.inl rfl) pe_bl)
    (pss_cons (ps_for PassesOwn.never rfl (pi_range1 (by rfl) m_range (pa_cons (pe_callB call_len_seq (by rfl) m_len PySem.boot_len (pa_cons (pv 0) pa_nil)) pa_nil)) (pg_name (i := 3) sc__law_form_right.nd rfl (Or.inl rfl))
      (pss_one (ps_if (PW.pt (pw_or (pt_cmpR op_eq (pe_ix ix_tup (pe_ix ix_list (pv 0) (pv 3) (fun _ _ => rfl)) pe_int (fun _ _ => rfl)) pe_int (nomark _)) (pw_or1 (PW.pt (pw_and (pt_cmpR op_gt (pv 3) pe_int (nomark _)) (pw_and1 (pt_cmpR op_ge_str (pe_ix ix_list (pv 1) (pe_op op_sub (pv 3) pe_int) (fun _ _ => rfl)) (pe_ix ix_list (pv 1) (pv 3) (fun _ _ => rfl)) (nomark _))))))))
      (pss_one (ps_set (i := 2) sc__law_form_right.nd rfl (Or.inl rfl) pe_bl))
      pss_nil)))
    (pss_cons (ps_set (i := 4) sc__law_form_right.nd rfl (Or.inl rfl) (pe_cal C_is_terms (hr.mono (by decide)) (pa_cons (pe_callTy (T := "tuple") call_tuple_of (by rfl) m_tuple (by decide +kernel) (pa_cons (pv 0) pa_nil)) pa_nil)))
    (pss_one (ps_ret (pe_and (pe_callB (id := "isinstance") call_isi (by rfl) m_isinstance (by decide +kernel) (pa_cons (pv 4) (pa_cons (pe_bltn (v := .ty "bool") (by rfl) m_bool (by decide +kernel) rfl) pa_nil))) (pe_and (pe_cmpR op_eq (pv 4) (pv 2) (nomark _)) (pe_one (pe_cmpR op_isBl (pe_cal C_is_terms (hr.mono (by decide)) (pa_cons (pe_cal C__law_terms (hr.mono (by decide)) (pa_cons (pv 0) pa_nil)) pa_nil)) pe_bl (nomark _))))))))))), ?_⟩
    walk_at "rd"
    refine ⟨⟨_, sq hxs⟩, fun M nM => ?_⟩
    refine lc_it walk_list (fun n H' => H' = upd H M (.lst ((ps.take n).map fun x => V.str x.1))) rfl (fun n H' _ e => e ▸ (same_new nM).seq (sq hxs)) ?_ ?_
    · rintro n x H1 H2 hi rfl ⟨rfl, hx⟩
      obtain ⟨y, hy, pa, rfl, hpa⟩ := tm_at hxd hx
      refine ⟨rfl, ?_⟩
      walk_at "rd"
      refine ⟨_, _, _, _, rfl, rfl, Bx.Same.tup (same_new nM) hpa, atI_nat (j := 0) rfl, ?_⟩
      refine ⟨_, upd_same, ?_, ?_⟩
      · rw [List.length_map, List.length_take]
        exact szl (by omega)
      · rw [upd_upd, List.take_add_one, hy, List.map_append]
        rfl
    rintro H1 rfl
    rw [hxl, List.take_length]
    have s1 := same_new nM (o := .lst (ps.map fun x => V.str x.1))
    have hM : (upd H M (.lst (ps.map fun x => V.str x.1))) M = some (.lst (ps.map fun x => V.str x.1)) := upd_same
    generalize upd H M (.lst (ps.map fun x => V.str x.1)) = H1 at *
    have hx1 := s1 _ _ hxs
    have hd1 := dpAll_same s1 hxd
    walk_at "rd"
    refine ⟨_, _, rfl, .inl (sq hx1), ?_⟩
    rw [hxl]
    refine ⟨_, rfl, by omega, by omega, for_it walk_range (fun i σ H' => ∃ o3 o4 o5 : Option V, σ = [some (.ref a), some (.ref M), some (.bl (okT (ps.take i))), o3, o4, o5] ∧ H' = H1) ⟨none, none, none, rfl, rfl⟩ (fun _ _ _ _ _ => trivial) ?_ ?_⟩
    · rintro i z σ H2 H3 hi ⟨o3, o4, o5, rfl, rfl⟩ ⟨rfl, rfl⟩
      have hip : i < ps.length := by omega
      obtain ⟨y, hy⟩ : ∃ y, ps[i]? = some y := ⟨_, List.getElem?_eq_getElem hip⟩
      obtain ⟨v, hv, hvd⟩ := da_get hd1 (i := i) (d := tmD y) (by rw [List.getElem?_map, hy]; rfl)
      obtain ⟨pa, rfl, hpa⟩ := tm_inv hvd
      have tk : ps.take (i + 1) = ps.take i ++ [y] := by rw [List.take_add_one, hy]; rfl
      have hat : atI xs (0 + (i : Int)) = some (.ref pa) := by rw [Int.zero_add]; exact atI_nat hv
      have nat1 : atI (ps.map fun x => V.str x.1) (0 + (i : Int)) = some (.str y.1) := by
        rw [Int.zero_add]
        exact atI_nat (by rw [List.getElem?_map, hy]; rfl)
      walk_at "rd"
      refine ⟨_, _, _, _, rfl, rfl, sq hx1, hat, ?_⟩
      walk_at "rd"
      refine ⟨_, _, _, _, rfl, rfl, hpa, atI_nat (j := 1) rfl, ?_⟩
      walk_at "rd"
      refine ite2 (fun h0 => ?_) (fun h0 => ?_)
      · have e := int_t h0
        walk_at "rd"
        exact ⟨_, _, _, by rw [tk, okT_zero e]; rfl, rfl⟩
      · have e := int_f h0
        walk_at "rd"
        refine ite2 (fun hk => ?_) (fun hk => ?_)
        · have hk2 : 0 < 0 + (i : Int) := of_decide_eq_true hk
          obtain ⟨j, rfl⟩ : ∃ j, i = j + 1 := ⟨i - 1, by omega⟩
          obtain ⟨z, hz⟩ : ∃ z, ps[j]? = some z := ⟨_, List.getElem?_eq_getElem (by omega)⟩
          have tkj : ps.take (j + 1) = ps.take j ++ [z] := by rw [List.take_add_one, hz]; rfl
          have nat2 : atI (ps.map fun x => V.str x.1) (0 + ((j + 1 : Nat) : Int) - 1) = some (.str z.1) := by
            rw [show 0 + ((j + 1 : Nat) : Int) - 1 = (j : Int) by omega]
            exact atI_nat (by rw [List.getElem?_map, hz]; rfl)
          walk_at "rd"
          refine ⟨_, _, _, _, rfl, rfl, sq hM, nat2, ?_⟩
          walk_at "rd"
          refine ⟨_, _, _, _, rfl, rfl, sq hM, nat1, ?_⟩
          walk_at "rd"
          refine ite2 (fun hg => ?_) (fun hg => ?_)
          · walk_at "rd"
            exact ⟨_, _, _, by rw [tk, tkj, okT_bad (ne_t hg)]; rfl, rfl⟩
          · walk_at "rd"
            exact ⟨_, _, _, by rw [tk, tkj, okT_good e (ne_f hg)]; rfl, rfl⟩
        · have hk2 : ¬ 0 < 0 + (i : Int) := fun z => hk (decide_eq_true z)
          obtain rfl : i = 0 := by omega
          walk_at "rd"
          exact ⟨_, _, _, by rw [tk, List.take_zero, List.nil_append, okT_one e]; rfl, rfl⟩
    · rintro σ H2 ⟨o3, o4, o5, rfl, rfl⟩
      have e1 : ps.take (ps.length : Int).toNat = ps := by rw [Int.toNat_natCast, List.take_length]
      rw [e1]
      walk_at "rd"
      refine ⟨a, xs, rfl, (.inl ⟨sq hx1, fun t nt => ?_⟩)⟩
      have st := same_new nt (o := .tup xs)
      walk_at "rd"
      unfold spIsTerms
      refine ⟨t, xs, ps, rfl, sqt upd_same, dpAll_same st hd1, by omega, in5_ok h5, fun H3 s3 => ?_⟩
      have s03 := Same.trans s1 (Same.trans st s3)
      walk_at "rd"
      refine ⟨_, _, _, _, true, rfl, .ty "bool", .base (.bl _), kit_ty (by decide +kernel), ?_⟩
      walk_at "rd"
      refine ite2 (fun _ => ?_) (fun h => absurd (decide_eq_true rfl) h)
      walk_at "rd"
      unfold spTerms
      refine ⟨a, xs, ps, rfl, sq (s03 _ _ hxs), dpAll_same s03 hxd, by omega, fun t2 z2 H4 s4 n4 h4 d4 => ?_⟩
      walk_at "rd"
      refine ⟨t2, z2, tms ps, rfl, h4, d4, tms60 ps, in5_ok (in5_tms ps), fun H5 s5 => ?_⟩
      rw [okT_tms]
      walk_at "rd"
      exact q H5 (Same.trans s03 (Same.trans s4 s5))
end
end K23
namespace K23
local macro_rules | `(tactic| walk_at "rd") => `(tactic| repeat (first | refine ⟨rfl, ?_⟩ | refine ⟨_, rfl, ?_⟩ | refine ⟨_, _, rfl, rfl, ?_⟩ | refine ⟨⟨_, rfl⟩, ?_⟩))
open PySem PySem.Spec PyProof.Rows L2 Bx TL Dx Zx Ow M23 M30
section
variable {P : Program} {w : World} {K : PySem.W.Frag} {mg : Str → Option Value} {base : Heap}
/-! ### draws do not touch pairs -/
theorem sqt_but {H H' : Hp} {s a : Addr} {xs : List V} (hs : Src H s) (b : SameBut s H H') (h : SqT K H a xs) : SqT K H' a xs := by
  obtain ⟨n, c, e⟩ := hs
  have ne : ∀ u, H a = some u → u ≠ .lst [.int n, .int c] → a ≠ s := fun u e1 e2 z => by
    rw [z, e] at e1
    exact e2 (Option.some.inj e1).symm
  rcases h with (h | ⟨u, h⟩) | h
  · exact .inl (.inl (b _ _ (ne _ h fun z => by cases z) h))
  · exact .inl (.inr ⟨u, b _ _ (ne _ h fun z => by cases z) h⟩)
  · exact .inr h
theorem da_but {H H' : Hp} {s : Addr} (hs : Src H s) (b : SameBut s H H') : ∀ {xs : List V} {l : List Tr5}, DpAll K H xs (l.map tmD) → DpAll K H' xs (l.map tmD)
  | xs, [], h => by
    cases h
    exact .nil
  | xs, x :: l, h => by
    cases h with
    | cons h t =>
      obtain ⟨a, rfl, ha⟩ := tm_inv h
      exact .cons (tm_dp (sqt_but hs b ha)) (da_but hs b t)
theorem Prs.ne {H : Hp} {s a : Addr} {ps : List Tr5} (hs : Src H s) (h : Prs K H a ps) : a ≠ s := by
  obtain ⟨⟨xs, h1, h2⟩, _, _, _⟩ := h
  obtain ⟨n, c, e⟩ := hs
  intro z
  rw [z, e] at h1
  cases h1
  match ps, h2 with
  | x :: l, h2 =>
    cases h2 with
    | cons h t => cases h
theorem Prs.but {H H' : Hp} {s a : Addr} {ps : List Tr5} (hs : Src H s) (b : SameBut s H H') (h : Prs K H a ps) : Prs K H' a ps := by
  have ne := h.ne hs
  obtain ⟨⟨xs, h1, h2⟩, h3, h4, h6⟩ := h
  exact ⟨⟨xs, b _ _ ne h1, da_but hs b h2⟩, h3, h4, h6⟩
/-! ### names -/
def TInv (kvs : List (Key × V)) : Prop := ∀ n v, valV kvs (Sum.inr n) = some v → ∃ m ∈ N5, v = V.str m
def ren (kvs : List (Key × V)) (n : Str) : Str := match valV kvs (Sum.inr n) with
  | some (.str m) => m
  | _ => n
theorem ren_get {kvs : List (Key × V)} (h : TInv kvs) (n : Str) (hn : n ∈ N5) : (valV kvs (Sum.inr n)).getD (.str n) = .str (ren kvs n) ∧ ren kvs n ∈ N5 := by
  unfold ren
  cases e : valV kvs (Sum.inr n) with
  | none => exact ⟨rfl, hn⟩
  | some v =>
    obtain ⟨m, hm, rfl⟩ := h n v e
    exact ⟨rfl, hm⟩
theorem ren_some {kvs : List (Key × V)} (h : TInv kvs) {n : Str} (e : (valV kvs (Sum.inr n)).isSome = true) : valV kvs (Sum.inr n) = some (.str (ren kvs n)) := by
  unfold ren
  cases e2 : valV kvs (Sum.inr n) with
  | none =>
    rw [e2] at e
    cases e
  | some v =>
    obtain ⟨m, hm, rfl⟩ := h n v e2
    rfl
theorem ren_none {kvs : List (Key × V)} {n : Str} (e : ¬ (valV kvs (Sum.inr n)).isSome = true) : ren kvs n = n := by
  unfold ren
  cases e2 : valV kvs (Sum.inr n) with
  | none => rfl
  | some v =>
    rw [e2] at e
    exact absurd rfl e
theorem tinv_put {kvs : List (Key × V)} (h : TInv kvs) (n m : Str) (hm : m ∈ N5) : TInv (putK kvs (Sum.inr n) (.str m)) := fun k v e => by
  rw [valV_put] at e
  split at e
  · exact ⟨m, hm, (Option.some.inj e).symm⟩
  · exact h k v e
def rn (kvs : List (Key × V)) (ps : List Tr5) : List Tr5 := ps.map fun x => (ren kvs x.1, x.2)
@[irreducible] def spNamesR (K : PySem.W.Frag) : Sp := fun vs H Q _ => ∃ (s a : Addr) (ps : List Tr5), vs = [.ref s, .ref a] ∧ Src H s ∧ Prs K H a ps ∧ ∀ H', SameBut s H H' → Src H' s → Q (.bl true) H'
theorem ok_names_right {C e0 : Addr} (he0 : ∀ H, SqT K H e0 []) {f : Addr} {fd : FuncData} (F : Fun K "_law_names_right" "_law_names_right" s__law_names_right f fd) (C__law_draw : CDraw P w K mg base) (K_Sum : MkS P w K mg base C) (K_Sum0 : MakC P w K mg base "Sum" C 2 ["self", "terms"] (spInit K C) [V.ref e0])
    (C__law_same : CSame P w K mg base C) (M_renamed : MthC P w K mg base C "renamed" 4 ["self", "table"] (spRen K C)) : FnOk P w K mg base CX0 6 f fd ["_law_source_here", "_law_pairs_here"] (spNamesR K) := by
  refine F.ok sc__law_names_right (fun vs H Q E h => ?_) (fun cdv A outer s H vs Q E hr h => ?_)
  · unfold spNamesR at h
    obtain ⟨s, a, ps, rfl, _⟩ := h
    rfl
  · unfold spNamesR at h
    obtain ⟨src, a, ps, rfl, hA, hP, q⟩ := h
    have hu := hu_of hr
    refine ⟨_, (pss_cons (ps_set (i := 2) sc__law_names_right.nd rfl (Or.inl rfl) pe_dnewK)
    (pss_cons (ps_for PassesOwn.never rfl (pi_list (pe_lst (pa_cons pe_str (pa_cons pe_str (pa_cons pe_str (pa_cons pe_str (pa_cons pe_str pa_nil))))))) (pg_name (i := 3) sc__law_names_right.nd rfl (Or.inl rfl))
      (pss_one (ps_if (pt_cmpR op_eq (pe_cal C__law_draw (hr.mono (by decide)) (pa_cons (pv 0) (pa_cons pe_int pa_nil))) pe_int (nomark _))
      (pss_one (ps_dput hu (pv 2) (pv 3) (pe_ix ix_list (pe_lst (pa_cons pe_str (pa_cons pe_str (pa_cons pe_str (pa_cons pe_str pa_nil))))) (pe_cal C__law_draw (hr.mono (by decide)) (pa_cons (pv 0) (pa_cons pe_int pa_nil))) (fun _ _ => rfl)) rfl))
      pss_nil)))
    (pss_cons (ps_set (i := 4) sc__law_names_right.nd rfl (Or.inl rfl) (pe_lst pa_nil))
    (pss_cons (ps_for PassesOwn.never rfl (pi_list (pv 1)) (pg_tup rfl (pgs_cons (pg_name (i := 3) sc__law_names_right.nd rfl (Or.inl rfl)) (pgs_cons (pg_name (i := 6) sc__law_names_right.nd rfl (Or.inl rfl)) pgs_nil)))
      (pss_one (ps_if (pt_cmp (pc_din hu (pv 3) (pv 2)))
      (pss_one (ps_expr (pe_bm PySem.F.plainAttrs_list PySem.F.slot_list_append PySem.F.type_list_append mt_append (pv 4) (pa_cons (pe_tup (pa_cons (pe_dget hu (pv 2) (pv 3) (fun _ _ => rfl)) (pa_cons (pv 6) pa_nil))) pa_nil))))
      (pss_one (ps_expr (pe_bm PySem.F.plainAttrs_list PySem.F.slot_list_append PySem.F.type_list_append mt_append (pv 4) (pa_cons (pe_tup (pa_cons (pv 3) (pa_cons (pv 6) pa_nil))) pa_nil)))))))
    (pss_cons (ps_set (i := 5) sc__law_names_right.nd rfl (Or.inl rfl) (pe_mak K_Sum (hr.mono (by decide)) (pa_cons (pv 1) pa_nil)))
    (pss_one (ps_ret (pe_and (pe_cal C__law_same (hr.mono (by decide)) (pa_cons (pe_mth M_renamed (hr.mono (by decide)) (pv 5) (pa_cons (pv 2) pa_nil)) (pa_cons (pv 4) pa_nil))) (pe_and (pe_cal C__law_same (hr.mono (by decide)) (pa_cons (pv 5) (pa_cons (pv 1) pa_nil))) (pe_one (pe_cal C__law_same (hr.mono (by decide)) (pa_cons (pe_mak0 K_Sum0 (hr.mono (by decide))) (pa_cons (pe_lst pa_nil) pa_nil))))))))))))), ?_⟩
    walk_at "rd"
    intro D nD
    have nDs : D ≠ src := (src_ne hA nD).symm
    walk_at "rd"
    refine ⟨sz (by show 5 ≤ 100000; decide), fun L nL => ?_⟩
    have nLD : L ≠ D := fun e => by rw [e, upd_same] at nL; cases nL
    have nL0 : H L = none := (same_new nD).free nL
    have nLs : L ≠ src := (src_ne hA nL0).symm
    refine ⟨L, rfl, ⟨_, sq upd_same⟩, for_it walk_list (fun i σ H' => ∃ (o3 o4 o5 o6 : Option V) (kvs : List (Key × V)), σ = [some (.ref src), some (.ref a), some (.ref D), o3, o4, o5, o6] ∧ SameBut src H H' ∧ Src H' src ∧ H' L = some (.lst (N5.map V.str)) ∧ H' D = some (.dK kvs) ∧ TInv kvs ∧ kvs.length ≤ i)
      ⟨none, none, none, none, [], rfl, Bx.Same.but (Same.trans (same_new nD) (same_new nL)), src_upd (src_upd hA nDs.symm) nLs.symm, upd_same, by rw [upd_ne nLD.symm, upd_same], (fun n v e => nomatch e), Nat.le_refl _⟩ (fun i σ H' _ ⟨_, _, _, _, _, _, _, _, e, _⟩ => sq e) ?_ ?_⟩
    · rintro i x σ H1 H1' hi ⟨o3, o4, o5, o6, kvs, rfl, s1, hA1, hL, hD, ti, hkl⟩ ⟨rfl, hx⟩
      obtain ⟨n, hn, rfl⟩ := at_map (l := N5) hx
      have hi5 : i < 5 := hi
      walk_at "rd"
      refine draw_of hA1 ⟨by decide, by decide⟩ fun r H2 _ _ s2 hA2 => ?_
      have hD2 := s2 _ _ nDs hD
      have hL2 := s2 _ _ nLs hL
      walk_at "rd"
      refine ite2 (fun _ => ?_) (fun _ => ?_)
      · walk_at "rd"
        refine ⟨sz (by show 4 ≤ 100000; decide), fun L2 nL2 => ?_⟩
        have nL2s : L2 ≠ src := (src_ne hA2 nL2).symm
        walk_at "rd"
        refine draw_of (src_upd hA2 nL2s.symm) ⟨by decide, by decide⟩ fun r H3 r0 r1 s3 hA3 => ?_
        have hL3 := s3 _ _ nL2s upd_same
        have s23 := but_new nL2 s3
        obtain ⟨m, hm5, hat⟩ : ∃ m : Str, m ∈ N5 ∧ atI [V.str (Str.ofString "a"), V.str (Str.ofString "b"), V.str (Str.ofString "ab"), V.str (Str.ofString "c.d")] r = some (.str m) := by
          obtain ⟨rn, rfl⟩ := Int.eq_ofNat_of_zero_le r0
          have h5 : rn < 4 := by omega
          match rn, h5 with
          | 0, _ => exact ⟨_, by decide +kernel, rfl⟩
          | 1, _ => exact ⟨_, by decide +kernel, rfl⟩
          | 2, _ => exact ⟨_, by decide +kernel, rfl⟩
          | 3, _ => exact ⟨_, by decide +kernel, rfl⟩
        refine ⟨_, _, _, _, rfl, rfl, sq hL3, hat, ?_⟩
        have hD3 := s23 _ _ nDs hD2
        walk_at "rd"
        refine ⟨_, _, rfl, DPut.k (k := Sum.inr n) hD3 (szl (by omega)), ?_⟩
        refine ⟨_, _, _, _, _, rfl, but_at nD (s1.trans (s2.trans s23)), src_upd hA3 nDs.symm, ?_, upd_same, tinv_put ti n m hm5, Nat.le_trans (length_putK _ _ _) (Nat.succ_le_succ hkl)⟩
        rw [upd_ne nLD]
        exact s23 _ _ nLs hL2
      · walk_at "rd"
        exact ⟨_, _, _, _, kvs, rfl, s1.trans s2, hA2, hL2, hD2, ti, by omega⟩
    rintro σ H1 ⟨o3, o4, o5, o6, kvs, rfl, s1, hA1, hL, hD, ti, hkl⟩
    have hP1 := hP.but hA s1
    obtain ⟨⟨xs, hxs, hxd⟩, h5, hal, hab⟩ := id hP1
    have hxl : xs.length = ps.length := by rw [da_len hxd, List.length_map]
    walk_at "rd"
    refine ⟨sz (by decide), fun l nl => ?_⟩
    walk_at "rd"
    refine ⟨⟨_, sq ((same_new nl) _ _ hxs)⟩, for_it walk_list (fun i σ H' => ∃ (o3 o5 o6 : Option V) (us : List V), σ = [some (.ref src), some (.ref a), some (.ref D), o3, some (.ref l), o5, o6] ∧ Same H1 H' ∧ H' l = some (.lst us) ∧ DpAll K (mn H' [l]) us ((rn kvs (ps.take i)).map tmD)) ⟨_, _, _, [], rfl, same_new nl, upd_same, .nil⟩ (fun i σ H' _ ⟨_, _, _, _, _, s, _⟩ => sq (s _ _ hxs)) ?_ ?_⟩
    · rintro i x σ H2 H2' hi ⟨o3, o5, o6, us, rfl, s2, hl2, dM⟩ ⟨rfl, hx⟩
      obtain ⟨y, hy, pa, rfl, hpa⟩ := tm_at hxd hx
      have hip := (List.getElem?_eq_some_iff.mp hy).1
      have hus : us.length < 100000 := by
        rw [da_len dM, List.length_map, rn, List.length_map, List.length_take]
        omega
      have hD2 := s2 _ _ hD
      have tk : rn kvs (ps.take (i + 1)) = rn kvs (ps.take i) ++ [(ren kvs y.1, y.2)] := by
        unfold rn
        rw [List.take_add_one, hy, List.map_append]
        rfl
      have fin : ∀ t, H2' t = none → Same H1 (upd (upd H2' t (.tup [.str (ren kvs y.1), .int y.2])) l (.lst (us ++ [.ref t]))) ∧ DpAll K (mn (upd (upd H2' t (.tup [.str (ren kvs y.1), .int y.2])) l (.lst (us ++ [.ref t]))) [l]) (us ++ [.ref t]) ((rn kvs (ps.take (i + 1))).map tmD) := fun t nt => by
        have ntl : t ≠ l := fun e => by rw [e, hl2] at nt; cases nt
        have st := same_new nt (o := .tup [V.str (ren kvs y.1), .int y.2])
        refine ⟨same_at nl (Same.trans s2 st), ?_⟩
        rw [mn_upd (S := [l]) List.mem_cons_self, tk, List.map_append]
        refine da_app (dpAll_same (mn_all st) dM) (da_one (tm_dp (x := (ren kvs y.1, y.2)) (sqt (mn_at ?_ upd_same))))
        exact fun z => ntl (List.mem_singleton.mp z)
      refine ⟨_, _, rfl, Bx.Same.tup s2 hpa, rfl, _, _, rfl, _, _, rfl, rfl, ?_⟩
      walk_at "rd"
      refine ⟨D, _, rfl, DGet.k (k := Sum.inr y.1) hD2, ?_⟩
      walk_at "rd"
      refine ite2 (fun hin => ?_) (fun hin => ?_)
      · walk_at "rd"
        refine ⟨.inl ⟨rfl, _, sq hl2⟩, ?_⟩
        walk_at "rd"
        refine ⟨D, _, rfl, (ren_some ti hin) ▸ DGet.k (k := Sum.inr y.1) hD2, ?_⟩
        walk_at "rd"
        refine ⟨sz (by show 2 ≤ 100000; decide), fun t nt => ?_⟩
        have ntl : t ≠ l := fun e => by rw [e, hl2] at nt; cases nt
        refine ⟨l, _, _, rfl, rfl, by rw [upd_ne ntl.symm]; exact hl2, szl hus, ?_⟩
        exact ⟨_, _, _, _, rfl, (fin t nt).1, upd_same, (fin t nt).2⟩
      · have er := ren_none hin
        rw [er] at fin
        walk_at "rd"
        refine ⟨.inl ⟨rfl, _, sq hl2⟩, ?_⟩
        walk_at "rd"
        refine ⟨sz (by show 2 ≤ 100000; decide), fun t nt => ?_⟩
        have ntl : t ≠ l := fun e => by rw [e, hl2] at nt; cases nt
        refine ⟨l, _, _, rfl, rfl, by rw [upd_ne ntl.symm]; exact hl2, szl hus, ?_⟩
        exact ⟨_, _, _, _, rfl, (fin t nt).1, upd_same, (fin t nt).2⟩
    rintro σ H2 ⟨o3, o5, o6, us, rfl, s2, hl2, dM⟩
    rw [hxl, List.take_length] at dM
    have d2 := dpAll_same mn_same dM
    have hP2 := hP1.same s2
    have r5 : In5 (rn kvs ps) := fun x hx => by
      obtain ⟨y, hy, rfl⟩ := List.mem_map.mp hx
      exact (ren_get ti y.1 (h5 y hy)).2
    have hrl : (rn kvs ps).length = ps.length := by rw [rn, List.length_map]
    walk_at "rd"
    intro p dp np nd _
    refine init_of (ps := ps) np nd (.inl (.lst (sq (s2 _ _ hxs)) (dpAll_same s2 hxd))) h5 (by omega) fun H3 s3 hp => ⟨rfl, ?_⟩
    have s13 := Same.trans s2 s3
    walk_at "rd"
    obtain ⟨dx, t, zs, e1, _, _⟩ := id hp
    refine ⟨p, dx, fS t, rfl, e1, ?_, ?_⟩
    · have e : (("renamed" : Str) == ("terms" : Str)) = false := by decide +kernel
      simp only [fS, List.lookup, e]
    walk_at "rd"
    unfold spRen
    refine ⟨p, D, ps, kvs, ren kvs, rfl, hp, h5, s13 _ _ hD, fun n hn => ren_get ti n hn, fun x H4 s4 nx hx => ?_⟩
    have s14 := Same.trans s13 s4
    have s34 := Same.trans s3 s4
    walk_at "rd"
    refine same_of hx (sq (s34 _ _ hl2)) (dpAll_same s34 d2) r5 r5 (by omega) rfl fun H5 s5 => ?_
    have s15 := Same.trans s14 s5
    walk_at "rd"
    refine same_of (hp.same (Same.trans s4 s5)) (sq (s15 _ _ hxs)) (dpAll_same s15 hxd) h5 h5 (by omega) rfl fun H6 s6 => ?_
    walk_at "rd"
    intro p0 d0 np0 nd0 _
    refine init_of (ps := []) np0 nd0 (.inr (.tup (he0 _) .nil)) (fun x hx => nomatch hx) (by decide) fun H7 s7 hp7 => ⟨rfl, ?_⟩
    walk_at "rd"
    refine ⟨sz (by decide), fun l8 n8 => ?_⟩
    have s8 := same_new n8 (o := .lst [])
    refine same_of (qs := []) (hp7.same s8) (sq upd_same) .nil (fun x hx => nomatch hx) (fun x hx => nomatch hx) (by decide) rfl fun H9 s9 => ?_
    have sF := Same.trans (Same.trans s15 s6) (Same.trans s7 (Same.trans s8 s9))
    exact q H9 (s1.trans (Bx.Same.but sF)) (src_same hA1 sF)
end
end K23
namespace K23
local macro_rules | `(tactic| walk_at "rd") => `(tactic| repeat (first | refine ⟨rfl, ?_⟩ | refine ⟨_, rfl, ?_⟩ | refine ⟨_, _, rfl, rfl, ?_⟩ | refine ⟨⟨_, rfl⟩, ?_⟩))
open PySem PySem.Spec PyProof.Rows L2 Bx TL Dx Zx Ow M23 M30
section
variable {P : Program} {w : World} {K : PySem.W.Frag} {mg : Str → Option Value} {base : Heap}
/-! ### values -/
def N6 : List Str := ["a", "a1", "ab", "b", "c.d", "z"]
theorem n6_nodup : N6.Nodup := by decide +kernel
theorem n56 : ∀ n ∈ N5, n ∈ N6 := by decide +kernel
theorem n6_ok : ∀ n ∈ N6, PyData.strOk n = true := by decide +kernel
def kvG (g : Str → V) (l : List Str) : List (Key × V) := l.map fun n => (Sum.inr n, g n)
theorem kvG_val (g : Str → V) (n : Str) : ∀ l : List Str, valV (kvG g l) (Sum.inr n) = if n ∈ l then some (g n) else none
  | [] => rfl
  | m :: l => by
    have ih := kvG_val g n l
    by_cases e : m = n
    · subst e
      rw [if_pos List.mem_cons_self]
      exact valV_pos rfl
    · have e2 : ¬ ((Sum.inr m, g m) : Key × V).1 = Sum.inr n := fun z => e (Sum.inr.inj z)
      have e3 : (n ∈ m :: l) ↔ n ∈ l := by
        rw [List.mem_cons]
        exact ⟨fun z => z.resolve_left fun z => e z.symm, .inr⟩
      show valV ((Sum.inr m, g m) :: kvG g l) (Sum.inr n) = _
      rw [valV_neg e2, ih]
      simp only [e3]
theorem kvG_put {g : Str → V} {n : Str} {l : List Str} (h : n ∉ l) (v : V) : putK (kvG g l) (Sum.inr n) v = kvG (fun m => if m = n then v else g m) (l ++ [n]) := by
  rw [putK_new v (by rw [kvG_val, if_neg h])]
  unfold kvG
  rw [List.map_append]
  congr 1
  · exact List.map_congr_left fun m hm => by
      have e : ¬ m = n := fun z => h (z ▸ hm)
      show (_, g m) = (_, if m = n then v else g m)
      rw [if_neg e]
  · show [(_, v)] = [(_, if n = n then v else g n)]
    rw [if_pos rfl]
theorem kvG_keys (g : Str → V) (l : List Str) : (kvG g l).map (·.1) = l.map Sum.inr := by
  unfold kvG
  rw [List.map_map]
  rfl
theorem take_nodup {n : Str} {i : Nat} (h : N6[i]? = some n) : n ∉ N6.take i := fun z => by
  obtain ⟨j, hj, e⟩ := List.mem_iff_getElem.mp z
  rw [List.length_take] at hj
  rw [List.getElem_take] at e
  obtain ⟨hi, e2⟩ := List.getElem?_eq_some_iff.mp h
  have := List.pairwise_iff_getElem.mp n6_nodup j i (by omega) hi (by omega)
  exact this (e.trans e2.symm)
/-- what the two dicts hold -/
structure VInv (K : PySem.W.Frag) (H : Hp) (l : List Str) (g : Str → Int) (ra : Str → Addr) (r : Str → Int × Int) : Prop where
  b : ∀ n ∈ l, (g n).natAbs < 1000000000000
  r : ∀ n ∈ l, H (ra n) = some (tp2 (r n)) ∧ 0 < (r n).2 ∧ Bits 41 (r n)
def trip (g : Str → Int) (r : Str → Int × Int) (n : Str) : PyData := .tuple [.str n, .int (g n), prD (r n)]
theorem lay_trip {g : Str → Int} {r : Str → Int × Int} {l : List Str} (h : ∀ n ∈ l, PyData.strOk n = true) : Lay 3 (.list (l.map (trip g r))) := lay_list (lays_of fun d hd => by
  obtain ⟨n, hn, rfl⟩ := List.mem_map.mp hd
  exact lay_tuple (lays_cons (lay_str (h n hn)) (lays_cons lay_int (lays_cons (lay_tuple (lays_cons lay_int (lays_cons lay_int lays_nil))) lays_nil))))
/-- [(n, numbers[n], ratios[n]) for n in sorted(numbers)] -/
theorem lc_trip {H : Hp} {D1 D2 p1 : Addr} {ys : List Str} {g : Str → Int} {ra : Str → Addr} {r : Str → Int × Int} (h1 : H D1 = some (.dK (kvG (fun n => .int (g n)) N6))) (h2 : H D2 = some (.dK (kvG (fun n => .ref (ra n)) N6))) (hy : H p1 = some (.lst (ys.map V.str))) (hyn : ∀ n ∈ ys, n ∈ N6) (hyl : ys.length ≤ 10) (hr : ∀ n ∈ N6, H (ra n) = some (tp2 (r n)))
    {te : TE} {σ : L2.St} {vs : List Nat} {M : Addr} {Qd : Hp → Prop} {i : Nat} (nM : H M = none) (hw : ∀ x : V, wipe ((wipe σ vs).set i (some x)) vs = wipe σ vs)
    (hte : ∀ (n : Str) (H' : Hp) (Z : VK), n ∈ N6 → H' D1 = some (.dK (kvG (fun n => .int (g n)) N6)) → H' D2 = some (.dK (kvG (fun n => .ref (ra n)) N6)) → (∀ t, H' t = none → Z (.ref t) (upd H' t (.tup [.str n, .int (g n), .ref (ra n)]))) → te ((wipe σ vs).set i (some (.str n))) H' Z)
    (done : ∀ us H', Same H H' → H' M = some (.lst us) → DpAll K H' us (ys.map (trip g r)) → Qd H') :
    ∃ W : Nat → Nat → Hp → Prop, (∃ m, W 0 m (upd H M (.lst []))) ∧ ∀ k m H, W k m H →
      ((Itl K p1).stop k H ∧ Qd H) ∨ ((Itl K p1).go k H ∧ ∃ Nx : Hp → Prop, (∀ H', Nx H' → ∃ m', m' < m ∧ W (k + 1) m' H') ∧ ∀ x H', (Itl K p1).yld k H x H' → gName i x (wipe σ vs) H' fun σ2 H2 => wipe σ2 vs = wipe σ vs ∧ tYes σ2 H2 fun b H3 =>
        if b = true then te σ2 H3 fun y H4 => ∃ acc, H4 M = some (.lst acc) ∧ acc.length < sizeLine ∧ Nx (upd H4 M (.lst (acc ++ [y]))) else Nx H3) := by
  refine lc_it walk_list (fun k H' => ∃ us, H' M = some (.lst us) ∧ DpAll K (mn H' [M]) us ((ys.take k).map (trip g r)) ∧ Same H H') ⟨[], upd_same, .nil, same_new nM⟩ (fun k H' _ ⟨_, _, _, s⟩ => sq (s _ _ hy)) ?_ ?_
  · rintro k x H1 H2 hi ⟨us, hM, dM, s2⟩ ⟨rfl, hx⟩
    obtain ⟨n, hn, rfl⟩ := at_map hx
    have hn6 := hyn n (List.mem_of_getElem? hn)
    have hkl := (List.getElem?_eq_some_iff.mp hn).1
    have hus : us.length < 100000 := by
      rw [da_len dM, List.length_map, List.length_take]
      omega
    refine ⟨hw _, ?_⟩
    unfold tYes
    dsimp only
    rw [if_pos rfl]
    refine hte n _ _ hn6 (s2 _ _ h1) (s2 _ _ h2) fun t nt => ?_
    have st := same_new nt (o := .tup [V.str n, V.int (g n), .ref (ra n)])
    refine ⟨_, st _ _ hM, szl hus, us ++ [.ref t], upd_same, ?_, same_at nM (Same.trans s2 st)⟩
    rw [mn_upd (S := [M]) List.mem_cons_self, List.take_add_one, hn, List.map_append]
    have ntM : t ∉ [M] := fun z => ne_of_none hM nt (List.mem_singleton.mp z).symm
    have hra := st _ _ (s2 _ _ (hr n hn6))
    have nrM : ra n ∉ [M] := fun z => by
      have e1 := st _ _ hM
      rw [← List.mem_singleton.mp z, hra] at e1
      cases e1
    refine da_app (dpAll_same (mn_all st) dM) (da_one (.tup (sqt (mn_at ntM upd_same)) (.cons (.str _) (.cons (.int _) (da_one (pr_dp (sqt (mn_at nrM hra))))))))
  · rintro H3 ⟨us, hM, dM, s3⟩
    rw [List.length_map, List.take_length] at dM
    exact done us H3 s3 hM (dpAll_same mn_same dM)
/-- a comprehension over a tuple of terms, values -/
theorem lc_tv {H : Hp} {T : Addr} {zs : List V} {l : List Tr5} (hz : SqT K H T zs) (hd : DpAll K H zs (l.map tmD)) (hl : l.length ≤ 60) {te : TE} {σ : L2.St} {vs : List Nat} {M : Addr} {Qd : Hp → Prop} {i : Nat} (f : Tr5 → V) (nM : H M = none) (hw : ∀ x : V, wipe ((wipe σ vs).set i (some x)) vs = wipe σ vs)
    (hte : ∀ (pa : Addr) (x : Tr5) (H' : Hp) (Z : VK), x ∈ l → SqT K H' pa [.str x.1, .int x.2] → Same H H' → Z (f x) H' → te ((wipe σ vs).set i (some (.ref pa))) H' Z)
    (done : ∀ H', Same H H' → H' M = some (.lst (l.map f)) → Qd H') :
    ∃ W : Nat → Nat → Hp → Prop, (∃ m, W 0 m (upd H M (.lst []))) ∧ ∀ n m H, W n m H →
      ((Itt K T).stop n H ∧ Qd H) ∨ ((Itt K T).go n H ∧ ∃ Nx : Hp → Prop, (∀ H', Nx H' → ∃ m', m' < m ∧ W (n + 1) m' H') ∧ ∀ x H', (Itt K T).yld n H x H' → gName i x (wipe σ vs) H' fun σ2 H2 => wipe σ2 vs = wipe σ vs ∧ tYes σ2 H2 fun b H3 =>
        if b = true then te σ2 H3 fun y H4 => ∃ acc, H4 M = some (.lst acc) ∧ acc.length < sizeLine ∧ Nx (upd H4 M (.lst (acc ++ [y]))) else Nx H3) := by
  have hzl : zs.length = l.length := by rw [da_len hd, List.length_map]
  refine lc_it walk_tup (fun n H' => H' = upd H M (.lst ((l.take n).map f))) rfl (fun n H' _ e => e ▸ Bx.Same.tup (same_new nM) hz) ?_ ?_
  · rintro n x H1 H2 hi rfl ⟨rfl, hx⟩
    obtain ⟨y, hy, pa, rfl, hpa⟩ := tm_at hd hx
    refine ⟨hw _, ?_⟩
    unfold tYes
    dsimp only
    rw [if_pos rfl]
    refine hte pa y _ _ (List.mem_of_getElem? hy) (Bx.Same.tup (same_new nM) hpa) (same_new nM) ⟨_, upd_same, ?_, ?_⟩
    · rw [List.length_map, List.length_take]
      exact szl (by omega)
    · rw [upd_upd, List.take_add_one, hy, List.map_append]
      rfl
  · rintro H3 rfl
    rw [hzl, List.take_length]
    exact done _ (same_new nM) upd_same
@[irreducible] def spValues (K : PySem.W.Frag) : Sp := fun vs H Q _ => ∃ (s a : Addr) (ps : List Tr5), vs = [.ref s, .ref a] ∧ Src H s ∧ Prs K H a ps ∧ ps.length ≤ 6 ∧ ∀ H', SameBut s H H' → Src H' s → Q (.bl true) H'
theorem coef6 {ps : List Tr5} (hl : ps.length ≤ 6) (hb : ∀ x ∈ ps, x.2.natAbs < 2 ^ 40) : ∀ x ∈ tms ps, x.2.natAbs < 2 ^ 43 := fun x hx => by
  obtain ⟨e, _⟩ := tms_mem hx
  have h := coef_size (B := 2 ^ 40) (ps := ps) (fun y hy => Nat.le_of_lt (hb y hy)) x.1
  rw [e]
  have h2 : ps.length * 2 ^ 40 ≤ 6 * 2 ^ 40 := Nat.mul_le_mul_right _ hl
  exact Nat.lt_of_le_of_lt (Nat.le_trans h h2) (by decide)
theorem ok_values_right {C : Addr} {f : Addr} {fd : FuncData} (F : Fun K "_law_values_right" "_law_values_right" s__law_values_right f fd) (m_sorted : mg "sorted" = none) (m_sum : mg "sum" = none) (C__law_number : CNum P w K mg base) (C__law_ratio : CRat P w K mg base) (C__law_terms : Cal P w K mg base "_law_terms" 1 ["_law_pairs_here"] (spTerms K)) (K_Sum : MkS P w K mg base C)
    (M_at : MthC P w K mg base C "at" 1 ["self", "assignment"] (spAt K C)) (C__law_added : Cal P w K mg base "_law_added" 3 ["_law_parts"] (spLAdd K)) (C__law_is : CIs P w K mg base) (C_ratio_at : Cal P w K mg base "ratio_at" 3 ["terms", "assignment"] (spRatioAt K)) : FnOk P w K mg base CX0 5 f fd ["_law_source_here", "_law_pairs_here"] (spValues K) := by
  refine F.ok sc__law_values_right (fun vs H Q E h => ?_) (fun cdv A outer s H vs Q E hr h => ?_)
  · unfold spValues at h
    obtain ⟨s, a, ps, rfl, _⟩ := h
    rfl
  · unfold spValues at h
    obtain ⟨src, a, ps, rfl, hA, hP, hl6, q⟩ := h
    have hu := hu_of hr
    refine ⟨_, (pss_cons (ps_set (i := 2) sc__law_values_right.nd rfl (Or.inr rfl) pe_dnewK)
    (pss_cons (ps_set (i := 3) sc__law_values_right.nd rfl (Or.inr rfl) pe_dnewK)
    (pss_cons (ps_for PassesOwn.never rfl (pi_list (pe_lst (pa_cons pe_str (pa_cons pe_str (pa_cons pe_str (pa_cons pe_str (pa_cons pe_str (pa_cons pe_str pa_nil)))))))) (pg_name (i := 4) sc__law_values_right.nd rfl (Or.inl rfl))
      (pss_cons (ps_dput hu (pv 2) (pv 4) (pe_cal C__law_number (hr.mono (by decide)) (pa_cons (pv 0) pa_nil)) rfl)
    (pss_one (ps_dput hu (pv 3) (pv 4) (pe_cal C__law_ratio (hr.mono (by decide)) (pa_cons (pv 0) pa_nil)) rfl))))
    (pss_cons (ps_setLc (i := 5) (own := [("_law_name", 4)]) (tt := tYes) rfl sc__law_values_right.nd rfl rfl (sw_true rfl rfl rfl (by decide +kernel)) (pi_list (pe_callB (id := "sorted") (call_sortedD rfl) (by rfl) m_sorted (by decide +kernel) (pa_cons (pv 2) pa_nil))) (blkOk_by (N := n__law_values_right) (sc := defScope s__law_values_right) (by decide +kernel)) (fun _ _ _ _ _ => pg_name (i := 4) sc__law_values_right.nd rfl (Or.inl rfl)) (fun _ _ _ _ _ => pts_nil) (fun _ _ _ _ _ => (pe_tup (pa_cons (pv 4) (pa_cons (pe_dget hu (pv 2) (pv 4) (fun _ _ => rfl)) (pa_cons (pe_dget hu (pv 3) (pv 4) (fun _ _ => rfl)) pa_nil))))))
    (pss_cons (ps_set (i := 6) sc__law_values_right.nd rfl (Or.inl rfl) (pe_cal C__law_terms (hr.mono (by decide)) (pa_cons (pv 1) pa_nil)))
    (pss_cons (ps_if (pt_cmpR op_ne (pe_mth M_at (hr.mono (by decide)) (pe_mak K_Sum (hr.mono (by decide)) (pa_cons (pv 1) pa_nil)) (pa_cons (pv 2) pa_nil)) (pe_callB (id := "sum") (cr_sum rfl) (by rfl) m_sum (by decide +kernel) (pa_cons (pe_lc (own := [("_law_term", 8)]) (tt := tYes) rfl sc__law_values_right.nd (pi_tup (pv 6)) (blkOk_by (N := n__law_values_right) (sc := defScope s__law_values_right) (by decide +kernel)) (fun _ _ _ _ _ => pg_name (i := 8) sc__law_values_right.nd rfl (Or.inl rfl)) (fun _ _ _ _ _ => pts_nil) (fun _ _ _ _ _ => (pe_op op_mulW (pe_ix (ix_tupK (K := K) rfl) (pv 8) pe_int (fun _ _ => rfl)) (pe_dget hu (pv 2) (pe_ix (ix_tupK (K := K) rfl) (pv 8) pe_int (fun _ _ => rfl)) (fun _ _ => rfl))))) pa_nil)) (nomark _))
      (pss_one (ps_ret pe_bl))
      pss_nil)
    (pss_cons (ps_set (i := 7) sc__law_values_right.nd rfl (Or.inl rfl) (pe_cal C__law_added (hr.mono (by decide)) (pa_cons (pe_lc (own := [("_law_term", 8)]) (tt := tYes) rfl sc__law_values_right.nd (pi_tup (pv 6)) (blkOk_by (N := n__law_values_right) (sc := defScope s__law_values_right) (by decide +kernel)) (fun _ _ _ _ _ => pg_name (i := 8) sc__law_values_right.nd rfl (Or.inl rfl)) (fun _ _ _ _ _ => pts_nil) (fun _ _ _ _ _ => (pe_tup (pa_cons (pe_op op_mulW (pe_ix (ix_tupK (K := K) rfl) (pv 8) pe_int (fun _ _ => rfl)) (pe_ix (ix_tupK (K := K) rfl) (pe_dget hu (pv 3) (pe_ix (ix_tupK (K := K) rfl) (pv 8) pe_int (fun _ _ => rfl)) (fun _ _ => rfl)) pe_int (fun _ _ => rfl))) (pa_cons (pe_ix (ix_tupK (K := K) rfl) (pe_dget hu (pv 3) (pe_ix (ix_tupK (K := K) rfl) (pv 8) pe_int (fun _ _ => rfl)) (fun _ _ => rfl)) pe_int (fun _ _ => rfl)) pa_nil))))) pa_nil)))
    (pss_cons (ps_if (pt_not (pt_val (pe_cal C__law_is (hr.mono (by decide)) (pa_cons (pe_cal C_ratio_at (hr.mono (by decide)) (pa_cons (pv 6) (pa_cons (pv 3) pa_nil))) (pa_cons (pv 7) pa_nil)))))
      (pss_one (ps_ret pe_bl))
      pss_nil)
    (pss_one (ps_ret (pe_cmpR (op_eqD hr.units) (pe_lc (own := [("_law_name", 4)]) (tt := tYes) rfl sc__law_values_right.nd (pi_list (pe_callB (id := "sorted") (call_sortedD rfl) (by rfl) m_sorted (by decide +kernel) (pa_cons (pv 2) pa_nil))) (blkOk_by (N := n__law_values_right) (sc := defScope s__law_values_right) (by decide +kernel)) (fun _ _ _ _ _ => pg_name (i := 4) sc__law_values_right.nd rfl (Or.inl rfl)) (fun _ _ _ _ _ => pts_nil) (fun _ _ _ _ _ => (pe_tup (pa_cons (pv 4) (pa_cons (pe_dget hu (pv 2) (pv 4) (fun _ _ => rfl)) (pa_cons (pe_dget hu (pv 3) (pv 4) (fun _ _ => rfl)) pa_nil)))))) (pv 5) (nomark _)))))))))))), ?_⟩
    walk_at "rd"
    intro D1 nD1
    have nD1s : D1 ≠ src := (src_ne hA nD1).symm
    walk_at "rd"
    intro D2 nD2
    have nD21 : D2 ≠ D1 := fun e => by rw [e, upd_same] at nD2; cases nD2
    have nD20 : H D2 = none := (same_new nD1).free nD2
    have nD2s : D2 ≠ src := (src_ne hA nD20).symm
    walk_at "rd"
    refine ⟨sz (by show 6 ≤ 100000; decide), fun L nL => ?_⟩
    have nL2 : L ≠ D2 := fun e => by rw [e, upd_same] at nL; cases nL
    have nL1' : upd H D1 (.dK []) L = none := (same_new nD2).free nL
    have nL1 : L ≠ D1 := fun e => by rw [e, upd_same] at nL1'; cases nL1'
    have nL0 : H L = none := (same_new nD1).free nL1'
    have nLs : L ≠ src := (src_ne hA nL0).symm
    refine ⟨L, rfl, ⟨_, sq upd_same⟩, for_it walk_list (fun i σ H' => ∃ (o4 o5 o6 o7 o8 : Option V) (g : Str → Int) (ra : Str → Addr) (r : Str → Int × Int), σ = [some (.ref src), some (.ref a), some (.ref D1), some (.ref D2), o4, o5, o6, o7, o8] ∧ SameBut src H H' ∧ Src H' src ∧ H' L = some (.lst (N6.map V.str)) ∧
        H' D1 = some (.dK (kvG (fun n => .int (g n)) (N6.take i))) ∧ H' D2 = some (.dK (kvG (fun n => .ref (ra n)) (N6.take i))) ∧ VInv K H' (N6.take i) g ra r)
      ⟨none, none, none, none, none, fun _ => 0, fun _ => 0, fun _ => (0, 1), rfl, Bx.Same.but (Same.trans (same_new nD1) (Same.trans (same_new nD2) (same_new nL))), src_upd (src_upd (src_upd hA nD1s.symm) nD2s.symm) nLs.symm, upd_same, by rw [upd_ne nL1.symm, upd_ne nD21.symm, upd_same]; rfl, by rw [upd_ne nL2.symm, upd_same]; rfl, ⟨(fun n hn => nomatch hn), fun n hn => nomatch hn⟩⟩ (fun i σ H' _ ⟨_, _, _, _, _, _, _, _, _, _, _, e, _⟩ => sq e) ?_ ?_⟩
    · rintro i x σ H1 H1' hi ⟨o4, o5, o6, o7, o8, g, ra, r, rfl, s1, hA1, hL, hd1, hd2, vi⟩ ⟨rfl, hx⟩
      obtain ⟨n, hn, rfl⟩ := at_map (l := N6) hx
      have hnt := take_nodup hn
      have hi6 : i < 6 := hi
      have tk : N6.take (i + 1) = N6.take i ++ [n] := by rw [List.take_add_one, hn]; rfl
      have kl1 : (kvG (fun n => V.int (g n)) (N6.take i)).length < 100000 := by
        rw [kvG, List.length_map, List.length_take]
        omega
      have kl2 : (kvG (fun n => V.ref (ra n)) (N6.take i)).length < 100000 := by
        rw [kvG, List.length_map, List.length_take]
        omega
      walk_at "rd"
      refine number_of hA1 fun c H2 c1 s2 hA2 => ?_
      have hd1' := s2 _ _ nD1s hd1
      walk_at "rd"
      refine ⟨_, _, rfl, DPut.k (k := Sum.inr n) hd1' (szl kl1), ?_⟩
      rw [kvG_put hnt]
      walk_at "rd"
      refine rat_of (src_upd hA2 nD1s.symm) fun p r' H3 s3 hA3 np hp r0 rb => ?_
      have hd2' := s2 _ _ nD2s hd2
      have hd23 : H3 D2 = some (.dK (kvG (fun n => V.ref (ra n)) (N6.take i))) := s3 _ _ nD2s (by rw [upd_ne nD21]; exact hd2')
      have hd13 := s3 _ _ nD1s upd_same
      have hL3 : H3 L = some (.lst (N6.map V.str)) := s3 _ _ nLs (by rw [upd_ne nL1]; exact s2 _ _ nLs hL)
      walk_at "rd"
      refine ⟨_, _, rfl, DPut.k (k := Sum.inr n) hd23 (szl kl2), ?_⟩
      rw [kvG_put hnt]
      have e1 : (fun m => if m = n then V.int c else V.int (g m)) = fun m => V.int (if m = n then c else g m) := funext fun m => by split <;> rfl
      have e2 : (fun m => if m = n then V.ref p else V.ref (ra m)) = fun m => V.ref (if m = n then p else ra m) := funext fun m => by split <;> rfl
      rw [e1] at hd13
      rw [e2]
      have sH3 : SameBut src H H3 := (but_at nD1 (s1.trans s2)).trans s3
      have keep : ∀ b o, H1' b = some o → b ≠ src → b ≠ D1 → b ≠ D2 → (upd H3 D2 (.dK (kvG (fun m => V.ref (if m = n then p else ra m)) (N6.take i ++ [n])))) b = some o := fun b o e h1 h2 h3 => by
        rw [upd_ne h3]
        exact s3 _ _ h1 (by rw [upd_ne h2]; exact s2 _ _ h1 e)
      have npD : p ≠ D2 := fun z => by
        rw [z, upd_ne nD21, hd2'] at np
        cases np
      refine ⟨_, _, _, _, _, (fun m => if m = n then c else g m), (fun m => if m = n then p else ra m), (fun m => if m = n then r' else r m), rfl, but_at nD20 sH3, src_upd hA3 nD2s.symm, ?_, ?_, ?_, ⟨fun m hm => ?_, fun m hm => ?_⟩⟩
      · rw [upd_ne nL2]
        exact hL3
      · rw [upd_ne nD21.symm, tk]
        exact hd13
      · rw [upd_same, tk]
      · split
        · exact c1
        · rename_i hmn
          rw [tk] at hm
          exact vi.b m ((List.mem_append.mp hm).resolve_right fun z => hmn (List.mem_singleton.mp z))
      · by_cases hmn : m = n
        · rw [if_pos hmn, if_pos hmn, upd_ne npD]
          exact ⟨hp, r0, rb⟩
        · rw [if_neg hmn, if_neg hmn]
          rw [tk] at hm
          obtain ⟨v1, v2⟩ := vi.r m ((List.mem_append.mp hm).resolve_right fun z => hmn (List.mem_singleton.mp z))
          refine ⟨keep _ _ v1 (fun z => ?_) (fun z => ?_) (fun z => ?_), v2⟩
          · obtain ⟨x1, x2, x3⟩ := hA1
            rw [z, x3] at v1
            cases v1
          · rw [z, hd1] at v1
            cases v1
          · rw [z, hd2] at v1
            cases v1
    rintro σ H1 ⟨o4, o5, o6, o7, o8, g, ra, r, rfl, s1, hA1, hL, hd1, hd2, vi⟩
    have e6 : N6.take (List.map V.str N6).length = N6 := rfl
    rw [e6] at hd1 hd2 vi
    have hP1 := hP.but hA s1
    obtain ⟨⟨xs, hxs, hxd⟩, h5, hal, hab⟩ := id hP1
    have hbig := coef6 hl6 hab
    walk_at "rd"
    refine ⟨D1, _, N6, rfl, .inl hd1, kvG_keys _ _, by decide, fun ys p1 pm1 st1 np1 => ?_⟩
    have asc1 : Asc ys := asc_perm pm1 st1 n6_nodup
    have hyn : ∀ n ∈ ys, n ∈ N6 := fun n hn => pm1.mem_iff.mp hn
    have hyl : ys.length ≤ 10 := by
      have := pm1.length_eq
      have e : N6.length = 6 := rfl
      omega
    have sp1 := same_new np1 (o := .lst (ys.map V.str))
    walk_at "rd"
    refine ⟨⟨_, sq upd_same⟩, fun M1 nM1 => ?_⟩
    refine lc_trip (sp1 _ _ hd1) (sp1 _ _ hd2) upd_same hyn hyl (fun n hn => sp1 _ _ (vi.r n hn).1) nM1 (fun _ => rfl) (fun n H' Z hn hd1' hd2' z => ?_) (fun us H2 s2 hM1 dM1 => ?_)
    · walk_at "rd"
      have ev1 : valV (kvG (fun n => V.int (g n)) N6) (Sum.inr n) = some (.int (g n)) := by rw [kvG_val, if_pos hn]
      have ev2 : valV (kvG (fun n => V.ref (ra n)) N6) (Sum.inr n) = some (.ref (ra n)) := by rw [kvG_val, if_pos hn]
      refine ⟨D1, _, rfl, ev1 ▸ DGet.k (k := Sum.inr n) hd1', ?_⟩
      walk_at "rd"
      refine ⟨D2, _, rfl, ev2 ▸ DGet.k (k := Sum.inr n) hd2', ?_⟩
      walk_at "rd"
      exact ⟨sz (by show 3 ≤ 100000; decide), z⟩
    have s12 := Same.trans sp1 s2
    have gat : ∀ n ∈ N5, valV (kvG (fun n => V.int (g n)) N6) (Sum.inr n) = some (.int (g n)) ∧ (g n).natAbs < 2 ^ 100 := fun n hn => by
      refine ⟨by rw [kvG_val, if_pos (n56 n hn)], ?_⟩
      have := vi.b n (n56 n hn)
      omega
    have rat : ∀ H', Same H1 H' → RatAt K H' (kvG (fun n => V.ref (ra n)) N6) r := fun H' s n hn => by
      obtain ⟨v1, v2, v3⟩ := vi.r n (n56 n hn)
      exact ⟨⟨ra n, by rw [kvG_val, if_pos (n56 n hn)], sqt (s _ _ v1)⟩, v2, v3⟩
    walk_at "rd"
    unfold spTerms
    refine ⟨a, xs, ps, rfl, sq (s12 _ _ hxs), dpAll_same s12 hxd, by omega, fun t2 z2 H3 s3 n2 h2 d2 => ?_⟩
    have s13 := Same.trans s12 s3
    walk_at "rd"
    intro p dp np nd _
    refine init_of (ps := ps) np nd (.inl (.lst (sq (s13 _ _ hxs)) (dpAll_same s13 hxd))) h5 (by omega) fun H4 s4 hp => ⟨rfl, ?_⟩
    have s14 := Same.trans s13 s4
    obtain ⟨dx, t, zs, e1, _, _⟩ := id hp
    refine ⟨p, dx, fS t, rfl, e1, ?_, ?_⟩
    · have e : (("at" : Str) == ("terms" : Str)) = false := by decide +kernel
      simp only [fS, List.lookup, e]
    walk_at "rd"
    unfold spAt
    have bigP : Big ps := fun x hx => lt_up (hbig x hx) (by decide)
    refine ⟨p, D1, ps, _, g, rfl, hp, bigP, s14 _ _ hd1, gat, fun H5 s5 => ?_⟩
    have s15 := Same.trans s14 s5
    have s35 := Same.trans s4 s5
    have h2' := Bx.Same.tup s35 h2
    have d2' := dpAll_same s35 d2
    walk_at "rd"
    refine ⟨⟨_, h2'⟩, fun M2 nM2 => ?_⟩
    refine lc_tv h2' d2' (tms60 ps) (fun x => .int (g x.1 * x.2)) nM2 (fun _ => rfl) (fun pa x H' Z hx hp' s' z => ?_) (fun H6 s6 hM2 => ?_)
    · obtain ⟨e1, e2⟩ := gat x.1 (in5_tms ps x hx)
      walk_at "rd"
      refine ⟨_, _, _, _, rfl, rfl, hp', atI_nat (j := 1) rfl, ?_⟩
      walk_at "rd"
      refine ⟨_, _, _, _, rfl, rfl, hp', atI_nat (j := 0) rfl, ?_⟩
      refine ⟨D1, _, rfl, e1 ▸ DGet.k (k := Sum.inr x.1) (s' _ _ (s15 _ _ hd1)), ?_⟩
      refine ⟨_, _, rfl, rfl, wide_mul (hbig x hx) e2 (by decide) (by decide) (by decide), ?_⟩
      show Z (.int (x.2 * g x.1)) H'
      rw [Int.mul_comm]
      exact z
    have s16 := Same.trans s15 s6
    walk_at "rd"
    refine ⟨M2, (tms ps).map (fun x : Tr5 => g x.1 * x.2), rfl, by rw [List.map_map]; exact sq hM2, ?_⟩
    walk_at "rd"
    refine ite2 (fun h => absurd (show lin g (tms ps) = ((tms ps).map (fun x : Tr5 => g x.1 * x.2)).sum from rfl) (int_nt h)) (fun _ => ?_)
    walk_at "rd"
    have h26 := Bx.Same.tup s6 h2'
    have d26 := dpAll_same s6 d2'
    refine ⟨⟨_, h26⟩, fun M3 nM3 => ?_⟩
    have hz2l : z2.length = (tms ps).length := by rw [da_len d26, List.length_map]
    refine lc_it walk_tup (fun n H' => ∃ us, H' M3 = some (.lst us) ∧ DpAll K (mn H' [M3]) us ((wtd r ((tms ps).take n)).map prD) ∧ Same H6 H') ⟨[], upd_same, .nil, same_new nM3⟩ (fun n H' _ ⟨_, _, _, s⟩ => Bx.Same.tup s h26) ?_ ?_
    · rintro n x H7 H7' hi ⟨vs, hM, dM, s7⟩ ⟨rfl, hx⟩
      obtain ⟨y, hy, pa, rfl, hpa⟩ := tm_at d26 hx
      have hym := List.mem_of_getElem? hy
      obtain ⟨⟨ry, ery, hry⟩, hpos, hbits⟩ := rat _ (Same.trans s16 s7) y.1 (in5_tms ps y hym)
      have hpa7 := Bx.Same.tup s7 hpa
      have hnl := (List.getElem?_eq_some_iff.mp hy).1
      have hvs : vs.length < 100000 := by
        have := tms_len ps
        rw [da_len dM, List.length_map, wtd, List.length_map, List.length_take]
        omega
      have hd27 := s7 _ _ (s16 _ _ hd2)
      refine ⟨rfl, ?_⟩
      walk_at "rd"
      refine ⟨_, _, _, _, rfl, rfl, hpa7, atI_nat (j := 1) rfl, ?_⟩
      walk_at "rd"
      refine ⟨_, _, _, _, rfl, rfl, hpa7, atI_nat (j := 0) rfl, ?_⟩
      refine ⟨D2, _, rfl, ery ▸ DGet.k (k := Sum.inr y.1) hd27, ?_⟩
      walk_at "rd"
      refine ⟨_, _, _, _, rfl, rfl, hry, atI_nat (j := 0) rfl, ?_⟩
      refine ⟨_, _, rfl, rfl, wide_mul (hbig y hym) hbits.1 (by decide) (by decide) (by decide), ?_⟩
      walk_at "rd"
      refine ⟨_, _, _, _, rfl, rfl, hpa7, atI_nat (j := 0) rfl, ?_⟩
      refine ⟨D2, _, rfl, ery ▸ DGet.k (k := Sum.inr y.1) hd27, ?_⟩
      walk_at "rd"
      refine ⟨_, _, _, _, rfl, rfl, hry, atI_nat (j := 1) rfl, ?_⟩
      walk_at "rd"
      refine ⟨sz (by show 2 ≤ 100000; decide), fun t nt => ?_⟩
      have st := same_new nt (o := .tup [V.int (y.2 * (r y.1).1), V.int (r y.1).2])
      refine ⟨_, st _ _ hM, szl hvs, vs ++ [.ref t], upd_same, ?_, same_at nM3 (Same.trans s7 st)⟩
      have tk : wtd r ((tms ps).take (n + 1)) = wtd r ((tms ps).take n) ++ [(y.2 * (r y.1).1, (r y.1).2)] := by
        unfold wtd
        rw [List.take_add_one, hy, List.map_append]
        rfl
      rw [mn_upd (S := [M3]) List.mem_cons_self, tk, List.map_append]
      refine da_app (dpAll_same (mn_all st) dM) (da_one (pr_dp (p := (y.2 * (r y.1).1, (r y.1).2)) (sqt (mn_at ?_ upd_same))))
      exact fun z => ne_of_none hM nt (List.mem_singleton.mp z).symm
    rintro H7 ⟨vs, hM3, dM3, s7⟩
    rw [hz2l, List.take_length] at dM3
    have s17 := Same.trans s16 s7
    have hPt : Parts (wtd r (tms ps)) := ⟨by rw [wtd, List.length_map]; exact tms_len ps, fun p hp => by
      obtain ⟨x, hx, rfl⟩ := List.mem_map.mp hp
      obtain ⟨_, hpos, hbits⟩ := rat H1 (Same.refl _) x.1 (in5_tms ps x hx)
      exact ⟨hpos, wide_lt (hbig x hx) hbits.1, hbits.2⟩⟩
    walk_at "rd"
    unfold spLAdd
    refine ⟨M3, vs, _, rfl, sq hM3, dpAll_same mn_same dM3, hPt, fun p8 H8 s8 n8 h8 => ?_⟩
    have s18 := Same.trans s17 s8
    have s68 := Same.trans s7 s8
    walk_at "rd"
    unfold spRatioAt
    refine ⟨t2, D2, z2, tms ps, _, r, rfl, Bx.Same.tup s68 h26, dpAll_same s68 d26, tms_len ps, fun x hx => ⟨in5_tms ps x hx, lt_up (hbig x hx) (by decide)⟩, s18 _ _ hd2, rat _ s18, fun p9 H9 s9 n9 h9 => ?_⟩
    walk_at "rd"
    refine is_of (x := low (addR (wtd r (tms ps))).1 (addR (wtd r (tms ps))).2) (sqt h9) (sqt (s9 _ _ h8)) ?_
    have s19 := Same.trans s18 s9
    walk_at "rd"
    refine ⟨D1, _, N6, rfl, .inl (s19 _ _ hd1), kvG_keys _ _, by decide, fun ys2 p2 pm2 st2 np2 => ?_⟩
    have asc2 : Asc ys2 := asc_perm pm2 st2 n6_nodup
    have eys : ys2 = ys := asc_eq asc2 asc1 fun n => pm2.mem_iff.trans pm1.mem_iff.symm
    subst eys
    have sp2 := same_new np2 (o := .lst (ys2.map V.str))
    have s1a := Same.trans s19 sp2
    walk_at "rd"
    refine ⟨⟨_, sq upd_same⟩, fun M4 nM4 => ?_⟩
    refine lc_trip (s1a _ _ hd1) (s1a _ _ hd2) upd_same hyn hyl (fun n hn => s1a _ _ (vi.r n hn).1) nM4 (fun _ => rfl) (fun n H' Z hn hd1' hd2' z => ?_) (fun us2 Ha sa hM4 dM4 => ?_)
    · walk_at "rd"
      have ev1 : valV (kvG (fun n => V.int (g n)) N6) (Sum.inr n) = some (.int (g n)) := by rw [kvG_val, if_pos hn]
      have ev2 : valV (kvG (fun n => V.ref (ra n)) N6) (Sum.inr n) = some (.ref (ra n)) := by rw [kvG_val, if_pos hn]
      refine ⟨D1, _, rfl, ev1 ▸ DGet.k (k := Sum.inr n) hd1', ?_⟩
      walk_at "rd"
      refine ⟨D2, _, rfl, ev2 ▸ DGet.k (k := Sum.inr n) hd2', ?_⟩
      walk_at "rd"
      exact ⟨sz (by show 3 ≤ 100000; decide), z⟩
    have s2a : Same H2 Ha := Same.trans (Same.trans (Same.trans s3 (Same.trans s4 s5)) (Same.trans s6 (Same.trans s7 s8))) (Same.trans s9 (Same.trans sp2 sa))
    have lay : Lay 3 (.list (ys2.map (trip g r))) := lay_trip fun n hn => n6_ok n (hyn n hn)
    walk_at "rd"
    refine ⟨_, _, .lst (sq hM4) dM4, .lst (sq (s2a _ _ hM1)) (dpAll_same s2a dM1), shape lay (by decide), shape lay (by decide), ?_⟩
    rw [eq_refl lay]
    have sF := Same.trans s1a sa
    exact q Ha (s1.trans (Bx.Same.but sF)) (src_same hA1 sF)
end
end K23
namespace K23
local macro_rules | `(tactic| walk_at "rd") => `(tactic| repeat (first | refine ⟨rfl, ?_⟩ | refine ⟨_, rfl, ?_⟩ | refine ⟨_, _, rfl, rfl, ?_⟩ | refine ⟨⟨_, rfl⟩, ?_⟩))
open PySem PySem.Spec PyProof.Rows L2 Bx TL Dx Zx Ow M23 M30
section
variable {P : Program} {w : World} {K : PySem.W.Frag} {mg : Str → Option Value} {base : Heap}
/-! ### a list changes -/
theorem sqt_lst {H : Hp} {l a : Addr} {zs xs : List V} {o : HO} (hl : H l = some (.lst zs)) (h : SqT K H a xs) : SqT K (upd H l o) a xs := by
  have ne : ∀ u, H a = some u → u ≠ .lst zs → a ≠ l := fun u e1 e2 z => by
    rw [z, hl] at e1
    exact e2 (Option.some.inj e1).symm
  rcases h with (h | ⟨u, h⟩) | h
  · exact .inl (.inl (by rw [upd_ne (ne _ h fun z => by cases z)]; exact h))
  · exact .inl (.inr ⟨u, by rw [upd_ne (ne _ h fun z => by cases z)]; exact h⟩)
  · exact .inr h
theorem da_lst {H : Hp} {l : Addr} {zs : List V} {o : HO} (hl : H l = some (.lst zs)) : ∀ {xs : List V} {ts : List Tr5}, DpAll K H xs (ts.map tmD) → DpAll K (upd H l o) xs (ts.map tmD)
  | xs, [], h => by
    cases h
    exact .nil
  | xs, x :: ts, h => by
    cases h with
    | cons h t =>
      obtain ⟨a, rfl, ha⟩ := tm_inv h
      exact .cons (tm_dp (sqt_lst hl ha)) (da_lst hl t)
theorem Prs.lst {H : Hp} {l a : Addr} {zs : List V} {o : HO} {ps : List Tr5} (hl : H l = some (.lst zs)) (n : a ≠ l) (h : Prs K H a ps) : Prs K (upd H l o) a ps := by
  obtain ⟨⟨xs, h1, h2⟩, h3, h4, h6⟩ := h
  exact ⟨⟨xs, by rw [upd_ne n]; exact h1, da_lst hl h2⟩, h3, h4, h6⟩
theorem SumAt.lst {C : Addr} {H : Hp} {l p : Addr} {zs : List V} {o : HO} {ps : List Tr5} (hl : H l = some (.lst zs)) (h : SumAt K C H p ps) : SumAt K C (upd H l o) p ps := by
  obtain ⟨dx, t, ys, h1, ⟨u, h2, h4⟩, h3⟩ := h
  refine ⟨dx, t, ys, ?_, ⟨u, ?_, h4⟩, da_lst hl h3⟩
  · rw [upd_ne fun z => by rw [z, hl] at h1; cases h1]
    exact h1
  · rw [upd_ne fun z => by rw [z, hl] at h2; cases h2]
    exact h2
theorem prs_of {H : Hp} {a : Addr} {xs : List V} {ps : List Tr5} (h1 : H a = some (.lst xs)) (h2 : DpAll K H xs (ps.map tmD)) (h3 : In5 ps) (h4 : ps.length ≤ 6) (h6 : ∀ x ∈ ps, x.2.natAbs < 1000000000000) : Prs K H a ps :=
  ⟨⟨xs, h1, h2⟩, h3, by omega, fun x hx => n41 (h6 x hx)⟩
theorem form_of {H : Hp} {a : Addr} {ps : List Tr5} {Q : VK} {E : XK} (h : Prs K H a ps) (q : ∀ H', Same H H' → Q (.bl true) H') : spForm K [.ref a] H Q E := by
  unfold spForm
  exact ⟨a, ps, rfl, h, q⟩
def spLaw (K : PySem.W.Frag) : Sp := fun vs H Q _ => ∃ (a : Addr) (ns : List Int), vs = [.ref a] ∧ SqL K H a (ns.map V.int) ∧ ns.length ≤ 63 ∧ ∀ H', Q (.bl true) H'
theorem ok_law {C : Addr} {f : Addr} {fd : FuncData} (F : Fun K "law" "law" s_law f fd) (m_list : mg "list" = none) (C__law_source : Cal P w K mg base "_law_source" 1 ["_law_script", "_law_k"] (spSource K)) (C__law_ratios_right : Cal P w K mg base "_law_ratios_right" 5 ["_law_source_here"] spRight)
    (C__law_pairs : Cal P w K mg base "_law_pairs" 4 ["_law_source_here"] (spPairs K)) (C__law_draw : CDraw P w K mg base) (C__law_scaled : CScl P w K mg base) (K_Sum : MkS P w K mg base C) (C__law_form_right : Cal P w K mg base "_law_form_right" 3 ["_law_pairs_here"] (spForm K)) (C__law_same : CSame P w K mg base C)
    (C__law_signs_right : Cal P w K mg base "_law_signs_right" 6 ["_law_left", "_law_right", "_law_factor"] (spSigns K)) (C__law_number : CNum P w K mg base) (C__law_values_right : Cal P w K mg base "_law_values_right" 5 ["_law_source_here", "_law_pairs_here"] (spValues K)) (C__law_names_right : Cal P w K mg base "_law_names_right" 6 ["_law_source_here", "_law_pairs_here"] (spNamesR K)) :
    FnOk P w K mg base CX0 7 f fd ["_law_script"] (spLaw K) := by
  refine F.ok sc_law (fun vs H Q E h => ?_) (fun cdv A outer s H vs Q E hr h => ?_)
  · obtain ⟨a, ns, rfl, _⟩ := h
    rfl
  · obtain ⟨a, ns, rfl, hs, hl, q⟩ := h
    refine ⟨_, (pss_cons (ps_if (pt_not (pt_val (pe_cal C__law_ratios_right (hr.mono (by decide)) (pa_cons (pe_cal C__law_source (hr.mono (by decide)) (pa_cons (pv 0) (pa_cons pe_int pa_nil))) pa_nil))))
      (pss_one (ps_ret pe_bl))
      pss_nil)
    (pss_cons (ps_set (i := 1) sc_law.nd rfl (Or.inl rfl) (pe_cal C__law_source (hr.mono (by decide)) (pa_cons (pv 0) (pa_cons pe_int pa_nil))))
    (pss_cons (ps_set (i := 2) sc_law.nd rfl (Or.inl rfl) (pe_cal C__law_pairs (hr.mono (by decide)) (pa_cons (pv 1) pa_nil)))
    (pss_cons (ps_set (i := 3) sc_law.nd rfl (Or.inl rfl) (pe_cal C__law_pairs (hr.mono (by decide)) (pa_cons (pv 1) pa_nil)))
    (pss_cons (ps_if (pt_cmpR op_eq (pe_cal C__law_draw (hr.mono (by decide)) (pa_cons (pv 1) (pa_cons pe_int pa_nil))) pe_int (nomark _))
      (pss_one (ps_set (i := 3) sc_law.nd rfl (Or.inl rfl) (pe_cal C__law_scaled (hr.mono (by decide)) (pa_cons (pv 2) (pa_cons (pe_un un_neg pe_int) pa_nil)))))
      pss_nil)
    (pss_cons (ps_set (i := 4) sc_law.nd rfl (Or.inl rfl) (pe_callTy (T := "list") call_list_of (by rfl) m_list (by decide +kernel) (pa_cons (pv 2) pa_nil)))
    (pss_cons (ps_set (i := 5) sc_law.nd rfl (Or.inl rfl) (pe_mak K_Sum (hr.mono (by decide)) (pa_cons (pv 4) pa_nil)))
    (pss_cons (ps_if (PW.pt (pw_or (pt_cmpR (op_neD hr.units) (pv 4) (pv 2) (nomark _)) (pw_or1 (pt_not (pt_val (pe_cal C__law_form_right (hr.mono (by decide)) (pa_cons (pv 2) pa_nil)))))))
      (pss_one (ps_ret pe_bl))
      pss_nil)
    (pss_cons (ps_expr (pe_bm PySem.F.plainAttrs_list PySem.F.slot_list_append PySem.F.type_list_append mt_append (pv 4) (pa_cons (pe_tup (pa_cons pe_str (pa_cons pe_int pa_nil))) pa_nil)))
    (pss_cons (ps_if (PW.pt (pw_or (pt_not (pt_val (pe_cal C__law_same (hr.mono (by decide)) (pa_cons (pv 5) (pa_cons (pv 2) pa_nil))))) (pw_or1 (pt_not (pt_val (pe_cal C__law_same (hr.mono (by decide)) (pa_cons (pe_mak K_Sum (hr.mono (by decide)) (pa_cons (pv 4) pa_nil)) (pa_cons (pe_op op_cat (pv 2) (pe_lst (pa_cons (pe_tup (pa_cons pe_str (pa_cons pe_int pa_nil))) pa_nil))) pa_nil))))))))
      (pss_one (ps_ret pe_bl))
      pss_nil)
    (pss_cons (ps_if (pt_not (pt_val (pe_cal C__law_signs_right (hr.mono (by decide)) (pa_cons (pv 2) (pa_cons (pv 3) (pa_cons (pe_cal C__law_number (hr.mono (by decide)) (pa_cons (pv 1) pa_nil)) pa_nil))))))
      (pss_one (ps_ret pe_bl))
      pss_nil)
    (pss_cons (ps_set (i := 1) sc_law.nd rfl (Or.inl rfl) (pe_cal C__law_source (hr.mono (by decide)) (pa_cons (pv 0) (pa_cons pe_int pa_nil))))
    (pss_one (ps_ret (pe_and (pe_cal C__law_values_right (hr.mono (by decide)) (pa_cons (pv 1) (pa_cons (pv 2) pa_nil))) (pe_and (pe_cal C__law_names_right (hr.mono (by decide)) (pa_cons (pv 1) (pa_cons (pv 3) pa_nil))) (pe_one (pe_cal C__law_form_right (hr.mono (by decide)) (pa_cons (pv 3) pa_nil))))))))))))))))))), ?_⟩
    walk_at "rd"
    refine ⟨a, ns, 0, rfl, hs, by decide, fun p1 n1 c1 np1 => ?_⟩
    walk_at "rd"
    refine ⟨⟨n1, c1, upd_same⟩, fun H1 s1 => ?_⟩
    have S1 : Same H H1 := SameBut.same (same_new np1) np1 s1
    walk_at "rd"
    refine ⟨a, ns, 1, rfl, S1.seq hs, by decide, fun p2 n2 c2 np2 => ?_⟩
    have S2 : Same H (upd H1 p2 (.lst [.int n2, .int c2])) := Same.trans S1 (same_new np2)
    have np20 := S1.free np2
    have hA2 : Src (upd H1 p2 (.lst [.int n2, .int c2])) p2 := ⟨n2, c2, upd_same⟩
    generalize upd H1 p2 (.lst [.int n2, .int c2]) = H2 at *
    walk_at "rd"
    unfold spPairs
    refine ⟨p2, rfl, hA2, fun r1 xs1 ps1 H3 s3 hA3 nr1 hr1 hd1 h51 hl1 hb1 => ?_⟩
    walk_at "rd"
    refine ⟨hA3, fun r2 xs2 ps2 H4 s4 hA4 nr2 hr2 hd2 h52 hl2 hb2 => ?_⟩
    have P1 : Prs K H4 r1 ps1 := (prs_of hr1 hd1 h51 hl1 hb1).but hA3 s4
    have P2 : Prs K H4 r2 ps2 := prs_of hr2 hd2 h52 hl2 hb2
    have S4 : Same H H4 := SameBut.same S2 np20 (s3.trans s4)
    walk_at "rd"
    refine draw_of hA4 ⟨by decide, by decide⟩ fun d H5 _ _ s5 hA5 => ?_
    have P15 := P1.but hA4 s5
    have P25 := P2.but hA4 s5
    have S5 : Same H H5 := SameBut.same S4 np20 s5
    clear s1 S1 S2 hA2 s3 hA3 nr1 hr1 hd1 s4 hA4 nr2 hr2 hd2 P1 P2 S4 s5
    walk_at "rd"
    refine if_asg (fun v H' => ∃ (rb : Addr) (qs : List Tr5), v = .ref rb ∧ Prs K H' rb qs ∧ Same H5 H') rfl (fun _ Z k => ?_) (fun _ => ⟨r2, ps2, rfl, P25, Same.refl _⟩) ?_
    · walk_at "rd"
      refine scaled_of P15 (by decide) fun r us H6 s6 n6 h6 d6 => ?_
      refine k _ H6 ⟨r, scl (-1) ps1, rfl, prs_of h6 d6 (in5_scale _ h51) (by rw [scl_len]; exact hl1) (fun x hx => ?_), s6⟩
      obtain ⟨y, hy, rfl⟩ := List.mem_map.mp hx
      have := hb1 y hy
      show (-1 * y.2).natAbs < 1000000000000
      omega
    rintro _ H6 ⟨rb, qs, rfl, PR, s6⟩
    have PL := P15.same s6
    have S6 := Same.trans S5 s6
    have hA6 := src_same hA5 s6
    obtain ⟨⟨xs, hx, hxd⟩, _, _, _⟩ := id PL
    have hxl : xs.length = ps1.length := by rw [da_len hxd, List.length_map]
    walk_at "rd"
    refine ⟨r1, xs, rfl, .inl (sq hx), fun p3 n3 => ?_⟩
    have s7 := same_new n3 (o := .lst xs)
    walk_at "rd"
    intro p dp np nd _
    refine init_of (ps := ps1) np nd (.inl (.lst (sq upd_same) (dpAll_same s7 hxd))) h51 (by omega) fun H8 s8 hp => ⟨rfl, ?_⟩
    have s68 := Same.trans s7 s8
    have h38 := s8 _ _ upd_same
    have lay : Lay 2 (.list (ps1.map tmD)) := lay_list (lay_ts (in5_ok h51))
    walk_at "rd"
    refine ⟨_, _, .lst (sq h38) (dpAll_same s68 hxd), .lst (sq (s68 _ _ hx)) (dpAll_same s68 hxd), shape lay (by decide), shape lay (by decide), ?_⟩
    rw [eq_refl lay]
    walk_at "rd"
    refine form_of (PL.same s68) fun H9 s9 => ?_
    have s69 := Same.trans s68 s9
    have h39 := s9 _ _ h38
    have r3 : r1 ≠ p3 := fun e => by rw [e, n3] at hx; cases hx
    have rb3 : rb ≠ p3 := fun e => by
      obtain ⟨⟨ys, hy, _⟩, _⟩ := PR
      rw [e, n3] at hy
      cases hy
    have n30 : H p3 = none := S6.free n3
    walk_at "rd"
    refine ⟨.inl ⟨rfl, _, sq h39⟩, ?_⟩
    walk_at "rd"
    refine ⟨sz (by show 2 ≤ 100000; decide), fun t nt => ?_⟩
    have st := same_new nt (o := .tup [V.str (Str.ofString "a"), V.int 1])
    have s6t := Same.trans s69 st
    have h3t := st _ _ h39
    refine ⟨p3, _, _, rfl, rfl, h3t, szl (by omega), ?_⟩
    have hpt := (hp.same (Same.trans s9 st)).lst h3t (o := .lst (xs ++ [.ref t]))
    have PLt := (PL.same s6t).lst h3t r3 (o := .lst (xs ++ [.ref t]))
    have PRt := (PR.same s6t).lst h3t rb3 (o := .lst (xs ++ [.ref t]))
    have St : Same H (upd (upd H9 t (.tup [V.str (Str.ofString "a"), V.int 1])) p3 (.lst (xs ++ [.ref t]))) := same_at n30 (Same.trans S6 s6t)
    have hAt : Src (upd (upd H9 t (.tup [V.str (Str.ofString "a"), V.int 1])) p3 (.lst (xs ++ [.ref t]))) p2 := src_upd (src_same hA6 s6t) (src_ne hA6 n3)
    have hxt : (upd (upd H9 t (.tup [V.str (Str.ofString "a"), V.int 1])) p3 (.lst (xs ++ [.ref t]))) r1 = some (.lst xs) := by
      rw [upd_ne r3]
      exact s6t _ _ hx
    have hdt : DpAll K (upd (upd H9 t (.tup [V.str (Str.ofString "a"), V.int 1])) p3 (.lst (xs ++ [.ref t]))) (xs ++ [.ref t]) ((ps1 ++ [((Str.ofString "a", 1) : Tr5)]).map tmD) := by
      rw [List.map_append]
      refine da_app (da_lst h3t (dpAll_same s6t hxd)) (da_one (tm_dp (x := (Str.ofString "a", 1)) (sqt_lst h3t (sqt upd_same))))
    have hdt0 : DpAll K (upd (upd H9 t (.tup [V.str (Str.ofString "a"), V.int 1])) p3 (.lst (xs ++ [.ref t]))) xs (ps1.map tmD) := da_lst h3t (dpAll_same s6t hxd)
    have h3u : (upd (upd H9 t (.tup [V.str (Str.ofString "a"), V.int 1])) p3 (.lst (xs ++ [.ref t]))) p3 = some (.lst (xs ++ [.ref t])) := upd_same
    generalize upd (upd H9 t (.tup [V.str (Str.ofString "a"), V.int 1])) p3 (.lst (xs ++ [.ref t])) = Ht at *
    clear s7 s8 s68 h38 s9 s69 h39 st s6t h3t hp PL PR S6 hA6 hxd hx S5 P15 P25 hA5 s6 nt nd np
    have a5 : In5 (ps1 ++ [((Str.ofString "a", 1) : Tr5)]) := in5_app h51 fun x hx => by
      rw [List.mem_singleton.mp hx]
      decide +kernel
    have al : (ps1 ++ [((Str.ofString "a", 1) : Tr5)]).length ≤ 60 := by
      rw [List.length_append]
      show ps1.length + 1 ≤ 60
      omega
    walk_at "rd"
    refine same_of hpt (sq hxt) hdt0 h51 h51 (by omega) rfl fun Hb sb => ?_
    walk_at "rd"
    intro pn dn npn ndn _
    refine init_of (ps := ps1 ++ [((Str.ofString "a", 1) : Tr5)]) npn ndn (.inl (.lst (sq (sb _ _ h3u)) (dpAll_same sb hdt))) a5 al fun Hc sc hpn => ⟨rfl, ?_⟩
    have stc := Same.trans sb sc
    walk_at "rd"
    refine ⟨sz (by show 2 ≤ 100000; decide), fun t2 nt2 => ?_⟩
    have st2 := same_new nt2 (o := .tup [V.str (Str.ofString "a"), V.int 1])
    walk_at "rd"
    refine ⟨sz (by show 1 ≤ 100000; decide), fun l2 nl2 => ?_⟩
    have sl2 := same_new nl2 (o := .lst [V.ref t2])
    have s2l := Same.trans stc (Same.trans st2 sl2)
    refine ⟨r1, l2, xs, [V.ref t2], rfl, rfl, s2l _ _ hxt, upd_same, sz (by show xs.length + 1 ≤ 100000; omega), fun l3 nl3 => ?_⟩
    have sl3 := same_new nl3 (o := .lst (xs ++ [V.ref t2]))
    have hd3 : DpAll K (upd (upd (upd Hc t2 (.tup [V.str (Str.ofString "a"), V.int 1])) l2 (.lst [V.ref t2])) l3 (.lst (xs ++ [V.ref t2]))) (xs ++ [.ref t2]) ((ps1 ++ [((Str.ofString "a", 1) : Tr5)]).map tmD) := by
      rw [List.map_append]
      exact da_app (dpAll_same (Same.trans s2l sl3) hdt0) (da_one (tm_dp (x := (Str.ofString "a", 1)) (Bx.Same.tup (Same.trans sl2 sl3) (sqt upd_same))))
    walk_at "rd"
    refine same_of (hpn.same (Same.trans st2 (Same.trans sl2 sl3))) (sq upd_same) hd3 a5 a5 al rfl fun Hd sd => ?_
    have std := Same.trans (Same.trans s2l sl3) sd
    have PLd := PLt.same std
    have PRd := PRt.same std
    have hAd := src_same hAt std
    have Sd := Same.trans St std
    walk_at "rd"
    refine number_of hAd fun k He kb se hAe => ?_
    walk_at "rd"
    refine ⟨r1, rb, k, ps1, qs, rfl, PLd.but hAd se, PRd.but hAd se, n41 kb, fun Hf sf => ?_⟩
    have PLf := (PLd.but hAd se).same sf
    have PRf := (PRd.but hAd se).same sf
    have Sf : Same H Hf := Same.trans (SameBut.same Sd np20 se) sf
    walk_at "rd"
    refine ⟨a, ns, 2, rfl, Sf.seq hs, by decide, fun p9 n9 c9 np9 => ?_⟩
    have s9 := same_new np9 (o := .lst [.int n9, .int c9])
    have hA9 : Src (upd Hf p9 (.lst [.int n9, .int c9])) p9 := ⟨n9, c9, upd_same⟩
    walk_at "rd"
    unfold spValues
    refine ⟨p9, r1, ps1, rfl, hA9, PLf.same s9, hl1, fun Hg sg hAg => ?_⟩
    have PRg := (PRf.same s9).but hA9 sg
    walk_at "rd"
    unfold spNamesR
    refine ⟨p9, rb, qs, rfl, hAg, PRg, fun Hh sh hAh => ?_⟩
    walk_at "rd"
    exact form_of (PRg.but hAg sh) fun Hi si => q Hi
end
end K23
namespace K23
open PySem PySem.Spec PyProof.Rows L2 Bx TL Dx Zx Ow M23 M30
set_option maxHeartbeats 4000000 in
theorem all_mk {l : PySem.W.OpenLaw} {w : World} {K : PySem.W.Frag} {h : Heap} {mg : Str → Option Value} {fa : Addr} (X : K.In h) (G : h.Ns mainGlobals mg) (hfa : mg "law" = some (.ref fa))
    {C T_ratio T_init e0 : Addr} {t_one : Tok} {oc_T oc_U : Value} {od_T od_U od_e : Option Addr} {n_T n_U n_e : Nat} {sl_T sl_U sl_e : Array (Option Value)} {i_fo i_ro : Option Value}
    {f_ratio : Addr} {oc_ratio kV_ratio dc_ratio pm_ratio cd_ratio ct_ratio : Value} {od_ratio an_ratio : Option Addr} {sl_ratio : Array (Option Value)}
    {f_init : Addr} {oc_init kV_init dc_init pm_init cd_init ct_init : Value} {od_init an_init : Option Addr} {sl_init : Array (Option Value)}
    {f_M__len__ : Addr} {oc_M__len__ kV_M__len__ dc_M__len__ pm_M__len__ cd_M__len__ ct_M__len__ : Value} {od_M__len__ an_M__len__ : Option Addr} {sl_M__len__ : Array (Option Value)}
    {f_M__contains__ : Addr} {oc_M__contains__ kV_M__contains__ dc_M__contains__ pm_M__contains__ cd_M__contains__ ct_M__contains__ : Value} {od_M__contains__ an_M__contains__ : Option Addr} {sl_M__contains__ : Array (Option Value)}
    {f_M__getitem__ : Addr} {oc_M__getitem__ kV_M__getitem__ dc_M__getitem__ pm_M__getitem__ cd_M__getitem__ ct_M__getitem__ : Value} {od_M__getitem__ an_M__getitem__ : Option Addr} {sl_M__getitem__ : Array (Option Value)}
    {f_M__iter__ : Addr} {oc_M__iter__ kV_M__iter__ dc_M__iter__ pm_M__iter__ cd_M__iter__ ct_M__iter__ : Value} {od_M__iter__ an_M__iter__ : Option Addr} {sl_M__iter__ : Array (Option Value)}
    {f_M__add__ : Addr} {oc_M__add__ kV_M__add__ dc_M__add__ pm_M__add__ cd_M__add__ ct_M__add__ : Value} {od_M__add__ an_M__add__ : Option Addr} {sl_M__add__ : Array (Option Value)}
    {f_M__sub__ : Addr} {oc_M__sub__ kV_M__sub__ dc_M__sub__ pm_M__sub__ cd_M__sub__ ct_M__sub__ : Value} {od_M__sub__ an_M__sub__ : Option Addr} {sl_M__sub__ : Array (Option Value)}
    {f_M__neg__ : Addr} {oc_M__neg__ kV_M__neg__ dc_M__neg__ pm_M__neg__ cd_M__neg__ ct_M__neg__ : Value} {od_M__neg__ an_M__neg__ : Option Addr} {sl_M__neg__ : Array (Option Value)}
    {f_M__mul__ : Addr} {oc_M__mul__ kV_M__mul__ dc_M__mul__ pm_M__mul__ cd_M__mul__ ct_M__mul__ : Value} {od_M__mul__ an_M__mul__ : Option Addr} {sl_M__mul__ : Array (Option Value)}
    {f_M__rmul__ : Addr} {oc_M__rmul__ kV_M__rmul__ dc_M__rmul__ pm_M__rmul__ cd_M__rmul__ ct_M__rmul__ : Value} {od_M__rmul__ an_M__rmul__ : Option Addr} {sl_M__rmul__ : Array (Option Value)}
    {f_Mat : Addr} {oc_Mat kV_Mat dc_Mat pm_Mat cd_Mat ct_Mat : Value} {od_Mat an_Mat : Option Addr} {sl_Mat : Array (Option Value)}
    {f_Mrenamed : Addr} {oc_Mrenamed kV_Mrenamed dc_Mrenamed pm_Mrenamed cd_Mrenamed ct_Mrenamed : Value} {od_Mrenamed an_Mrenamed : Option Addr} {sl_Mrenamed : Array (Option Value)}
    {f__added : Addr} {oc__added kV__added dc__added pm__added cd__added ct__added : Value} {od__added an__added : Option Addr} {sl__added : Array (Option Value)}
    {f_times : Addr} {oc_times kV_times dc_times pm_times cd_times ct_times : Value} {od_times an_times : Option Addr} {sl_times : Array (Option Value)}
    {f_quotient : Addr} {oc_quotient kV_quotient dc_quotient pm_quotient cd_quotient ct_quotient : Value} {od_quotient an_quotient : Option Addr} {sl_quotient : Array (Option Value)}
    {f_is_below : Addr} {oc_is_below kV_is_below dc_is_below pm_is_below cd_is_below ct_is_below : Value} {od_is_below an_is_below : Option Addr} {sl_is_below : Array (Option Value)}
    {f_total : Addr} {oc_total kV_total dc_total pm_total cd_total ct_total : Value} {od_total an_total : Option Addr} {sl_total : Array (Option Value)}
    {f_ratio_at : Addr} {oc_ratio_at kV_ratio_at dc_ratio_at pm_ratio_at cd_ratio_at ct_ratio_at : Value} {od_ratio_at an_ratio_at : Option Addr} {sl_ratio_at : Array (Option Value)}
    {f_is_ascending : Addr} {oc_is_ascending kV_is_ascending dc_is_ascending pm_is_ascending cd_is_ascending ct_is_ascending : Value} {od_is_ascending an_is_ascending : Option Addr} {sl_is_ascending : Array (Option Value)}
    {f_is_terms : Addr} {oc_is_terms kV_is_terms dc_is_terms pm_is_terms cd_is_terms ct_is_terms : Value} {od_is_terms an_is_terms : Option Addr} {sl_is_terms : Array (Option Value)}
    {f__law_source : Addr} {oc__law_source kV__law_source dc__law_source pm__law_source cd__law_source ct__law_source : Value} {od__law_source an__law_source : Option Addr} {sl__law_source : Array (Option Value)}
    {f__law_draw : Addr} {oc__law_draw kV__law_draw dc__law_draw pm__law_draw cd__law_draw ct__law_draw : Value} {od__law_draw an__law_draw : Option Addr} {sl__law_draw : Array (Option Value)}
    {f__law_size : Addr} {oc__law_size kV__law_size dc__law_size pm__law_size cd__law_size ct__law_size : Value} {od__law_size an__law_size : Option Addr} {sl__law_size : Array (Option Value)}
    {f__law_number : Addr} {oc__law_number kV__law_number dc__law_number pm__law_number cd__law_number ct__law_number : Value} {od__law_number an__law_number : Option Addr} {sl__law_number : Array (Option Value)}
    {f__law_shared : Addr} {oc__law_shared kV__law_shared dc__law_shared pm__law_shared cd__law_shared ct__law_shared : Value} {od__law_shared an__law_shared : Option Addr} {sl__law_shared : Array (Option Value)}
    {f__law_lowest : Addr} {oc__law_lowest kV__law_lowest dc__law_lowest pm__law_lowest cd__law_lowest ct__law_lowest : Value} {od__law_lowest an__law_lowest : Option Addr} {sl__law_lowest : Array (Option Value)}
    {f__law_ratio : Addr} {oc__law_ratio kV__law_ratio dc__law_ratio pm__law_ratio cd__law_ratio ct__law_ratio : Value} {od__law_ratio an__law_ratio : Option Addr} {sl__law_ratio : Array (Option Value)}
    {f__law_is : Addr} {oc__law_is kV__law_is dc__law_is pm__law_is cd__law_is ct__law_is : Value} {od__law_is an__law_is : Option Addr} {sl__law_is : Array (Option Value)}
    {f__law_added : Addr} {oc__law_added kV__law_added dc__law_added pm__law_added cd__law_added ct__law_added : Value} {od__law_added an__law_added : Option Addr} {sl__law_added : Array (Option Value)}
    {f__law_total : Addr} {oc__law_total kV__law_total dc__law_total pm__law_total cd__law_total ct__law_total : Value} {od__law_total an__law_total : Option Addr} {sl__law_total : Array (Option Value)}
    {f__law_ratios_right : Addr} {oc__law_ratios_right kV__law_ratios_right dc__law_ratios_right pm__law_ratios_right cd__law_ratios_right ct__law_ratios_right : Value} {od__law_ratios_right an__law_ratios_right : Option Addr} {sl__law_ratios_right : Array (Option Value)}
    {f__law_pairs : Addr} {oc__law_pairs kV__law_pairs dc__law_pairs pm__law_pairs cd__law_pairs ct__law_pairs : Value} {od__law_pairs an__law_pairs : Option Addr} {sl__law_pairs : Array (Option Value)}
    {f__law_terms : Addr} {oc__law_terms kV__law_terms dc__law_terms pm__law_terms cd__law_terms ct__law_terms : Value} {od__law_terms an__law_terms : Option Addr} {sl__law_terms : Array (Option Value)}
    {f__law_scaled : Addr} {oc__law_scaled kV__law_scaled dc__law_scaled pm__law_scaled cd__law_scaled ct__law_scaled : Value} {od__law_scaled an__law_scaled : Option Addr} {sl__law_scaled : Array (Option Value)}
    {f__law_same : Addr} {oc__law_same kV__law_same dc__law_same pm__law_same cd__law_same ct__law_same : Value} {od__law_same an__law_same : Option Addr} {sl__law_same : Array (Option Value)}
    {f__law_signs_right : Addr} {oc__law_signs_right kV__law_signs_right dc__law_signs_right pm__law_signs_right cd__law_signs_right ct__law_signs_right : Value} {od__law_signs_right an__law_signs_right : Option Addr} {sl__law_signs_right : Array (Option Value)}
    {f__law_form_right : Addr} {oc__law_form_right kV__law_form_right dc__law_form_right pm__law_form_right cd__law_form_right ct__law_form_right : Value} {od__law_form_right an__law_form_right : Option Addr} {sl__law_form_right : Array (Option Value)}
    {f__law_names_right : Addr} {oc__law_names_right kV__law_names_right dc__law_names_right pm__law_names_right cd__law_names_right ct__law_names_right : Value} {od__law_names_right an__law_names_right : Option Addr} {sl__law_names_right : Array (Option Value)}
    {f__law_values_right : Addr} {oc__law_values_right kV__law_values_right dc__law_values_right pm__law_values_right cd__law_values_right ct__law_values_right : Value} {od__law_values_right an__law_values_right : Option Addr} {sl__law_values_right : Array (Option Value)}
    {f_law : Addr} {oc_law kV_law dc_law pm_law cd_law ct_law : Value} {od_law an_law : Option Addr} {sl_law : Array (Option Value)}
    (aC : PySem.W.nsIn K mainGlobals "Sum" = some (some (.ref C)))
    (ag : PySem.W.nsIn K mainGlobals "gcd" = some (some (.builtin "math.gcd")))
    (pg : PySem.W.plainGet K C Str.empty = true)
    (hd : PySem.W.hasDictIn K C = true)
    (po : PySem.W.plainOver K C = true)
    (sa : PySem.W.findIn K (.ref C) "__setattr__" = some (some (.builtin "object.__setattr__")))
    (mk : PySem.W.makesIn K C = true)
    (kc : PySem.W.keepIn K (.ref C) = true)
    (nT : PySem.W.findIn K (.ref C) "terms" = some none)
    (hf1 : PySem.W.selfFirst K C = true)
    (hsb1 : PySem.W.subIn K (.ref C) (.type "int") = some false)
    (hsb2 : PySem.W.subIn K (.type "int") (.ref C) = some false)
    (i1 : PySem.W.findIn K (.type "int") "__mul__" = some i_fo)
    (i2 : PySem.W.findIn K (.type "int") "__rmul__" = some i_ro)
    (a_ratio : PySem.W.nsIn K mainGlobals "ratio" = some (some (.ref f_ratio))) (l_ratio : K.lookup f_ratio = some ⟨oc_ratio, od_ratio, .func (PySem.W.fnOf "ratio" "ratio" (defArgs s_ratio) (defBody s_ratio) (defScope s_ratio) (.ref T_ratio) kV_ratio dc_ratio pm_ratio an_ratio cd_ratio ct_ratio), sl_ratio⟩) (c_ratio : PySem.W.codeIn K cd_ratio "ratio" = true) (k_ratio : PySem.W.keepIn K (.ref f_ratio) = true)
    (t_ratio : K.lookup T_ratio = some ⟨oc_T, od_T, .seq #[.int 1 t_one] n_T, sl_T⟩)
    (a_init : PySem.W.findIn K (.ref C) "__init__" = some (some (.ref f_init))) (l_init : K.lookup f_init = some ⟨oc_init, od_init, .func (PySem.W.fnOf "__init__" "Sum.__init__" (defArgs s_Sum___init__) (defBody s_Sum___init__) (defScope s_Sum___init__) (.ref T_init) kV_init dc_init pm_init an_init cd_init ct_init), sl_init⟩) (c_init : PySem.W.codeIn K cd_init "Sum.__init__" = true) (k_init : PySem.W.keepIn K (.ref f_init) = true)
    (fi_init : PySem.W.isFn K (.ref f_init) = true)
    (t_init : K.lookup T_init = some ⟨oc_U, od_U, .seq #[.ref e0] n_U, sl_U⟩)
    (t_e0 : K.lookup e0 = some ⟨.type "tuple", od_e, .seq #[] n_e, sl_e⟩)
    (a_M__len__ : PySem.W.findIn K (.ref C) "__len__" = some (some (.ref f_M__len__))) (l_M__len__ : K.lookup f_M__len__ = some ⟨oc_M__len__, od_M__len__, .func (PySem.W.fnOf "__len__" "Sum.__len__" (defArgs s_Sum___len__) (defBody s_Sum___len__) (defScope s_Sum___len__) .none kV_M__len__ dc_M__len__ pm_M__len__ an_M__len__ cd_M__len__ ct_M__len__), sl_M__len__⟩) (c_M__len__ : PySem.W.codeIn K cd_M__len__ "Sum.__len__" = true) (k_M__len__ : PySem.W.keepIn K (.ref f_M__len__) = true)
    (i_M__len__ : PySem.W.isFn K (.ref f_M__len__) = true)
    (a_M__contains__ : PySem.W.findIn K (.ref C) "__contains__" = some (some (.ref f_M__contains__))) (l_M__contains__ : K.lookup f_M__contains__ = some ⟨oc_M__contains__, od_M__contains__, .func (PySem.W.fnOf "__contains__" "Sum.__contains__" (defArgs s_Sum___contains__) (defBody s_Sum___contains__) (defScope s_Sum___contains__) .none kV_M__contains__ dc_M__contains__ pm_M__contains__ an_M__contains__ cd_M__contains__ ct_M__contains__), sl_M__contains__⟩) (c_M__contains__ : PySem.W.codeIn K cd_M__contains__ "Sum.__contains__" = true) (k_M__contains__ : PySem.W.keepIn K (.ref f_M__contains__) = true)
    (i_M__contains__ : PySem.W.isFn K (.ref f_M__contains__) = true)
    (a_M__getitem__ : PySem.W.findIn K (.ref C) "__getitem__" = some (some (.ref f_M__getitem__))) (l_M__getitem__ : K.lookup f_M__getitem__ = some ⟨oc_M__getitem__, od_M__getitem__, .func (PySem.W.fnOf "__getitem__" "Sum.__getitem__" (defArgs s_Sum___getitem__) (defBody s_Sum___getitem__) (defScope s_Sum___getitem__) .none kV_M__getitem__ dc_M__getitem__ pm_M__getitem__ an_M__getitem__ cd_M__getitem__ ct_M__getitem__), sl_M__getitem__⟩) (c_M__getitem__ : PySem.W.codeIn K cd_M__getitem__ "Sum.__getitem__" = true) (k_M__getitem__ : PySem.W.keepIn K (.ref f_M__getitem__) = true)
    (i_M__getitem__ : PySem.W.isFn K (.ref f_M__getitem__) = true)
    (a_M__iter__ : PySem.W.findIn K (.ref C) "__iter__" = some (some (.ref f_M__iter__))) (l_M__iter__ : K.lookup f_M__iter__ = some ⟨oc_M__iter__, od_M__iter__, .func (PySem.W.fnOf "__iter__" "Sum.__iter__" (defArgs s_Sum___iter__) (defBody s_Sum___iter__) (defScope s_Sum___iter__) .none kV_M__iter__ dc_M__iter__ pm_M__iter__ an_M__iter__ cd_M__iter__ ct_M__iter__), sl_M__iter__⟩) (c_M__iter__ : PySem.W.codeIn K cd_M__iter__ "Sum.__iter__" = true) (k_M__iter__ : PySem.W.keepIn K (.ref f_M__iter__) = true)
    (i_M__iter__ : PySem.W.isFn K (.ref f_M__iter__) = true)
    (a_M__add__ : PySem.W.findIn K (.ref C) "__add__" = some (some (.ref f_M__add__))) (l_M__add__ : K.lookup f_M__add__ = some ⟨oc_M__add__, od_M__add__, .func (PySem.W.fnOf "__add__" "Sum.__add__" (defArgs s_Sum___add__) (defBody s_Sum___add__) (defScope s_Sum___add__) .none kV_M__add__ dc_M__add__ pm_M__add__ an_M__add__ cd_M__add__ ct_M__add__), sl_M__add__⟩) (c_M__add__ : PySem.W.codeIn K cd_M__add__ "Sum.__add__" = true) (k_M__add__ : PySem.W.keepIn K (.ref f_M__add__) = true)
    (i_M__add__ : PySem.W.isFn K (.ref f_M__add__) = true)
    (a_M__sub__ : PySem.W.findIn K (.ref C) "__sub__" = some (some (.ref f_M__sub__))) (l_M__sub__ : K.lookup f_M__sub__ = some ⟨oc_M__sub__, od_M__sub__, .func (PySem.W.fnOf "__sub__" "Sum.__sub__" (defArgs s_Sum___sub__) (defBody s_Sum___sub__) (defScope s_Sum___sub__) .none kV_M__sub__ dc_M__sub__ pm_M__sub__ an_M__sub__ cd_M__sub__ ct_M__sub__), sl_M__sub__⟩) (c_M__sub__ : PySem.W.codeIn K cd_M__sub__ "Sum.__sub__" = true) (k_M__sub__ : PySem.W.keepIn K (.ref f_M__sub__) = true)
    (i_M__sub__ : PySem.W.isFn K (.ref f_M__sub__) = true)
    (a_M__neg__ : PySem.W.findIn K (.ref C) "__neg__" = some (some (.ref f_M__neg__))) (l_M__neg__ : K.lookup f_M__neg__ = some ⟨oc_M__neg__, od_M__neg__, .func (PySem.W.fnOf "__neg__" "Sum.__neg__" (defArgs s_Sum___neg__) (defBody s_Sum___neg__) (defScope s_Sum___neg__) .none kV_M__neg__ dc_M__neg__ pm_M__neg__ an_M__neg__ cd_M__neg__ ct_M__neg__), sl_M__neg__⟩) (c_M__neg__ : PySem.W.codeIn K cd_M__neg__ "Sum.__neg__" = true) (k_M__neg__ : PySem.W.keepIn K (.ref f_M__neg__) = true)
    (i_M__neg__ : PySem.W.isFn K (.ref f_M__neg__) = true)
    (a_M__mul__ : PySem.W.findIn K (.ref C) "__mul__" = some (some (.ref f_M__mul__))) (l_M__mul__ : K.lookup f_M__mul__ = some ⟨oc_M__mul__, od_M__mul__, .func (PySem.W.fnOf "__mul__" "Sum.__mul__" (defArgs s_Sum___mul__) (defBody s_Sum___mul__) (defScope s_Sum___mul__) .none kV_M__mul__ dc_M__mul__ pm_M__mul__ an_M__mul__ cd_M__mul__ ct_M__mul__), sl_M__mul__⟩) (c_M__mul__ : PySem.W.codeIn K cd_M__mul__ "Sum.__mul__" = true) (k_M__mul__ : PySem.W.keepIn K (.ref f_M__mul__) = true)
    (i_M__mul__ : PySem.W.isFn K (.ref f_M__mul__) = true)
    (a_M__rmul__ : PySem.W.findIn K (.ref C) "__rmul__" = some (some (.ref f_M__rmul__))) (l_M__rmul__ : K.lookup f_M__rmul__ = some ⟨oc_M__rmul__, od_M__rmul__, .func (PySem.W.fnOf "__rmul__" "Sum.__rmul__" (defArgs s_Sum___rmul__) (defBody s_Sum___rmul__) (defScope s_Sum___rmul__) .none kV_M__rmul__ dc_M__rmul__ pm_M__rmul__ an_M__rmul__ cd_M__rmul__ ct_M__rmul__), sl_M__rmul__⟩) (c_M__rmul__ : PySem.W.codeIn K cd_M__rmul__ "Sum.__rmul__" = true) (k_M__rmul__ : PySem.W.keepIn K (.ref f_M__rmul__) = true)
    (i_M__rmul__ : PySem.W.isFn K (.ref f_M__rmul__) = true)
    (a_Mat : PySem.W.findIn K (.ref C) "at" = some (some (.ref f_Mat))) (l_Mat : K.lookup f_Mat = some ⟨oc_Mat, od_Mat, .func (PySem.W.fnOf "at" "Sum.at" (defArgs s_Sum_at) (defBody s_Sum_at) (defScope s_Sum_at) .none kV_Mat dc_Mat pm_Mat an_Mat cd_Mat ct_Mat), sl_Mat⟩) (c_Mat : PySem.W.codeIn K cd_Mat "Sum.at" = true) (k_Mat : PySem.W.keepIn K (.ref f_Mat) = true)
    (i_Mat : PySem.W.isFn K (.ref f_Mat) = true)
    (a_Mrenamed : PySem.W.findIn K (.ref C) "renamed" = some (some (.ref f_Mrenamed))) (l_Mrenamed : K.lookup f_Mrenamed = some ⟨oc_Mrenamed, od_Mrenamed, .func (PySem.W.fnOf "renamed" "Sum.renamed" (defArgs s_Sum_renamed) (defBody s_Sum_renamed) (defScope s_Sum_renamed) .none kV_Mrenamed dc_Mrenamed pm_Mrenamed an_Mrenamed cd_Mrenamed ct_Mrenamed), sl_Mrenamed⟩) (c_Mrenamed : PySem.W.codeIn K cd_Mrenamed "Sum.renamed" = true) (k_Mrenamed : PySem.W.keepIn K (.ref f_Mrenamed) = true)
    (i_Mrenamed : PySem.W.isFn K (.ref f_Mrenamed) = true)
    (g_get : PySem.W.fnIn K f_M__getitem__ = true)
    (a__added : PySem.W.nsIn K mainGlobals "_added" = some (some (.ref f__added))) (l__added : K.lookup f__added = some ⟨oc__added, od__added, .func (PySem.W.fnOf "_added" "_added" (defArgs s__added) (defBody s__added) (defScope s__added) .none kV__added dc__added pm__added an__added cd__added ct__added), sl__added⟩) (c__added : PySem.W.codeIn K cd__added "_added" = true) (k__added : PySem.W.keepIn K (.ref f__added) = true)
    (a_times : PySem.W.nsIn K mainGlobals "times" = some (some (.ref f_times))) (l_times : K.lookup f_times = some ⟨oc_times, od_times, .func (PySem.W.fnOf "times" "times" (defArgs s_times) (defBody s_times) (defScope s_times) .none kV_times dc_times pm_times an_times cd_times ct_times), sl_times⟩) (c_times : PySem.W.codeIn K cd_times "times" = true) (k_times : PySem.W.keepIn K (.ref f_times) = true)
    (a_quotient : PySem.W.nsIn K mainGlobals "quotient" = some (some (.ref f_quotient))) (l_quotient : K.lookup f_quotient = some ⟨oc_quotient, od_quotient, .func (PySem.W.fnOf "quotient" "quotient" (defArgs s_quotient) (defBody s_quotient) (defScope s_quotient) .none kV_quotient dc_quotient pm_quotient an_quotient cd_quotient ct_quotient), sl_quotient⟩) (c_quotient : PySem.W.codeIn K cd_quotient "quotient" = true) (k_quotient : PySem.W.keepIn K (.ref f_quotient) = true)
    (a_is_below : PySem.W.nsIn K mainGlobals "is_below" = some (some (.ref f_is_below))) (l_is_below : K.lookup f_is_below = some ⟨oc_is_below, od_is_below, .func (PySem.W.fnOf "is_below" "is_below" (defArgs s_is_below) (defBody s_is_below) (defScope s_is_below) .none kV_is_below dc_is_below pm_is_below an_is_below cd_is_below ct_is_below), sl_is_below⟩) (c_is_below : PySem.W.codeIn K cd_is_below "is_below" = true) (k_is_below : PySem.W.keepIn K (.ref f_is_below) = true)
    (a_total : PySem.W.nsIn K mainGlobals "total" = some (some (.ref f_total))) (l_total : K.lookup f_total = some ⟨oc_total, od_total, .func (PySem.W.fnOf "total" "total" (defArgs s_total) (defBody s_total) (defScope s_total) .none kV_total dc_total pm_total an_total cd_total ct_total), sl_total⟩) (c_total : PySem.W.codeIn K cd_total "total" = true) (k_total : PySem.W.keepIn K (.ref f_total) = true)
    (a_ratio_at : PySem.W.nsIn K mainGlobals "ratio_at" = some (some (.ref f_ratio_at))) (l_ratio_at : K.lookup f_ratio_at = some ⟨oc_ratio_at, od_ratio_at, .func (PySem.W.fnOf "ratio_at" "ratio_at" (defArgs s_ratio_at) (defBody s_ratio_at) (defScope s_ratio_at) .none kV_ratio_at dc_ratio_at pm_ratio_at an_ratio_at cd_ratio_at ct_ratio_at), sl_ratio_at⟩) (c_ratio_at : PySem.W.codeIn K cd_ratio_at "ratio_at" = true) (k_ratio_at : PySem.W.keepIn K (.ref f_ratio_at) = true)
    (a_is_ascending : PySem.W.nsIn K mainGlobals "is_ascending" = some (some (.ref f_is_ascending))) (l_is_ascending : K.lookup f_is_ascending = some ⟨oc_is_ascending, od_is_ascending, .func (PySem.W.fnOf "is_ascending" "is_ascending" (defArgs s_is_ascending) (defBody s_is_ascending) (defScope s_is_ascending) .none kV_is_ascending dc_is_ascending pm_is_ascending an_is_ascending cd_is_ascending ct_is_ascending), sl_is_ascending⟩) (c_is_ascending : PySem.W.codeIn K cd_is_ascending "is_ascending" = true) (k_is_ascending : PySem.W.keepIn K (.ref f_is_ascending) = true)
    (a_is_terms : PySem.W.nsIn K mainGlobals "is_terms" = some (some (.ref f_is_terms))) (l_is_terms : K.lookup f_is_terms = some ⟨oc_is_terms, od_is_terms, .func (PySem.W.fnOf "is_terms" "is_terms" (defArgs s_is_terms) (defBody s_is_terms) (defScope s_is_terms) .none kV_is_terms dc_is_terms pm_is_terms an_is_terms cd_is_terms ct_is_terms), sl_is_terms⟩) (c_is_terms : PySem.W.codeIn K cd_is_terms "is_terms" = true) (k_is_terms : PySem.W.keepIn K (.ref f_is_terms) = true)
    (a__law_source : PySem.W.nsIn K mainGlobals "_law_source" = some (some (.ref f__law_source))) (l__law_source : K.lookup f__law_source = some ⟨oc__law_source, od__law_source, .func (PySem.W.fnOf "_law_source" "_law_source" (defArgs s__law_source) (defBody s__law_source) (defScope s__law_source) .none kV__law_source dc__law_source pm__law_source an__law_source cd__law_source ct__law_source), sl__law_source⟩) (c__law_source : PySem.W.codeIn K cd__law_source "_law_source" = true) (k__law_source : PySem.W.keepIn K (.ref f__law_source) = true)
    (a__law_draw : PySem.W.nsIn K mainGlobals "_law_draw" = some (some (.ref f__law_draw))) (l__law_draw : K.lookup f__law_draw = some ⟨oc__law_draw, od__law_draw, .func (PySem.W.fnOf "_law_draw" "_law_draw" (defArgs s__law_draw) (defBody s__law_draw) (defScope s__law_draw) .none kV__law_draw dc__law_draw pm__law_draw an__law_draw cd__law_draw ct__law_draw), sl__law_draw⟩) (c__law_draw : PySem.W.codeIn K cd__law_draw "_law_draw" = true) (k__law_draw : PySem.W.keepIn K (.ref f__law_draw) = true)
    (a__law_size : PySem.W.nsIn K mainGlobals "_law_size" = some (some (.ref f__law_size))) (l__law_size : K.lookup f__law_size = some ⟨oc__law_size, od__law_size, .func (PySem.W.fnOf "_law_size" "_law_size" (defArgs s__law_size) (defBody s__law_size) (defScope s__law_size) .none kV__law_size dc__law_size pm__law_size an__law_size cd__law_size ct__law_size), sl__law_size⟩) (c__law_size : PySem.W.codeIn K cd__law_size "_law_size" = true) (k__law_size : PySem.W.keepIn K (.ref f__law_size) = true)
    (a__law_number : PySem.W.nsIn K mainGlobals "_law_number" = some (some (.ref f__law_number))) (l__law_number : K.lookup f__law_number = some ⟨oc__law_number, od__law_number, .func (PySem.W.fnOf "_law_number" "_law_number" (defArgs s__law_number) (defBody s__law_number) (defScope s__law_number) .none kV__law_number dc__law_number pm__law_number an__law_number cd__law_number ct__law_number), sl__law_number⟩) (c__law_number : PySem.W.codeIn K cd__law_number "_law_number" = true) (k__law_number : PySem.W.keepIn K (.ref f__law_number) = true)
    (a__law_shared : PySem.W.nsIn K mainGlobals "_law_shared" = some (some (.ref f__law_shared))) (l__law_shared : K.lookup f__law_shared = some ⟨oc__law_shared, od__law_shared, .func (PySem.W.fnOf "_law_shared" "_law_shared" (defArgs s__law_shared) (defBody s__law_shared) (defScope s__law_shared) .none kV__law_shared dc__law_shared pm__law_shared an__law_shared cd__law_shared ct__law_shared), sl__law_shared⟩) (c__law_shared : PySem.W.codeIn K cd__law_shared "_law_shared" = true) (k__law_shared : PySem.W.keepIn K (.ref f__law_shared) = true)
    (a__law_lowest : PySem.W.nsIn K mainGlobals "_law_lowest" = some (some (.ref f__law_lowest))) (l__law_lowest : K.lookup f__law_lowest = some ⟨oc__law_lowest, od__law_lowest, .func (PySem.W.fnOf "_law_lowest" "_law_lowest" (defArgs s__law_lowest) (defBody s__law_lowest) (defScope s__law_lowest) .none kV__law_lowest dc__law_lowest pm__law_lowest an__law_lowest cd__law_lowest ct__law_lowest), sl__law_lowest⟩) (c__law_lowest : PySem.W.codeIn K cd__law_lowest "_law_lowest" = true) (k__law_lowest : PySem.W.keepIn K (.ref f__law_lowest) = true)
    (a__law_ratio : PySem.W.nsIn K mainGlobals "_law_ratio" = some (some (.ref f__law_ratio))) (l__law_ratio : K.lookup f__law_ratio = some ⟨oc__law_ratio, od__law_ratio, .func (PySem.W.fnOf "_law_ratio" "_law_ratio" (defArgs s__law_ratio) (defBody s__law_ratio) (defScope s__law_ratio) .none kV__law_ratio dc__law_ratio pm__law_ratio an__law_ratio cd__law_ratio ct__law_ratio), sl__law_ratio⟩) (c__law_ratio : PySem.W.codeIn K cd__law_ratio "_law_ratio" = true) (k__law_ratio : PySem.W.keepIn K (.ref f__law_ratio) = true)
    (a__law_is : PySem.W.nsIn K mainGlobals "_law_is" = some (some (.ref f__law_is))) (l__law_is : K.lookup f__law_is = some ⟨oc__law_is, od__law_is, .func (PySem.W.fnOf "_law_is" "_law_is" (defArgs s__law_is) (defBody s__law_is) (defScope s__law_is) .none kV__law_is dc__law_is pm__law_is an__law_is cd__law_is ct__law_is), sl__law_is⟩) (c__law_is : PySem.W.codeIn K cd__law_is "_law_is" = true) (k__law_is : PySem.W.keepIn K (.ref f__law_is) = true)
    (a__law_added : PySem.W.nsIn K mainGlobals "_law_added" = some (some (.ref f__law_added))) (l__law_added : K.lookup f__law_added = some ⟨oc__law_added, od__law_added, .func (PySem.W.fnOf "_law_added" "_law_added" (defArgs s__law_added) (defBody s__law_added) (defScope s__law_added) .none kV__law_added dc__law_added pm__law_added an__law_added cd__law_added ct__law_added), sl__law_added⟩) (c__law_added : PySem.W.codeIn K cd__law_added "_law_added" = true) (k__law_added : PySem.W.keepIn K (.ref f__law_added) = true)
    (a__law_total : PySem.W.nsIn K mainGlobals "_law_total" = some (some (.ref f__law_total))) (l__law_total : K.lookup f__law_total = some ⟨oc__law_total, od__law_total, .func (PySem.W.fnOf "_law_total" "_law_total" (defArgs s__law_total) (defBody s__law_total) (defScope s__law_total) .none kV__law_total dc__law_total pm__law_total an__law_total cd__law_total ct__law_total), sl__law_total⟩) (c__law_total : PySem.W.codeIn K cd__law_total "_law_total" = true) (k__law_total : PySem.W.keepIn K (.ref f__law_total) = true)
    (a__law_ratios_right : PySem.W.nsIn K mainGlobals "_law_ratios_right" = some (some (.ref f__law_ratios_right))) (l__law_ratios_right : K.lookup f__law_ratios_right = some ⟨oc__law_ratios_right, od__law_ratios_right, .func (PySem.W.fnOf "_law_ratios_right" "_law_ratios_right" (defArgs s__law_ratios_right) (defBody s__law_ratios_right) (defScope s__law_ratios_right) .none kV__law_ratios_right dc__law_ratios_right pm__law_ratios_right an__law_ratios_right cd__law_ratios_right ct__law_ratios_right), sl__law_ratios_right⟩) (c__law_ratios_right : PySem.W.codeIn K cd__law_ratios_right "_law_ratios_right" = true) (k__law_ratios_right : PySem.W.keepIn K (.ref f__law_ratios_right) = true)
    (a__law_pairs : PySem.W.nsIn K mainGlobals "_law_pairs" = some (some (.ref f__law_pairs))) (l__law_pairs : K.lookup f__law_pairs = some ⟨oc__law_pairs, od__law_pairs, .func (PySem.W.fnOf "_law_pairs" "_law_pairs" (defArgs s__law_pairs) (defBody s__law_pairs) (defScope s__law_pairs) .none kV__law_pairs dc__law_pairs pm__law_pairs an__law_pairs cd__law_pairs ct__law_pairs), sl__law_pairs⟩) (c__law_pairs : PySem.W.codeIn K cd__law_pairs "_law_pairs" = true) (k__law_pairs : PySem.W.keepIn K (.ref f__law_pairs) = true)
    (a__law_terms : PySem.W.nsIn K mainGlobals "_law_terms" = some (some (.ref f__law_terms))) (l__law_terms : K.lookup f__law_terms = some ⟨oc__law_terms, od__law_terms, .func (PySem.W.fnOf "_law_terms" "_law_terms" (defArgs s__law_terms) (defBody s__law_terms) (defScope s__law_terms) .none kV__law_terms dc__law_terms pm__law_terms an__law_terms cd__law_terms ct__law_terms), sl__law_terms⟩) (c__law_terms : PySem.W.codeIn K cd__law_terms "_law_terms" = true) (k__law_terms : PySem.W.keepIn K (.ref f__law_terms) = true)
    (a__law_scaled : PySem.W.nsIn K mainGlobals "_law_scaled" = some (some (.ref f__law_scaled))) (l__law_scaled : K.lookup f__law_scaled = some ⟨oc__law_scaled, od__law_scaled, .func (PySem.W.fnOf "_law_scaled" "_law_scaled" (defArgs s__law_scaled) (defBody s__law_scaled) (defScope s__law_scaled) .none kV__law_scaled dc__law_scaled pm__law_scaled an__law_scaled cd__law_scaled ct__law_scaled), sl__law_scaled⟩) (c__law_scaled : PySem.W.codeIn K cd__law_scaled "_law_scaled" = true) (k__law_scaled : PySem.W.keepIn K (.ref f__law_scaled) = true)
    (a__law_same : PySem.W.nsIn K mainGlobals "_law_same" = some (some (.ref f__law_same))) (l__law_same : K.lookup f__law_same = some ⟨oc__law_same, od__law_same, .func (PySem.W.fnOf "_law_same" "_law_same" (defArgs s__law_same) (defBody s__law_same) (defScope s__law_same) .none kV__law_same dc__law_same pm__law_same an__law_same cd__law_same ct__law_same), sl__law_same⟩) (c__law_same : PySem.W.codeIn K cd__law_same "_law_same" = true) (k__law_same : PySem.W.keepIn K (.ref f__law_same) = true)
    (a__law_signs_right : PySem.W.nsIn K mainGlobals "_law_signs_right" = some (some (.ref f__law_signs_right))) (l__law_signs_right : K.lookup f__law_signs_right = some ⟨oc__law_signs_right, od__law_signs_right, .func (PySem.W.fnOf "_law_signs_right" "_law_signs_right" (defArgs s__law_signs_right) (defBody s__law_signs_right) (defScope s__law_signs_right) .none kV__law_signs_right dc__law_signs_right pm__law_signs_right an__law_signs_right cd__law_signs_right ct__law_signs_right), sl__law_signs_right⟩) (c__law_signs_right : PySem.W.codeIn K cd__law_signs_right "_law_signs_right" = true) (k__law_signs_right : PySem.W.keepIn K (.ref f__law_signs_right) = true)
    (a__law_form_right : PySem.W.nsIn K mainGlobals "_law_form_right" = some (some (.ref f__law_form_right))) (l__law_form_right : K.lookup f__law_form_right = some ⟨oc__law_form_right, od__law_form_right, .func (PySem.W.fnOf "_law_form_right" "_law_form_right" (defArgs s__law_form_right) (defBody s__law_form_right) (defScope s__law_form_right) .none kV__law_form_right dc__law_form_right pm__law_form_right an__law_form_right cd__law_form_right ct__law_form_right), sl__law_form_right⟩) (c__law_form_right : PySem.W.codeIn K cd__law_form_right "_law_form_right" = true) (k__law_form_right : PySem.W.keepIn K (.ref f__law_form_right) = true)
    (a__law_names_right : PySem.W.nsIn K mainGlobals "_law_names_right" = some (some (.ref f__law_names_right))) (l__law_names_right : K.lookup f__law_names_right = some ⟨oc__law_names_right, od__law_names_right, .func (PySem.W.fnOf "_law_names_right" "_law_names_right" (defArgs s__law_names_right) (defBody s__law_names_right) (defScope s__law_names_right) .none kV__law_names_right dc__law_names_right pm__law_names_right an__law_names_right cd__law_names_right ct__law_names_right), sl__law_names_right⟩) (c__law_names_right : PySem.W.codeIn K cd__law_names_right "_law_names_right" = true) (k__law_names_right : PySem.W.keepIn K (.ref f__law_names_right) = true)
    (a__law_values_right : PySem.W.nsIn K mainGlobals "_law_values_right" = some (some (.ref f__law_values_right))) (l__law_values_right : K.lookup f__law_values_right = some ⟨oc__law_values_right, od__law_values_right, .func (PySem.W.fnOf "_law_values_right" "_law_values_right" (defArgs s__law_values_right) (defBody s__law_values_right) (defScope s__law_values_right) .none kV__law_values_right dc__law_values_right pm__law_values_right an__law_values_right cd__law_values_right ct__law_values_right), sl__law_values_right⟩) (c__law_values_right : PySem.W.codeIn K cd__law_values_right "_law_values_right" = true) (k__law_values_right : PySem.W.keepIn K (.ref f__law_values_right) = true)
    (a_law : PySem.W.nsIn K mainGlobals "law" = some (some (.ref f_law))) (l_law : K.lookup f_law = some ⟨oc_law, od_law, .func (PySem.W.fnOf "law" "law" (defArgs s_law) (defBody s_law) (defScope s_law) .none kV_law dc_law pm_law an_law cd_law ct_law), sl_law⟩) (c_law : PySem.W.codeIn K cd_law "law" = true) (k_law : PySem.W.keepIn K (.ref f_law) = true)
    (z_tuple : PySem.W.nsIn K mainGlobals "tuple" = some none)
    (z_sorted : PySem.W.nsIn K mainGlobals "sorted" = some none)
    (z_list : PySem.W.nsIn K mainGlobals "list" = some none)
    (z_set : PySem.W.nsIn K mainGlobals "set" = some none)
    (z_all : PySem.W.nsIn K mainGlobals "all" = some none)
    (z_len : PySem.W.nsIn K mainGlobals "len" = some none)
    (z_int : PySem.W.nsIn K mainGlobals "int" = some none)
    (z_abs : PySem.W.nsIn K mainGlobals "abs" = some none)
    (z_range : PySem.W.nsIn K mainGlobals "range" = some none)
    (z_isinstance : PySem.W.nsIn K mainGlobals "isinstance" = some none)
    (z_bool : PySem.W.nsIn K mainGlobals "bool" = some none)
    (z_sum : PySem.W.nsIn K mainGlobals "sum" = some none)
    (z_dict : PySem.W.nsIn K mainGlobals "dict" = some none)
    (z_iter : PySem.W.nsIn K mainGlobals "iter" = some none)
    : ∃ fd : FuncData, (∀ (s : Shared) (v : Value), BindsTo s fd ⟨[v], []⟩ [("_law_script", v)]) ∧ ∀ base : Heap, K.In base → base.Ns mainGlobals mg → FnOk l.prog w K mg base CX0 7 fa fd ["_law_script"] (spLaw K) := by
  have e := hfa.symm.trans (PySem.W.mg_of X G a_law)
  cases e
  have m_tuple := PySem.W.mg_none_of X G z_tuple
  have m_sorted := PySem.W.mg_none_of X G z_sorted
  have m_list := PySem.W.mg_none_of X G z_list
  have m_set := PySem.W.mg_none_of X G z_set
  have m_all := PySem.W.mg_none_of X G z_all
  have m_len := PySem.W.mg_none_of X G z_len
  have m_int := PySem.W.mg_none_of X G z_int
  have m_abs := PySem.W.mg_none_of X G z_abs
  have m_range := PySem.W.mg_none_of X G z_range
  have m_isinstance := PySem.W.mg_none_of X G z_isinstance
  have m_bool := PySem.W.mg_none_of X G z_bool
  have m_sum := PySem.W.mg_none_of X G z_sum
  have m_dict := PySem.W.mg_none_of X G z_dict
  have m_iter := PySem.W.mg_none_of X G z_iter
  have m_gcd := PySem.W.mg_of X G ag
  have cf : CF K C := ⟨⟨pg, hd, po, sa⟩, nT⟩
  have F_ratio : FunD K "ratio" "ratio" (defArgs s_ratio) (defBody s_ratio) (defScope s_ratio) [V.int 1] [] f_ratio _ := ⟨⟨_, _, _, _, _, _, _, _, _, _, rfl, l_ratio, c_ratio, .inr ⟨by simp, T_ratio, _, [.int 1 t_one], _, rfl, t_ratio, rfl, .cons ⟨_, rfl⟩ .nil⟩, .inl rfl⟩, k_ratio⟩
  have F_init : FunD K "__init__" "Sum.__init__" (defArgs s_Sum___init__) (defBody s_Sum___init__) (defScope s_Sum___init__) [V.ref e0] [] f_init _ := ⟨⟨_, _, _, _, _, _, _, _, _, _, rfl, l_init, c_init, .inr ⟨by simp, T_init, _, [.ref e0], _, rfl, t_init, rfl, .cons rfl .nil⟩, .inl rfl⟩, k_init⟩
  obtain ⟨dr2, vr2, b_ratio2⟩ := F_ratio.binds1 (ps := ["top", "bottom"]) 2 1 (by simp) rfl (fun T kV doc pm an cdv ct us its h1 h2 => match us, its, h1, h2 with | [_, _], [_], _, _ => ⟨_, rfl, rfl⟩)
  obtain ⟨dr1, vr1, b_ratio1⟩ := F_ratio.binds1 (ps := ["top", "bottom"]) 1 0 (by simp) rfl (fun T kV doc pm an cdv ct us its h1 h2 => match us, its, h1, h2 with | [_], [_], _, _ => ⟨_, rfl, rfl⟩)
  obtain ⟨di2, vi2, b_init2⟩ := F_init.binds1 (ps := ["self", "terms"]) 2 1 (by simp) rfl (fun T kV doc pm an cdv ct us its h1 h2 => match us, its, h1, h2 with | [_, _], [_], _, _ => ⟨_, rfl, rfl⟩)
  obtain ⟨di1, vi1, b_init1⟩ := F_init.binds1 (ps := ["self", "terms"]) 1 0 (by simp) rfl (fun T kV doc pm an cdv ct us its h1 h2 => match us, its, h1, h2 with | [_], [_], _, _ => ⟨_, rfl, rfl⟩)
  have er : dr2 = [] := by
    cases vr2
    rfl
  subst er
  have he0 : ∀ H : Hp, SqT K H e0 [] := fun H => .inr ⟨_, #[], _, t_e0, rfl, rfl, by decide, .nil⟩
  have F_M__len__ : Fun K "__len__" "Sum.__len__" s_Sum___len__ f_M__len__ _ := fun_mk (st := s_Sum___len__) l_M__len__ c_M__len__ k_M__len__
  have b_M__len__ := F_M__len__.binds (ps := ["self"]) fun _ _ _ _ _ _ us hl => match us, hl with | [_], _ => rfl
  have F_M__contains__ : Fun K "__contains__" "Sum.__contains__" s_Sum___contains__ f_M__contains__ _ := fun_mk (st := s_Sum___contains__) l_M__contains__ c_M__contains__ k_M__contains__
  have b_M__contains__ := F_M__contains__.binds (ps := ["self", "x"]) fun _ _ _ _ _ _ us hl => match us, hl with | [_, _], _ => rfl
  have F_M__getitem__ : Fun K "__getitem__" "Sum.__getitem__" s_Sum___getitem__ f_M__getitem__ _ := fun_mk (st := s_Sum___getitem__) l_M__getitem__ c_M__getitem__ k_M__getitem__
  have b_M__getitem__ := F_M__getitem__.binds (ps := ["self", "at"]) fun _ _ _ _ _ _ us hl => match us, hl with | [_, _], _ => rfl
  have F_M__iter__ : Fun K "__iter__" "Sum.__iter__" s_Sum___iter__ f_M__iter__ _ := fun_mk (st := s_Sum___iter__) l_M__iter__ c_M__iter__ k_M__iter__
  have b_M__iter__ := F_M__iter__.binds (ps := ["self"]) fun _ _ _ _ _ _ us hl => match us, hl with | [_], _ => rfl
  have F_M__add__ : Fun K "__add__" "Sum.__add__" s_Sum___add__ f_M__add__ _ := fun_mk (st := s_Sum___add__) l_M__add__ c_M__add__ k_M__add__
  have b_M__add__ := F_M__add__.binds (ps := ["self", "other"]) fun _ _ _ _ _ _ us hl => match us, hl with | [_, _], _ => rfl
  have F_M__sub__ : Fun K "__sub__" "Sum.__sub__" s_Sum___sub__ f_M__sub__ _ := fun_mk (st := s_Sum___sub__) l_M__sub__ c_M__sub__ k_M__sub__
  have b_M__sub__ := F_M__sub__.binds (ps := ["self", "other"]) fun _ _ _ _ _ _ us hl => match us, hl with | [_, _], _ => rfl
  have F_M__neg__ : Fun K "__neg__" "Sum.__neg__" s_Sum___neg__ f_M__neg__ _ := fun_mk (st := s_Sum___neg__) l_M__neg__ c_M__neg__ k_M__neg__
  have b_M__neg__ := F_M__neg__.binds (ps := ["self"]) fun _ _ _ _ _ _ us hl => match us, hl with | [_], _ => rfl
  have F_M__mul__ : Fun K "__mul__" "Sum.__mul__" s_Sum___mul__ f_M__mul__ _ := fun_mk (st := s_Sum___mul__) l_M__mul__ c_M__mul__ k_M__mul__
  have b_M__mul__ := F_M__mul__.binds (ps := ["self", "other"]) fun _ _ _ _ _ _ us hl => match us, hl with | [_, _], _ => rfl
  have F_M__rmul__ : Fun K "__rmul__" "Sum.__rmul__" s_Sum___rmul__ f_M__rmul__ _ := fun_mk (st := s_Sum___rmul__) l_M__rmul__ c_M__rmul__ k_M__rmul__
  have b_M__rmul__ := F_M__rmul__.binds (ps := ["self", "other"]) fun _ _ _ _ _ _ us hl => match us, hl with | [_, _], _ => rfl
  have F_Mat : Fun K "at" "Sum.at" s_Sum_at f_Mat _ := fun_mk (st := s_Sum_at) l_Mat c_Mat k_Mat
  have b_Mat := F_Mat.binds (ps := ["self", "assignment"]) fun _ _ _ _ _ _ us hl => match us, hl with | [_, _], _ => rfl
  have F_Mrenamed : Fun K "renamed" "Sum.renamed" s_Sum_renamed f_Mrenamed _ := fun_mk (st := s_Sum_renamed) l_Mrenamed c_Mrenamed k_Mrenamed
  have b_Mrenamed := F_Mrenamed.binds (ps := ["self", "table"]) fun _ _ _ _ _ _ us hl => match us, hl with | [_, _], _ => rfl
  have F__added := fun_mk (st := s__added) l__added c__added k__added
  have b__added := F__added.binds (ps := ["terms"]) fun _ _ _ _ _ _ us hl => match us, hl with | [_], _ => rfl
  have F_times := fun_mk (st := s_times) l_times c_times k_times
  have b_times := F_times.binds (ps := ["first", "second"]) fun _ _ _ _ _ _ us hl => match us, hl with | [_, _], _ => rfl
  have F_quotient := fun_mk (st := s_quotient) l_quotient c_quotient k_quotient
  have b_quotient := F_quotient.binds (ps := ["first", "second"]) fun _ _ _ _ _ _ us hl => match us, hl with | [_, _], _ => rfl
  have F_is_below := fun_mk (st := s_is_below) l_is_below c_is_below k_is_below
  have b_is_below := F_is_below.binds (ps := ["first", "second"]) fun _ _ _ _ _ _ us hl => match us, hl with | [_, _], _ => rfl
  have F_total := fun_mk (st := s_total) l_total c_total k_total
  have F_ratio_at := fun_mk (st := s_ratio_at) l_ratio_at c_ratio_at k_ratio_at
  have b_ratio_at := F_ratio_at.binds (ps := ["terms", "assignment"]) fun _ _ _ _ _ _ us hl => match us, hl with | [_, _], _ => rfl
  have F_is_ascending := fun_mk (st := s_is_ascending) l_is_ascending c_is_ascending k_is_ascending
  have b_is_ascending := F_is_ascending.binds (ps := ["values"]) fun _ _ _ _ _ _ us hl => match us, hl with | [_], _ => rfl
  have F_is_terms := fun_mk (st := s_is_terms) l_is_terms c_is_terms k_is_terms
  have b_is_terms := F_is_terms.binds (ps := ["terms"]) fun _ _ _ _ _ _ us hl => match us, hl with | [_], _ => rfl
  have F__law_source := fun_mk (st := s__law_source) l__law_source c__law_source k__law_source
  have b__law_source := F__law_source.binds (ps := ["_law_script", "_law_k"]) fun _ _ _ _ _ _ us hl => match us, hl with | [_, _], _ => rfl
  have F__law_draw := fun_mk (st := s__law_draw) l__law_draw c__law_draw k__law_draw
  have b__law_draw := F__law_draw.binds (ps := ["_law_source_here", "_law_limit"]) fun _ _ _ _ _ _ us hl => match us, hl with | [_, _], _ => rfl
  have F__law_size := fun_mk (st := s__law_size) l__law_size c__law_size k__law_size
  have b__law_size := F__law_size.binds (ps := ["_law_source_here"]) fun _ _ _ _ _ _ us hl => match us, hl with | [_], _ => rfl
  have F__law_number := fun_mk (st := s__law_number) l__law_number c__law_number k__law_number
  have b__law_number := F__law_number.binds (ps := ["_law_source_here"]) fun _ _ _ _ _ _ us hl => match us, hl with | [_], _ => rfl
  have F__law_shared := fun_mk (st := s__law_shared) l__law_shared c__law_shared k__law_shared
  have b__law_shared := F__law_shared.binds (ps := ["_law_first", "_law_second"]) fun _ _ _ _ _ _ us hl => match us, hl with | [_, _], _ => rfl
  have F__law_lowest := fun_mk (st := s__law_lowest) l__law_lowest c__law_lowest k__law_lowest
  have b__law_lowest := F__law_lowest.binds (ps := ["_law_top", "_law_bottom"]) fun _ _ _ _ _ _ us hl => match us, hl with | [_, _], _ => rfl
  have F__law_ratio := fun_mk (st := s__law_ratio) l__law_ratio c__law_ratio k__law_ratio
  have b__law_ratio := F__law_ratio.binds (ps := ["_law_source_here"]) fun _ _ _ _ _ _ us hl => match us, hl with | [_], _ => rfl
  have F__law_is := fun_mk (st := s__law_is) l__law_is c__law_is k__law_is
  have b__law_is := F__law_is.binds (ps := ["_law_actual", "_law_expected"]) fun _ _ _ _ _ _ us hl => match us, hl with | [_, _], _ => rfl
  have F__law_added := fun_mk (st := s__law_added) l__law_added c__law_added k__law_added
  have b__law_added := F__law_added.binds (ps := ["_law_parts"]) fun _ _ _ _ _ _ us hl => match us, hl with | [_], _ => rfl
  have F__law_total := fun_mk (st := s__law_total) l__law_total c__law_total k__law_total
  have b__law_total := F__law_total.binds (ps := ["_law_parts"]) fun _ _ _ _ _ _ us hl => match us, hl with | [_], _ => rfl
  have F__law_ratios_right := fun_mk (st := s__law_ratios_right) l__law_ratios_right c__law_ratios_right k__law_ratios_right
  have b__law_ratios_right := F__law_ratios_right.binds (ps := ["_law_source_here"]) fun _ _ _ _ _ _ us hl => match us, hl with | [_], _ => rfl
  have F__law_pairs := fun_mk (st := s__law_pairs) l__law_pairs c__law_pairs k__law_pairs
  have b__law_pairs := F__law_pairs.binds (ps := ["_law_source_here"]) fun _ _ _ _ _ _ us hl => match us, hl with | [_], _ => rfl
  have F__law_terms := fun_mk (st := s__law_terms) l__law_terms c__law_terms k__law_terms
  have b__law_terms := F__law_terms.binds (ps := ["_law_pairs_here"]) fun _ _ _ _ _ _ us hl => match us, hl with | [_], _ => rfl
  have F__law_scaled := fun_mk (st := s__law_scaled) l__law_scaled c__law_scaled k__law_scaled
  have b__law_scaled := F__law_scaled.binds (ps := ["_law_pairs_here", "_law_factor"]) fun _ _ _ _ _ _ us hl => match us, hl with | [_, _], _ => rfl
  have F__law_same := fun_mk (st := s__law_same) l__law_same c__law_same k__law_same
  have b__law_same := F__law_same.binds (ps := ["_law_actual", "_law_pairs_here"]) fun _ _ _ _ _ _ us hl => match us, hl with | [_, _], _ => rfl
  have F__law_signs_right := fun_mk (st := s__law_signs_right) l__law_signs_right c__law_signs_right k__law_signs_right
  have b__law_signs_right := F__law_signs_right.binds (ps := ["_law_left", "_law_right", "_law_factor"]) fun _ _ _ _ _ _ us hl => match us, hl with | [_, _, _], _ => rfl
  have F__law_form_right := fun_mk (st := s__law_form_right) l__law_form_right c__law_form_right k__law_form_right
  have b__law_form_right := F__law_form_right.binds (ps := ["_law_pairs_here"]) fun _ _ _ _ _ _ us hl => match us, hl with | [_], _ => rfl
  have F__law_names_right := fun_mk (st := s__law_names_right) l__law_names_right c__law_names_right k__law_names_right
  have b__law_names_right := F__law_names_right.binds (ps := ["_law_source_here", "_law_pairs_here"]) fun _ _ _ _ _ _ us hl => match us, hl with | [_, _], _ => rfl
  have F__law_values_right := fun_mk (st := s__law_values_right) l__law_values_right c__law_values_right k__law_values_right
  have b__law_values_right := F__law_values_right.binds (ps := ["_law_source_here", "_law_pairs_here"]) fun _ _ _ _ _ _ us hl => match us, hl with | [_, _], _ => rfl
  have F_law := fun_mk (st := s_law) l_law c_law k_law
  have e_add : (PySem.dunder "add" : Str) = ("__add__" : Str) := by decide +kernel
  have e_sub : (PySem.dunder "sub" : Str) = ("__sub__" : Str) := by decide +kernel
  have e_mul : (PySem.dunder "mul" : Str) = ("__mul__" : Str) := by decide +kernel
  have e_rmul : (dunderR "mul" : Str) = ("__rmul__" : Str) := by decide +kernel
  have bmul : BinF K C .Mult "int" := ⟨hf1, ⟨_, (by show PySem.W.findIn K (.ref C) (dunderR "mul") = _; rw [e_rmul]; exact a_M__rmul__), .inr ⟨_, rfl⟩⟩, ⟨i_fo, by show PySem.W.findIn K (.type "int") (PySem.dunder "mul") = _; rw [e_mul]; exact i1⟩, ⟨i_ro, by show PySem.W.findIn K (.type "int") (dunderR "mul") = _; rw [e_rmul]; exact i2⟩, hsb2⟩
  refine ⟨PySem.W.fnOf "law" "law" (defArgs s_law) (defBody s_law) (defScope s_law) .none kV_law dc_law pm_law an_law cd_law ct_law, fun s v => .of_eq rfl, fun base _ _ => ?_⟩
  have C_ratio : CRatio l.prog w K mg base := ⟨_, _, ok_ratio F_ratio m_gcd, PySem.W.mg_of X G a_ratio, F_ratio.kp, b_ratio2⟩
  have D_ratio : CalD l.prog w K mg base "ratio" 1 ["top", "bottom"] spRatio [V.int 1] := ⟨_, _, dr1, ok_ratio F_ratio m_gcd, PySem.W.mg_of X G a_ratio, F_ratio.kp, b_ratio1, vr1⟩
  have C__added : Cal l.prog w K mg base "_added" 1 ["terms"] (spAdded K) := ⟨_, _, ok_added (F := F__added) (m_tuple := m_tuple) (m_sorted := m_sorted), PySem.W.mg_of X G a__added, F__added.kp, b__added⟩
  have G_init : FnOk l.prog w K mg base CX0 2 f_init _ ["self", "terms"] (spInit K C) := ok_init cf F_init C__added
  have K_Sum : MkS l.prog w K mg base C := ⟨_, _, di2, ⟨mk, a_init, fi_init, kc⟩, G_init, PySem.W.mg_of X G aC, b_init2, vi2⟩
  have K_Sum0 : MakC l.prog w K mg base "Sum" C 2 ["self", "terms"] (spInit K C) [V.ref e0] := ⟨_, _, di1, ⟨mk, a_init, fi_init, kc⟩, G_init, PySem.W.mg_of X G aC, b_init1, vi1⟩
  have O___len__ : OwM l.prog w K mg base CX0 C "__len__" 1 ["self"] (spLen K C) := ⟨_, _, ok_len (F := F_M__len__) (cf := cf) (m_len := m_len), a_M__len__, i_M__len__, k_M__len__, b_M__len__⟩
  have O___contains__ : OwM l.prog w K mg base CX0 C "__contains__" 1 ["self", "x"] (spCont K C) := ⟨_, _, ok_cont (F := F_M__contains__) (cf := cf), a_M__contains__, i_M__contains__, k_M__contains__, b_M__contains__⟩
  have O___getitem__ : OwM l.prog w K mg base CX0 C "__getitem__" 1 ["self", "at"] (spGet K C) := ⟨_, _, ok_get (F := F_M__getitem__) (cf := cf) (m_dict := m_dict), a_M__getitem__, i_M__getitem__, k_M__getitem__, b_M__getitem__⟩
  have IT : ItM l.prog w K mg base C "terms" 1 := it_mk cf F_M__iter__ m_iter a_M__iter__ i_M__iter__ b_M__iter__
  have O___add__ : OwM l.prog w K mg base CX0 C (PySem.dunder "add") 4 ["self", "other"] (spAdd K C) := ⟨_, _, ok_add (F := F_M__add__) (cf := cf) (K_Sum := K_Sum), (by rw [e_add]; exact a_M__add__), i_M__add__, k_M__add__, b_M__add__⟩
  have O___sub__ : OwM l.prog w K mg base CX0 C (PySem.dunder "sub") 4 ["self", "other"] (spSub K C) := ⟨_, _, ok_sub (F := F_M__sub__) (cf := cf) (K_Sum := K_Sum), (by rw [e_sub]; exact a_M__sub__), i_M__sub__, k_M__sub__, b_M__sub__⟩
  have O___neg__ : OwM l.prog w K mg base CX0 C "__neg__" 4 ["self"] (spNeg K C) := ⟨_, _, ok_neg (F := F_M__neg__) (cf := cf) (K_Sum := K_Sum), a_M__neg__, i_M__neg__, k_M__neg__, b_M__neg__⟩
  have O___mul__ : OwM l.prog w K mg base CX0 C (PySem.dunder "mul") 4 ["self", "other"] (spMul K C) := ⟨_, _, ok_mul (F := F_M__mul__) (cf := cf) (K_Sum := K_Sum), (by rw [e_mul]; exact a_M__mul__), i_M__mul__, k_M__mul__, b_M__mul__⟩
  have O___rmul__ : OwM l.prog w K mg base CX0 C "__rmul__" 4 ["self", "other"] (spMul K C) := ⟨_, _, ok_rmul (F := F_M__rmul__) (cf := cf) (K_Sum := K_Sum), a_M__rmul__, i_M__rmul__, k_M__rmul__, b_M__rmul__⟩
  have M_at : MthC l.prog w K mg base C "at" 1 ["self", "assignment"] (spAt K C) := ⟨_, _, cf.cl, ⟨a_Mat, i_Mat, k_Mat⟩, ok_at (F := F_Mat) (cf := cf) (m_sum := m_sum), b_Mat⟩
  have M_renamed : MthC l.prog w K mg base C "renamed" 4 ["self", "table"] (spRen K C) := ⟨_, _, cf.cl, ⟨a_Mrenamed, i_Mrenamed, k_Mrenamed⟩, ok_renamed (F := F_Mrenamed) (cf := cf) (K_Sum := K_Sum), b_Mrenamed⟩
  have co : CO l.prog w K mg base C := ⟨O___len__, O___contains__, O___getitem__, (fun f hf => by
    have e := hf.symm.trans a_M__getitem__
    cases e
    exact g_get), IT, cf⟩
  have cp : CP l.prog w K mg base C := ⟨O___add__, O___sub__, O___mul__, O___rmul__, O___neg__, bmul, hf1, ⟨_, a_M__mul__⟩, hsb1⟩
  have C_times : Cal l.prog w K mg base "times" 2 ["first", "second"] (spTimes K) := ⟨_, _, ok_times (F := F_times) (C_ratio := C_ratio), PySem.W.mg_of X G a_times, F_times.kp, b_times⟩
  have C_quotient : Cal l.prog w K mg base "quotient" 2 ["first", "second"] (spQuot K) := ⟨_, _, ok_quotient (F := F_quotient) (C_ratio := C_ratio), PySem.W.mg_of X G a_quotient, F_quotient.kp, b_quotient⟩
  have C_is_below : Cal l.prog w K mg base "is_below" 1 ["first", "second"] (spBelow K) := ⟨_, _, ok_is_below (F := F_is_below) , PySem.W.mg_of X G a_is_below, F_is_below.kp, b_is_below⟩
  have C_total : CalR l.prog w K mg base "total" 2 (spTotal K) := ⟨_, ok_total F_total (C_ratio := C_ratio), PySem.W.mg_of X G a_total, F_total.kp⟩
  have C_ratio_at : Cal l.prog w K mg base "ratio_at" 3 ["terms", "assignment"] (spRatioAt K) := ⟨_, _, ok_ratio_at (F := F_ratio_at) (C_times := C_times) (C_total := C_total), PySem.W.mg_of X G a_ratio_at, F_ratio_at.kp, b_ratio_at⟩
  have C_is_ascending : Cal l.prog w K mg base "is_ascending" 1 ["values"] (spAsc K) := ⟨_, _, ok_is_ascending (F := F_is_ascending) (m_list := m_list) (m_set := m_set) (m_sorted := m_sorted), PySem.W.mg_of X G a_is_ascending, F_is_ascending.kp, b_is_ascending⟩
  have C_is_terms : Cal l.prog w K mg base "is_terms" 2 ["terms"] (spIsTerms K) := ⟨_, _, ok_is_terms (F := F_is_terms) (C_is_ascending := C_is_ascending) (m_all := m_all), PySem.W.mg_of X G a_is_terms, F_is_terms.kp, b_is_terms⟩
  have C__law_source : Cal l.prog w K mg base "_law_source" 1 ["_law_script", "_law_k"] (spSource K) := ⟨_, _, ok_source (F := F__law_source) (m_len := m_len) (m_int := m_int), PySem.W.mg_of X G a__law_source, F__law_source.kp, b__law_source⟩
  have C__law_draw : Cal l.prog w K mg base "_law_draw" 1 ["_law_source_here", "_law_limit"] spDraw := ⟨_, _, ok_draw (F := F__law_draw) (m_int := m_int), PySem.W.mg_of X G a__law_draw, F__law_draw.kp, b__law_draw⟩
  have C__law_size : Cal l.prog w K mg base "_law_size" 2 ["_law_source_here"] spSize := ⟨_, _, ok_size (F := F__law_size) (C__law_draw := C__law_draw), PySem.W.mg_of X G a__law_size, F__law_size.kp, b__law_size⟩
  have C__law_number : Cal l.prog w K mg base "_law_number" 3 ["_law_source_here"] spNumber := ⟨_, _, ok_number (F := F__law_number) (C__law_draw := C__law_draw) (C__law_size := C__law_size), PySem.W.mg_of X G a__law_number, F__law_number.kp, b__law_number⟩
  have C__law_shared : Cal l.prog w K mg base "_law_shared" 1 ["_law_first", "_law_second"] spShared := ⟨_, _, ok_shared (F := F__law_shared) (m_abs := m_abs) (m_range := m_range) (m_int := m_int), PySem.W.mg_of X G a__law_shared, F__law_shared.kp, b__law_shared⟩
  have C__law_lowest : Cal l.prog w K mg base "_law_lowest" 2 ["_law_top", "_law_bottom"] spLow := ⟨_, _, ok_lowest (F := F__law_lowest) (C__law_shared := C__law_shared), PySem.W.mg_of X G a__law_lowest, F__law_lowest.kp, b__law_lowest⟩
  have C__law_ratio : Cal l.prog w K mg base "_law_ratio" 4 ["_law_source_here"] spRat := ⟨_, _, ok_law_ratio (F := F__law_ratio) (C__law_number := C__law_number) (C__law_size := C__law_size) (C__law_lowest := C__law_lowest), PySem.W.mg_of X G a__law_ratio, F__law_ratio.kp, b__law_ratio⟩
  have C__law_is : Cal l.prog w K mg base "_law_is" 1 ["_law_actual", "_law_expected"] (spIs K) := ⟨_, _, ok_is (F := F__law_is) (m_isinstance := m_isinstance) (m_len := m_len) (m_tuple := m_tuple) (m_int := m_int) (m_bool := m_bool) (m_range := m_range), PySem.W.mg_of X G a__law_is, F__law_is.kp, b__law_is⟩
  have C__law_added : Cal l.prog w K mg base "_law_added" 3 ["_law_parts"] (spLAdd K) := ⟨_, _, ok_law_added (F := F__law_added) (C__law_lowest := C__law_lowest), PySem.W.mg_of X G a__law_added, F__law_added.kp, b__law_added⟩
  have C__law_total : Cal l.prog w K mg base "_law_total" 3 ["_law_parts"] (spLTot K) := ⟨_, _, ok_law_total (F := F__law_total) (m_len := m_len) (C_total := C_total), PySem.W.mg_of X G a__law_total, F__law_total.kp, b__law_total⟩
  have C__law_ratios_right : Cal l.prog w K mg base "_law_ratios_right" 5 ["_law_source_here"] spRight := ⟨_, _, ok_ratios_right (F := F__law_ratios_right) (m_range := m_range) (m_isinstance := m_isinstance) (m_bool := m_bool) (C__law_draw := C__law_draw) (C__law_number := C__law_number) (C__law_size := C__law_size) (C__law_ratio := C__law_ratio) (C__law_lowest := C__law_lowest) (C__law_is := C__law_is) (C_ratio := C_ratio) (D_ratio := D_ratio) (C_total := C_total) (C_times := C_times) (C_quotient := C_quotient) (C_is_below := C_is_below) (C__law_total := C__law_total) (C__law_added := C__law_added), PySem.W.mg_of X G a__law_ratios_right, F__law_ratios_right.kp, b__law_ratios_right⟩
  have C__law_pairs : Cal l.prog w K mg base "_law_pairs" 4 ["_law_source_here"] (spPairs K) := ⟨_, _, ok_pairs (F := F__law_pairs) (m_range := m_range) (C__law_draw := C__law_draw) (C__law_number := C__law_number), PySem.W.mg_of X G a__law_pairs, F__law_pairs.kp, b__law_pairs⟩
  have C__law_terms : Cal l.prog w K mg base "_law_terms" 1 ["_law_pairs_here"] (spTerms K) := ⟨_, _, ok_terms (F := F__law_terms) (m_sum := m_sum) (m_tuple := m_tuple), PySem.W.mg_of X G a__law_terms, F__law_terms.kp, b__law_terms⟩
  have C__law_scaled : Cal l.prog w K mg base "_law_scaled" 1 ["_law_pairs_here", "_law_factor"] (spScaled K) := ⟨_, _, ok_scaled (F := F__law_scaled) , PySem.W.mg_of X G a__law_scaled, F__law_scaled.kp, b__law_scaled⟩
  have C__law_same : Cal l.prog w K mg base "_law_same" 3 ["_law_actual", "_law_pairs_here"] (spSame K C) := ⟨_, _, ok_same (F := F__law_same) (co := co) (m_isinstance := m_isinstance) (m_tuple := m_tuple) (m_len := m_len) (m_list := m_list) (m_int := m_int) (m_bool := m_bool) (m_sum := m_sum) (C__law_terms := C__law_terms), PySem.W.mg_of X G a__law_same, F__law_same.kp, b__law_same⟩
  have C__law_signs_right : Cal l.prog w K mg base "_law_signs_right" 6 ["_law_left", "_law_right", "_law_factor"] (spSigns K) := ⟨_, _, ok_signs_right (F := F__law_signs_right) (cp := cp) (m_tuple := m_tuple) (m_list := m_list) (K_Sum := K_Sum) (C__law_same := C__law_same) (C__law_scaled := C__law_scaled), PySem.W.mg_of X G a__law_signs_right, F__law_signs_right.kp, b__law_signs_right⟩
  have C__law_form_right : Cal l.prog w K mg base "_law_form_right" 3 ["_law_pairs_here"] (spForm K) := ⟨_, _, ok_form_right (F := F__law_form_right) (m_range := m_range) (m_len := m_len) (m_tuple := m_tuple) (m_isinstance := m_isinstance) (m_bool := m_bool) (C_is_terms := C_is_terms) (C__law_terms := C__law_terms), PySem.W.mg_of X G a__law_form_right, F__law_form_right.kp, b__law_form_right⟩
  have C__law_names_right : Cal l.prog w K mg base "_law_names_right" 6 ["_law_source_here", "_law_pairs_here"] (spNamesR K) := ⟨_, _, ok_names_right (F := F__law_names_right) (he0 := he0) (C__law_draw := C__law_draw) (K_Sum := K_Sum) (K_Sum0 := K_Sum0) (C__law_same := C__law_same) (M_renamed := M_renamed), PySem.W.mg_of X G a__law_names_right, F__law_names_right.kp, b__law_names_right⟩
  have C__law_values_right : Cal l.prog w K mg base "_law_values_right" 5 ["_law_source_here", "_law_pairs_here"] (spValues K) := ⟨_, _, ok_values_right (F := F__law_values_right) (m_sorted := m_sorted) (m_sum := m_sum) (C__law_number := C__law_number) (C__law_ratio := C__law_ratio) (C__law_terms := C__law_terms) (K_Sum := K_Sum) (M_at := M_at) (C__law_added := C__law_added) (C__law_is := C__law_is) (C_ratio_at := C_ratio_at), PySem.W.mg_of X G a__law_values_right, F__law_values_right.kp, b__law_values_right⟩
  exact ok_law F_law (m_list := m_list) (C__law_source := C__law_source) (C__law_ratios_right := C__law_ratios_right) (C__law_pairs := C__law_pairs) (C__law_draw := C__law_draw) (C__law_scaled := C__law_scaled) (K_Sum := K_Sum) (C__law_form_right := C__law_form_right) (C__law_same := C__law_same) (C__law_signs_right := C__law_signs_right) (C__law_number := C__law_number) (C__law_values_right := C__law_values_right) (C__law_names_right := C__law_names_right)
end K23
open PySem PySem.W PyProof.Rows
set_option maxRecDepth 100000 in
set_option maxHeartbeats 0 in
theorem PySem.Challenge.cw_shadowlinks_k23_ratios_and_sums_holds : PySem.Challenge.rw_shadowlinks_k23_ratios_and_sums.Holds := by
  w_on; o_law; k_head; (case hw => w_witness2)
  k_fill
  refine L2.walk_of (l := PySem.Challenge.rw_shadowlinks_k23_ratios_and_sums) (n := 63) (k := 7) (x := "_law_script") (CX := fun _ => L2.CX0) (sp := fun w => K23.spLaw _) rfl (by decide) rfl ⟨rfl, by decide, by decide⟩ (fun w h Y => PySem.W.kIn_of Y) ?F (fun _ _ a ns hl _ hS => ⟨a, ns, rfl, hS, hl, fun _ => rfl⟩) (fun _ _ _ _ _ h => h)
  case F =>
    intro w mg fa h KX G hmg
    refine' K23.all_mk KX G hmg ?aC ?ag ?pg ?hd ?po ?sa ?mk ?kc ?nT ?hf1 ?hsb1 ?hsb2 ?i1 ?i2 ?a_ratio ?l_ratio ?c_ratio ?k_ratio ?t_ratio ?a_init ?l_init ?c_init ?k_init ?fi_init ?t_init ?t_e0 ?a_M__len__ ?l_M__len__ ?c_M__len__ ?k_M__len__ ?i_M__len__ ?a_M__contains__ ?l_M__contains__ ?c_M__contains__ ?k_M__contains__ ?i_M__contains__ ?a_M__getitem__ ?l_M__getitem__ ?c_M__getitem__ ?k_M__getitem__ ?i_M__getitem__ ?a_M__iter__ ?l_M__iter__ ?c_M__iter__ ?k_M__iter__ ?i_M__iter__ ?a_M__add__ ?l_M__add__ ?c_M__add__ ?k_M__add__ ?i_M__add__ ?a_M__sub__ ?l_M__sub__ ?c_M__sub__ ?k_M__sub__ ?i_M__sub__ ?a_M__neg__ ?l_M__neg__ ?c_M__neg__ ?k_M__neg__ ?i_M__neg__ ?a_M__mul__ ?l_M__mul__ ?c_M__mul__ ?k_M__mul__ ?i_M__mul__ ?a_M__rmul__ ?l_M__rmul__ ?c_M__rmul__ ?k_M__rmul__ ?i_M__rmul__ ?a_Mat ?l_Mat ?c_Mat ?k_Mat ?i_Mat ?a_Mrenamed ?l_Mrenamed ?c_Mrenamed ?k_Mrenamed ?i_Mrenamed ?g_get ?a__added ?l__added ?c__added ?k__added ?a_times ?l_times ?c_times ?k_times ?a_quotient ?l_quotient ?c_quotient ?k_quotient ?a_is_below ?l_is_below ?c_is_below ?k_is_below ?a_total ?l_total ?c_total ?k_total ?a_ratio_at ?l_ratio_at ?c_ratio_at ?k_ratio_at ?a_is_ascending ?l_is_ascending ?c_is_ascending ?k_is_ascending ?a_is_terms ?l_is_terms ?c_is_terms ?k_is_terms ?a__law_source ?l__law_source ?c__law_source ?k__law_source ?a__law_draw ?l__law_draw ?c__law_draw ?k__law_draw ?a__law_size ?l__law_size ?c__law_size ?k__law_size ?a__law_number ?l__law_number ?c__law_number ?k__law_number ?a__law_shared ?l__law_shared ?c__law_shared ?k__law_shared ?a__law_lowest ?l__law_lowest ?c__law_lowest ?k__law_lowest ?a__law_ratio ?l__law_ratio ?c__law_ratio ?k__law_ratio ?a__law_is ?l__law_is ?c__law_is ?k__law_is ?a__law_added ?l__law_added ?c__law_added ?k__law_added ?a__law_total ?l__law_total ?c__law_total ?k__law_total ?a__law_ratios_right ?l__law_ratios_right ?c__law_ratios_right ?k__law_ratios_right ?a__law_pairs ?l__law_pairs ?c__law_pairs ?k__law_pairs ?a__law_terms ?l__law_terms ?c__law_terms ?k__law_terms ?a__law_scaled ?l__law_scaled ?c__law_scaled ?k__law_scaled ?a__law_same ?l__law_same ?c__law_same ?k__law_same ?a__law_signs_right ?l__law_signs_right ?c__law_signs_right ?k__law_signs_right ?a__law_form_right ?l__law_form_right ?c__law_form_right ?k__law_form_right ?a__law_names_right ?l__law_names_right ?c__law_names_right ?k__law_names_right ?a__law_values_right ?l__law_values_right ?c__law_values_right ?k__law_values_right ?a_law ?l_law ?c_law ?k_law ?z_tuple ?z_sorted ?z_list ?z_set ?z_all ?z_len ?z_int ?z_abs ?z_range ?z_isinstance ?z_bool ?z_sum ?z_dict ?z_iter
    (case aC => k_is)
    (case ag => k_is)
    (case pg => k_is)
    (case hd => k_is)
    (case po => k_is)
    (case sa => k_is)
    (case mk => k_is)
    (case kc => k_is)
    (case nT => k_is)
    (case hf1 => k_is)
    (case hsb1 => k_is)
    (case hsb2 => k_is)
    (case i1 => k_is)
    (case i2 => k_is)
    (case a_ratio => k_is)
    (case l_ratio => k_is)
    (case c_ratio => k_is)
    (case k_ratio => k_is)
    (case t_ratio => k_is)
    (case a_init => k_is)
    (case l_init => k_is)
    (case c_init => k_is)
    (case k_init => k_is)
    (case fi_init => k_is)
    (case t_init => k_is)
    (case t_e0 => k_is)
    (case a_M__len__ => k_is)
    (case l_M__len__ => k_is)
    (case c_M__len__ => k_is)
    (case k_M__len__ => k_is)
    (case i_M__len__ => k_is)
    (case a_M__contains__ => k_is)
    (case l_M__contains__ => k_is)
    (case c_M__contains__ => k_is)
    (case k_M__contains__ => k_is)
    (case i_M__contains__ => k_is)
    (case a_M__getitem__ => k_is)
    (case l_M__getitem__ => k_is)
    (case c_M__getitem__ => k_is)
    (case k_M__getitem__ => k_is)
    (case i_M__getitem__ => k_is)
    (case a_M__iter__ => k_is)
    (case l_M__iter__ => k_is)
    (case c_M__iter__ => k_is)
    (case k_M__iter__ => k_is)
    (case i_M__iter__ => k_is)
    (case a_M__add__ => k_is)
    (case l_M__add__ => k_is)
    (case c_M__add__ => k_is)
    (case k_M__add__ => k_is)
    (case i_M__add__ => k_is)
    (case a_M__sub__ => k_is)
    (case l_M__sub__ => k_is)
    (case c_M__sub__ => k_is)
    (case k_M__sub__ => k_is)
    (case i_M__sub__ => k_is)
    (case a_M__neg__ => k_is)
    (case l_M__neg__ => k_is)
    (case c_M__neg__ => k_is)
    (case k_M__neg__ => k_is)
    (case i_M__neg__ => k_is)
    (case a_M__mul__ => k_is)
    (case l_M__mul__ => k_is)
    (case c_M__mul__ => k_is)
    (case k_M__mul__ => k_is)
    (case i_M__mul__ => k_is)
    (case a_M__rmul__ => k_is)
    (case l_M__rmul__ => k_is)
    (case c_M__rmul__ => k_is)
    (case k_M__rmul__ => k_is)
    (case i_M__rmul__ => k_is)
    (case a_Mat => k_is)
    (case l_Mat => k_is)
    (case c_Mat => k_is)
    (case k_Mat => k_is)
    (case i_Mat => k_is)
    (case a_Mrenamed => k_is)
    (case l_Mrenamed => k_is)
    (case c_Mrenamed => k_is)
    (case k_Mrenamed => k_is)
    (case i_Mrenamed => k_is)
    (case g_get => k_is)
    (case a__added => k_is)
    (case l__added => k_is)
    (case c__added => k_is)
    (case k__added => k_is)
    (case a_times => k_is)
    (case l_times => k_is)
    (case c_times => k_is)
    (case k_times => k_is)
    (case a_quotient => k_is)
    (case l_quotient => k_is)
    (case c_quotient => k_is)
    (case k_quotient => k_is)
    (case a_is_below => k_is)
    (case l_is_below => k_is)
    (case c_is_below => k_is)
    (case k_is_below => k_is)
    (case a_total => k_is)
    (case l_total => k_is)
    (case c_total => k_is)
    (case k_total => k_is)
    (case a_ratio_at => k_is)
    (case l_ratio_at => k_is)
    (case c_ratio_at => k_is)
    (case k_ratio_at => k_is)
    (case a_is_ascending => k_is)
    (case l_is_ascending => k_is)
    (case c_is_ascending => k_is)
    (case k_is_ascending => k_is)
    (case a_is_terms => k_is)
    (case l_is_terms => k_is)
    (case c_is_terms => k_is)
    (case k_is_terms => k_is)
    (case a__law_source => k_is)
    (case l__law_source => k_is)
    (case c__law_source => k_is)
    (case k__law_source => k_is)
    (case a__law_draw => k_is)
    (case l__law_draw => k_is)
    (case c__law_draw => k_is)
    (case k__law_draw => k_is)
    (case a__law_size => k_is)
    (case l__law_size => k_is)
    (case c__law_size => k_is)
    (case k__law_size => k_is)
    (case a__law_number => k_is)
    (case l__law_number => k_is)
    (case c__law_number => k_is)
    (case k__law_number => k_is)
    (case a__law_shared => k_is)
    (case l__law_shared => k_is)
    (case c__law_shared => k_is)
    (case k__law_shared => k_is)
    (case a__law_lowest => k_is)
    (case l__law_lowest => k_is)
    (case c__law_lowest => k_is)
    (case k__law_lowest => k_is)
    (case a__law_ratio => k_is)
    (case l__law_ratio => k_is)
    (case c__law_ratio => k_is)
    (case k__law_ratio => k_is)
    (case a__law_is => k_is)
    (case l__law_is => k_is)
    (case c__law_is => k_is)
    (case k__law_is => k_is)
    (case a__law_added => k_is)
    (case l__law_added => k_is)
    (case c__law_added => k_is)
    (case k__law_added => k_is)
    (case a__law_total => k_is)
    (case l__law_total => k_is)
    (case c__law_total => k_is)
    (case k__law_total => k_is)
    (case a__law_ratios_right => k_is)
    (case l__law_ratios_right => k_is)
    (case c__law_ratios_right => k_is)
    (case k__law_ratios_right => k_is)
    (case a__law_pairs => k_is)
    (case l__law_pairs => k_is)
    (case c__law_pairs => k_is)
    (case k__law_pairs => k_is)
    (case a__law_terms => k_is)
    (case l__law_terms => k_is)
    (case c__law_terms => k_is)
    (case k__law_terms => k_is)
    (case a__law_scaled => k_is)
    (case l__law_scaled => k_is)
    (case c__law_scaled => k_is)
    (case k__law_scaled => k_is)
    (case a__law_same => k_is)
    (case l__law_same => k_is)
    (case c__law_same => k_is)
    (case k__law_same => k_is)
    (case a__law_signs_right => k_is)
    (case l__law_signs_right => k_is)
    (case c__law_signs_right => k_is)
    (case k__law_signs_right => k_is)
    (case a__law_form_right => k_is)
    (case l__law_form_right => k_is)
    (case c__law_form_right => k_is)
    (case k__law_form_right => k_is)
    (case a__law_names_right => k_is)
    (case l__law_names_right => k_is)
    (case c__law_names_right => k_is)
    (case k__law_names_right => k_is)
    (case a__law_values_right => k_is)
    (case l__law_values_right => k_is)
    (case c__law_values_right => k_is)
    (case k__law_values_right => k_is)
    (case a_law => k_is)
    (case l_law => k_is)
    (case c_law => k_is)
    (case k_law => k_is)
    (case z_tuple => k_is)
    (case z_sorted => k_is)
    (case z_list => k_is)
    (case z_set => k_is)
    (case z_all => k_is)
    (case z_len => k_is)
    (case z_int => k_is)
    (case z_abs => k_is)
    (case z_range => k_is)
    (case z_isinstance => k_is)
    (case z_bool => k_is)
    (case z_sum => k_is)
    (case z_dict => k_is)
    (case z_iter => k_is)
#print axioms PySem.Challenge.cw_shadowlinks_k23_ratios_and_sums_holds
