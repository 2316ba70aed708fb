import PyProof.Rows.All
import Wide.All
import OpenK.AllK
import Wide.FinOn
import HandS.ForExc
import PyProof.Rows.SortShellAny
import HandS.SetTxt0
import HandS.TupSets
import HandS.ForMost
import HandS.Walk
import HandS.IsInst
import HandS.IterVal
import HandS.Star
import HandS.Deep
import HandS.DictComp
import HandS.Zip
import KE.GoesEnumKw
import HandS.Iter
import HandS.FStr
import KE.KxField
import HandS.ExcInit
import HandS.Nested
import KE.KExcSuper
import HandS.ExcField
import HandS.ExcIs
import KE.KExcIs
import HandS.WordsExc
import HandS.Defaults
import HandS.CallSlots
import HandS.StrMore
import PyProof.StrLawsAffix
import KE.IntTextLaws
import HandS.Replace
import PyProof.StrBlock2
import PySem.Challenge.RW_shadowlinks_k03_numbers_and_names_in_tex
set_option Elab.async false
set_option linter.all false
set_option maxRecDepth 100000
/-! Sets of texts, made of a list or a tuple, and sorted: any texts, in whatever order the world walks them. -/
namespace Sx
open PySem PySem.Spec PyProof.Rows L2 PySem.Froz

/-! ### lists -/
/-- a list without twins whose members all stand in a list of the same length is that list in another order -/
theorem perm_of_sub : ∀ (l ks : List Str), l.Nodup → (∀ x, x ∈ l → x ∈ ks) → ks.length = l.length → l.Perm ks
  | [], ks, _, _, e => by
    have z : ks = [] := List.length_eq_zero_iff.mp e
    rw [z]
  | x :: l, ks, nd, sub, e => by
    obtain ⟨hx, nd'⟩ := List.nodup_cons.mp nd
    have hm : x ∈ ks := sub x List.mem_cons_self
    have p := List.perm_cons_erase hm
    have hl : (ks.erase x).length = l.length := by
      have q := p.length_eq
      simp only [List.length_cons] at q e
      omega
    refine ((perm_of_sub l (ks.erase x) nd' (fun y hy => ?_) hl).cons x).trans p.symm
    have hne : y ≠ x := fun z => hx (z ▸ hy)
    exact (List.mem_erase_of_ne hne).mpr (sub y (List.mem_cons_of_mem _ hy))

/-! ### the payload behind an add -/
theorem tail_ris {ep : Nat} {es : Array (Int × Value)} {t : SetTable} {d : Bool} (r : Ris t.place.toList) : Ris (tailTx ep es t d).2.2.place.toList := by
  unfold tailTx
  split
  · exact relayAll_ris t es _
  · exact r
theorem tail_led {ep : Nat} {es : Array (Int × Value)} {t : SetTable} {d : Bool} : (tailTx ep es t d).2.2.led = t.led := by
  unfold tailTx
  split
  · exact relayAll_led t es _
  · rfl
theorem add_ris {D : SD} (h : Int) (v : Value) (r : Ris D.2.2.place.toList) : Ris (addTx h v D).2.2.place.toList := by
  have r1 := layNew_ris D.2.2 D.1 h v r
  unfold addTx
  apply tail_ris
  split
  · exact r1
  · exact r1
theorem add_led {D : SD} (h : Int) (v : Value) : (addTx h v D).2.2.led = D.2.2.led := by
  have r1 := layNew_led D.2.2 D.1 h v
  unfold addTx
  rw [tail_led]
  split
  · exact r1
  · exact r1

/-- the set of the texts l stands at a -/
def SetX (P : Program) (w : World) (h : Heap) (a : Addr) (l : List Str) : Prop :=
  ∃ D : SD, h.get? a = some (sObj "set" D) ∧ TxOk P w D l ∧ l.Nodup ∧ Ris D.2.2.place.toList ∧ (w.params.followText "set-order" = true ∨ D.2.2.led = true)

section
variable {P : Program} {w : World} {A : Around} {E : Value → Shared → Prop} {s : Shared}

theorem SetX.at {h h' : Heap} {a : Addr} {l : List Str} (R : SetX P w h a l) (k : ∀ o, h.get? a = some o → h'.get? a = some o) : SetX P w h' a l := by
  obtain ⟨D, ho, r⟩ := R
  exact ⟨D, k _ ho, r⟩
theorem setX_fresh {h : Heap} {a : Addr} (ho : h.get? a = some { cls := .type "set", dict := none, data := .set #[] 0 (.fresh 0 0 (!w.params.followText "set-order")) }) : SetX P w h a [] := by
  refine ⟨(#[], 0, .fresh 0 0 (!w.params.followText "set-order")), ho, TxOk.nil rfl, List.nodup_nil, List.Pairwise.nil, ?_⟩
  show _ ∨ (!w.params.followText "set-order") = true
  cases w.params.followText "set-order"
  · exact .inr rfl
  · exact .inl rfl

/-- one text more, new or there already -/
theorem add_any {a : Addr} {l : List Str} {k : Str} {u : Tok} {Q : Bool → Shared → Prop} (R : SetX P w s.heap a l) (hb : l.length + 1 < scanBound)
    (hQ : ∀ b h' l', Heap.SameBut a s.heap h' → SetX P w h' a l' → (∀ x, x ∈ l' ↔ x = k ∨ x ∈ l) → l'.length ≤ l.length + 1 → Q b { s with heap := h' }) :
    wpAny (model P w) A (setAddHashed a (.str k u) (hashStr w k)) Q E s := by
  obtain ⟨D, ho, F, nd, r, hl⟩ := R
  rcases Classical.em (k ∈ l) with hk | hk
  · obtain ⟨es, ep, t⟩ := D
    have hd : (sObj "set" (es, ep, t)).data = .set es ep t := rfl
    have hf : t.fits es.size = true := F.fit
    have hel : ElemsOf (PySem.strKind P w) es.toList := F.el
    have hb0 : es.size < scanBound := by
      have z : es.size = l.length := F.sz
      omega
    have hkey : (PySem.strKind P w).is k (.str k u) = true := is_str k u
    unfold setAddHashed setAddHashedIn
    refine wpAny_holding (wpAny_bind (wpAny_setState_of ho hd hf ?_))
    dsimp only
    rw [byScan_of rfl hb0 hel]
    simp only [↓reduceIte]
    unfold setAddByScan
    refine wpAny_bind ?_
    refine wpAny_bind (wpAny_rule ?_)
    refine wpAny_bind (wpAny_setScan_of (knd := PySem.strKind P w) (k := k) hkey ho hd hf hel ?_)
    cases hfi : List.findIdx? (fun e => (PySem.strKind P w).is k e.2) es.toList with
    | none =>
      obtain ⟨e, he, q⟩ := (F.mem k).mp hk
      have c := List.findIdx?_eq_none_iff.mp hfi e he
      rw [q] at c
      cases c
    | some j =>
      dsimp only
      refine wpAny_pure (wpAny_pure ?_)
      exact hQ _ s.heap l (Heap.SameBut.refl a s.heap) ⟨(es, ep, t), ho, F, nd, r, hl⟩ (fun x => ⟨.inr, fun z => z.elim (fun e => e ▸ hk) id⟩) (Nat.le_succ _)
  · refine add_x ho F hk hb (hQ _ _ (k :: l) (Heap.SameBut.update s.heap a _) ⟨_, get_upd _ ho rfl, add_ok u F, List.nodup_cons.mpr ⟨hk, nd⟩, add_ris _ _ r, ?_⟩ (fun x => List.mem_cons) (Nat.le_refl _))
    exact hl.imp id fun z => by
      rw [add_led]
      exact z
end

/-! ### set(xs): the loop -/
section
variable {P : Program} {w : World} {A : Around} {R : Result → Shared → Prop} {I : Addr} {fp wr : List Addr} {G : Array GenState → Array GenState → Prop} {n : Nat} {Pv : Nat → Value → Prop} {St : Nat → Shared → Prop}
theorem fill_loop (W : WalksS P w A.in1 I fp wr G n Pv St) (S : Addr) (hSf : S ∉ fp) (xs : List Str) (hn : xs.length = n) (hval : ∀ i v, Pv i v → ∃ t, v = .str (xs.getD i Str.empty) t) (hb : n + 1 < scanBound) :
    ∀ (k i : Nat) (s : Shared) (l : List Str), n - i = k → i ≤ n → St i s → SetX P w s.heap S l → (∀ x, x ∈ l ↔ x ∈ xs.take i) → l.length ≤ i →
      (∀ s' l', Moved (S :: wr) G s s' → SetX P w s'.heap S l' → (∀ x, x ∈ l' ↔ x ∈ xs) → l'.length ≤ n → R (.ok (.ret .none)) s') →
      codeAny (model P w) A (.builtin "set.update.loop" ⟨[.ref S, .ref I], []⟩) R s := by
  have hSw : S ∉ wr := fun h => hSf (W.sub _ h)
  have hsub : ∀ b ∈ wr, b ∈ S :: wr := fun b hb => List.mem_cons_of_mem _ hb
  intro k
  induction k with
  | zero =>
    intro i s l hk hi hst hS hm hlen hR
    have hin : i = n := by omega
    subst hin
    refine codeAny_builtin PyProof.Rows.F.entry_set_update_loop ?_
    rw [Around.under_plainId PyProof.Rows.F.plain_set_update_loop _]
    show wpAny _ A.in1 (pyNext (.ref I) >>= _) _ _ s
    refine wpAny_bind (W.done s _ _ hst fun s' hmv => ?_)
    show wpAny _ A.in1 (ret Value.none) _ _ s'
    refine wpAny_pure (hR s' l (hmv.mono hsub) (hS.at fun o e => hmv.heap S o hSw e) (fun x => ?_) hlen)
    rw [hm x, ← hn, List.take_length]
  | succ k ih =>
    intro i s l hk hi hst hS hm hlen hR
    have hlt : i < n := by omega
    refine codeAny_builtin PyProof.Rows.F.entry_set_update_loop ?_
    rw [Around.under_plainId PyProof.Rows.F.plain_set_update_loop _]
    show wpAny _ A.in1 (pyNext (.ref I) >>= _) _ _ s
    refine wpAny_bind (W.item i s _ _ hlt hst fun v s' hP hst' hmv => ?_)
    obtain ⟨t, rfl⟩ := hval i v hP
    have hS' : SetX P w s'.heap S l := hS.at fun o e => hmv.heap S o hSw e
    show wpAny _ A.in1 (holding [Value.str (xs.getD i Str.empty) t] (setAdd S (.str (xs.getD i Str.empty) t)) >>= _) _ _ s'
    refine wpAny_bind (wpAny_holding ?_)
    unfold setAdd
    refine wpAny_holding ?_
    refine wpAny_bind ((PySem.strKind P w).pyHash (k := xs.getD i Str.empty) (strKind_is _ _ _ _) ?_)
    have hroom : l.length + 1 < scanBound := by omega
    refine add_any (s := { s' with toks := s'.toks + 1 }) hS' hroom fun b h' l' hsb hS2 hm2 hl2 => ?_
    have hix : i < xs.length := by omega
    have eg : xs.getD i Str.empty = xs[i] := by
      rw [List.getD_eq_getElem?_getD, List.getElem?_eq_getElem hix]
      rfl
    have hm3 : ∀ x, x ∈ l' ↔ x ∈ xs.take (i + 1) := fun x => by
      rw [hm2 x, List.take_succ, List.getElem?_eq_getElem hix, eg]
      show _ ↔ x ∈ xs.take i ++ [xs[i]]
      rw [List.mem_append, List.mem_singleton, hm x]
      exact Or.comm
    refine wpAny_pure ⟨plainId_quiet PyProof.Rows.F.plain_set_update_loop _, ih (i + 1) _ l' (by omega) hlt (W.frame _ s' _ _ hst' (Nat.le_succ _) fun b hb o e => ?_) hS2 hm3 (by omega) fun s'' l'' hmv'' hS'' hm'' hl'' => ?_⟩
    · rw [hsb.2 b (fun h : b = S => hSf (by rw [← h]; exact hb))]
      exact e
    · refine hR s'' l'' (Moved.trans W.gtrans ((hmv.mono hsub).then_heap (Nat.le_succ _) fun b o hb e => ?_) hmv'') hS'' hm'' hl''
      rw [hsb.2 b (fun h : b = S => hb (by rw [h]; exact List.mem_cons_self))]
      exact e
end

/-! ### set(xs): the call -/
section
variable {P : Program} {w : World} {A : Around} {E : Value → Shared → Prop} {s : Shared}
abbrev emptyObj (w : World) : Obj := { cls := .type "set", dict := none, data := .set #[] 0 (.fresh 0 0 (!w.params.followText "set-order")) }
theorem str_at {us : List Value} {xs : List Str} (h : StrsAre us xs) : ∀ (i : Nat) (v : Value), us[i]? = some v → ∃ t, v = .str (xs.getD i Str.empty) t := by
  induction h with
  | nil =>
    intro i v e
    cases e
  | cons y t h ih =>
    intro i v e
    cases i with
    | zero =>
      have q : Value.str y t = v := Option.some.inj e
      exact ⟨t, q.symm⟩
    | succ i => exact ih i v e

set_option maxRecDepth 100000 in
set_option maxHeartbeats 4000000 in
/-- set(xs), xs a list or a tuple of texts -/
theorem call_set {l : Addr} {items : Array Value} {xs : List Str} {Q : Value → Shared → Prop} (hh : A.handled = none) (hl : s.heap.IsList l items ∨ s.heap.IsTuple l items) (hi : StrsAre items.toList xs) (hb : xs.length + 1 < scanBound)
    (h : ∀ (h' : Heap) (tk : Nat) (ys : List Str), SetX P w h' s.heap.objs.size ys → (∀ x, x ∈ ys ↔ x ∈ xs) → ys.length ≤ xs.length → (∀ b o, s.heap.get? b = some o → h'.get? b = some o) → Q (.ref s.heap.objs.size) { s with heap := h', toks := tk }) :
    wpAny (model P w) A (call (.type "set") [.ref l]) Q E s := by
  have hisz : xs.length = items.size := by rw [← StrsAre.len_eq hi, Array.length_toList]
  have hval : ∀ (i : Nat) (v : Value), items[i]? = some v → ∃ t, v = .str (xs.getD i Str.empty) t := fun i v hv => str_at hi i v (by rw [Array.getElem?_toList]; exact hv)
  obtain ⟨c, tl, hmro⟩ := PySem.F.called_set.mro
  have hmade := PySem.F.called_set.made
  have hsub := PySem.F.called_set.sub
  refine wpAny_call (codeAny_of_tree ?_)
  show wpAny _ _ (callAny (.type "set") _) _ _ _
  refine wpAny_pure ⟨Code.quiet_builtin _ (by decide +kernel), codeAny_builtin PySem.F.entry_type_call ?_⟩
  rw [Around.under_plain (weight_type_call_type "set" [.ref l] []) rfl]
  have h1 := PySem.F.called_set.notType
  have h2 := PySem.F.called_set.canCreate
  have hct := PySem.F.typeCall_set_1 (.ref l)
  repeat (any_goals (first | assumption | wp_step))
  refine codeAny_mono (code_set_led1 (.ref l) (E := E) (Q₁ := fun obj s₁ => obj = .ref s.heap.objs.size ∧ s₁ = { s with heap := s.heap.push (emptyObj w) }) ⟨rfl, rfl⟩) fun r s₁ hr => ?_
  cases r with
  | error e => exact hr
  | ok fl =>
    cases fl with
    | ret obj =>
      obtain ⟨rfl, rfl⟩ := hr
      have hS : (s.heap.push (emptyObj w)).get? s.heap.objs.size = some (emptyObj w) := Heap.get?_push_size _ rfl
      have hT : Shared.TypeIs { s with heap := s.heap.push (emptyObj w) } (.ref s.heap.objs.size) "set" := ⟨_, hS, rfl⟩
      have hli := PySem.F.called_set.init.lookup
      have hbi := PySem.F.called_set.init.bind (.ref s.heap.objs.size)
      repeat (any_goals (first | assumption | wp_step))
      refine codeAny_mono (codeAny_call_builtin (R := wants (fun r s₂ => r = .none ∧ ∃ h' tk ys, s₂ = { s with heap := h', toks := tk } ∧ SetX P w h' s.heap.objs.size ys ∧ (∀ x, x ∈ ys ↔ x ∈ xs) ∧ ys.length ≤ xs.length ∧
          (∀ b o, s.heap.get? b = some o → h'.get? b = some o)) E) PySem.F.called_set.init.plain PySem.F.entry_set_init (check_set_init_1 hT ?_)) fun r₂ s₂ hr₂ => ?_
      · have hh3 : A.in1.in1.in1.handled = none := by simp [hh]
        have hz1 : (s.heap.push (emptyObj w)).objs.size = s.heap.objs.size + 1 := Heap.size_push ..
        rcases hl with hl | hl
        · obtain ⟨ol, hol, hcl, nl, hdl⟩ := hl
          obtain ⟨ocls, odict, odata, oslots⟩ := ol
          simp only at hcl hdl
          subst hcl; subst hdl
          have hol' : (s.heap.push (emptyObj w)).get? l = some { cls := .type "list", dict := odict, data := .seq items nl, slots := oslots } := Heap.get?_push_of_some _ hol
          have hsls := PySem.F.sub_list_set
          have hslf := PySem.F.sub_list_frozenset
          have hne : (Value.type "list" == Value.type "dict") = false := by decide
          have hl1 : (s.heap.push (emptyObj w)).IsList l items := ⟨_, hol', rfl, nl, rfl⟩
          unfold Builtin.«set.__init__» noKeywords Builtin.Frozenset.updateFrom
          generalize hPI : pyIter = PI
          wp_walk
          subst hPI
          refine wpAny_pyIter_list hl1 ?_
          refine wpAny_bind (wpAny_runValue ?_)
          have hlS : l < s.heap.objs.size := Heap.lt_size hol
          have hneI : l ≠ (s.heap.push (emptyObj w)).objs.size := by
            rw [hz1]
            exact Nat.ne_of_lt (Nat.lt_succ_of_lt hlS)
          have hSf : s.heap.objs.size ∉ [(s.heap.push (emptyObj w)).objs.size, l] := by
            simp only [List.mem_cons, List.mem_singleton, List.not_mem_nil, or_false, not_or]
            rw [hz1]
            exact ⟨Nat.ne_of_lt (Nat.lt_succ_self _), Nat.ne_of_gt hlS⟩
          have hget : ((s.heap.push (emptyObj w)).push { cls := .type "list_iterator", data := .fields #[.ref l, .int 0 0] }).get? s.heap.objs.size = some (emptyObj w) := Heap.get?_push_of_some _ hS
          refine fill_loop ((Walks.list hh3 _ l hneI items).toS) s.heap.objs.size hSf xs hisz hval (by omega) (items.size - 0) 0 _ [] (by omega) (Nat.zero_le _)
            ⟨⟨_, Heap.get?_push_size _ rfl, rfl, rfl⟩, (hl1.push _)⟩ (setX_fresh hget) (fun x => Iff.rfl) (Nat.le_refl _) ?hR
          case hR =>
            intro s' ys hm hS' hmm hlen
            obtain ⟨h', g', d', tk', os'⟩ := s'
            have eg : g' = s.gens := hm.gens
            have ed : d' = s.drawn := hm.drawn
            have eo : os' = s.os := hm.os
            subst eg; subst ed; subst eo
            show wpAny _ _ _ _ _ _
            refine wpAny_pure ?_
            show wpAny _ _ (ret Value.none) _ _ _
            refine wpAny_pure ⟨rfl, h', tk', ys, rfl, hS', hmm, by omega, fun b o e => ?_⟩
            have hb0 : b < s.heap.objs.size := Heap.lt_size e
            refine hm.heap b o ?_ (Heap.get?_push_of_some _ (Heap.get?_push_of_some _ e))
            simp only [List.mem_cons, List.mem_singleton, List.not_mem_nil, or_false, not_or]
            rw [hz1]
            exact ⟨Nat.ne_of_lt hb0, Nat.ne_of_lt (Nat.lt_succ_of_lt hb0)⟩
        · obtain ⟨ol, hol, hcl, nl, hdl⟩ := hl
          obtain ⟨ocls, odict, odata, oslots⟩ := ol
          simp only at hcl hdl
          subst hcl; subst hdl
          have hol' : (s.heap.push (emptyObj w)).get? l = some { cls := .type "tuple", dict := odict, data := .seq items nl, slots := oslots } := Heap.get?_push_of_some _ hol
          have hsls := PySem.F.sub_tuple_set
          have hslf := PySem.F.sub_tuple_frozenset
          have hne : (Value.type "tuple" == Value.type "dict") = false := by decide
          have hl1 : (s.heap.push (emptyObj w)).IsTuple l items := ⟨_, hol', rfl, nl, rfl⟩
          unfold Builtin.«set.__init__» noKeywords Builtin.Frozenset.updateFrom
          generalize hPI : pyIter = PI
          wp_walk
          subst hPI
          refine wpAny_pyIter_tuple hl1 ?_
          refine wpAny_bind (wpAny_runValue ?_)
          have hlS : l < s.heap.objs.size := Heap.lt_size hol
          have hneI : l ≠ (s.heap.push (emptyObj w)).objs.size := by
            rw [hz1]
            exact Nat.ne_of_lt (Nat.lt_succ_of_lt hlS)
          have hSf : s.heap.objs.size ∉ [(s.heap.push (emptyObj w)).objs.size, l] := by
            simp only [List.mem_cons, List.mem_singleton, List.not_mem_nil, or_false, not_or]
            rw [hz1]
            exact ⟨Nat.ne_of_lt (Nat.lt_succ_self _), Nat.ne_of_gt hlS⟩
          have hget : ((s.heap.push (emptyObj w)).push { cls := .type "tuple_iterator", data := .fields #[.ref l, .int 0 0] }).get? s.heap.objs.size = some (emptyObj w) := Heap.get?_push_of_some _ hS
          refine fill_loop ((Walks.tuple hh3 _ l hneI items).toS) s.heap.objs.size hSf xs hisz hval (by omega) (items.size - 0) 0 _ [] (by omega) (Nat.zero_le _)
            ⟨⟨_, Heap.get?_push_size _ rfl, rfl, rfl⟩, (hl1.push _)⟩ (setX_fresh hget) (fun x => Iff.rfl) (Nat.le_refl _) ?hR
          case hR =>
            intro s' ys hm hS' hmm hlen
            obtain ⟨h', g', d', tk', os'⟩ := s'
            have eg : g' = s.gens := hm.gens
            have ed : d' = s.drawn := hm.drawn
            have eo : os' = s.os := hm.os
            subst eg; subst ed; subst eo
            show wpAny _ _ _ _ _ _
            refine wpAny_pure ?_
            show wpAny _ _ (ret Value.none) _ _ _
            refine wpAny_pure ⟨rfl, h', tk', ys, rfl, hS', hmm, by omega, fun b o e => ?_⟩
            have hb0 : b < s.heap.objs.size := Heap.lt_size e
            refine hm.heap b o ?_ (Heap.get?_push_of_some _ (Heap.get?_push_of_some _ e))
            simp only [List.mem_cons, List.mem_singleton, List.not_mem_nil, or_false, not_or]
            rw [hz1]
            exact ⟨Nat.ne_of_lt hb0, Nat.ne_of_lt (Nat.lt_succ_of_lt hb0)⟩
      · cases r₂ with
        | error e => exact hr₂
        | ok fl₂ =>
          cases fl₂ with
          | ret r =>
            obtain ⟨rfl, h', tk, ys, rfl, hS', hmm, hlen, hk'⟩ := hr₂
            repeat (any_goals (first | assumption | wp_step))
            exact h _ _ _ hS' hmm hlen hk'
          | _ => exact hr₂.elim
    | _ => exact hr.elim

/-! ### sorted(set) -/
theorem strs_of : ∀ (l : List Value), (∀ v ∈ l, ∃ k tk, v = Value.str k tk) → StrsAre l (l.map strOf)
  | [], _ => .nil
  | v :: l, h => by
    obtain ⟨k, tk, rfl⟩ := h v List.mem_cons_self
    exact .cons k tk (strs_of l fun u hu => h u (List.mem_cons_of_mem _ hu))
theorem sorted_setX {a : Addr} {l : List Str} {Q : Value → Shared → Prop} (R : SetX P w s.heap a l) (hh : A.handled = none) (hlen : l.length + 1 < scanBound)
    (hQ : ∀ s' p (out : Array Value) (c : Nat) (ys : List Str), (∀ b o, s.heap.get? b = some o → s'.heap.get? b = some o) → s'.gens = s.gens → s'.os = s.os → s.heap.objs.size ≤ p →
      s'.heap.get? p = some (seqObj "list" out c) → StrsAre out.toList ys → sortedS ys = true → ys.Perm l → Q (.ref p) s') :
    wpAny (model P w) A (call (.builtin "sorted") [.ref a]) Q E s := by
  obtain ⟨⟨es, ep, t⟩, ho, F, nd, r, hl⟩ := R
  have hf : t.fits es.size = true := F.fit
  have hsz : es.size = l.length := F.sz
  refine Calls.call_function_entry kind_sorted plain_sorted entry_sorted (args_sorted1 _) ?_
  unfold Builtin.«sorted»
  refine wpAny_bind (m := checkCount "sorted" 1 1 _) (wpAny_pure ?_)
  refine wpAny_bind (collect_set (A := A.in1) hh ⟨_, ho, rfl, rfl⟩ hf (by show es.size < scanBound; rw [hsz]; omega) r hl fun s1 vs k1 hz g1 o1 pm => ?_)
  have hvl : vs.length = l.length := by rw [pm.length_eq, List.length_map, Array.length_toList]; exact hsz
  have hst : ∀ v ∈ vs, ∃ k tk, v = Value.str k tk ∧ k ∈ l := fun v hv => by
    obtain ⟨e, he, q⟩ := List.mem_map.mp (pm.mem_iff.mp hv)
    obtain ⟨⟨k, h1, _⟩, _⟩ := F.el e he
    obtain ⟨tk, h2⟩ := Value.isStrOf_shape h1
    exact ⟨k, tk, by rw [← q]; exact h2, (F.mem k).mpr ⟨e, he, h1⟩⟩
  have hI : StrsAre vs (vs.map strOf) := strs_of vs fun v hv => let ⟨k, tk, e, _⟩ := hst v hv; ⟨k, tk, e⟩
  have pk : (vs.map strOf).Perm l := by
    refine (perm_of_sub l (vs.map strOf) nd (fun x hx => ?_) (by rw [List.length_map, hvl])).symm
    obtain ⟨e, he, h1⟩ := (F.mem x).mp hx
    obtain ⟨tk, h2⟩ := Value.isStrOf_shape h1
    exact List.mem_map.mpr ⟨e.2, pm.mem_iff.mpr (List.mem_map.mpr ⟨e, he, rfl⟩), by rw [h2]; rfl⟩
  have hline : vs.length ≤ sizeLine := by
    rw [hvl, sizeLine_eq]
    have z : scanBound = 4096 := rfl
    omega
  refine wpAny_bind (wpAny_newList ?_ hline)
  have hoL : (s1.heap.push (seqObj "list" vs.toArray 0)).get? s1.heap.objs.size = some (seqObj "list" vs.toArray 0) := Heap.get?_push_size _ rfl
  refine wpAny_bind (wpAny_holding (wpAny_call_entry slot_list_sort ⟨_, hoL, rfl⟩ entry_list_sort (list_sort_treeKAny strKind_oneLt hoL hI.keysOf (fun v₁ v₂ rest e => keyKind_strs (by rw [← e]; exact hI)) hline fun st' hp hs => ⟨_, rfl, ?_⟩) (args_list_sort _)))
  obtain ⟨ys, a1, a2, a3⟩ := sorted_out_str hI hp hs
  obtain ⟨c, hc⟩ := sortedHeap_at (vs := vs) (out := (arrOf st').map (·.2)) hoL
  refine wpAny_pure ⟨_, rfl, hQ _ s1.heap.objs.size _ c ys (fun b u e => ?_) g1 o1 hz hc a1 a3 (a2.trans pk)⟩
  have q := k1 b u e
  have hlt := Heap.lt_size q
  show (sortedHeap (s1.heap.push (seqObj "list" vs.toArray 0)) s1.heap.objs.size vs _).get? b = some u
  rw [sortedHeap_old (Nat.ne_of_lt hlt) (by rw [size_push']; exact Nat.lt_succ_of_lt hlt)]
  exact Heap.get?_push_of_some _ q
end

/-! ### over the layer -/
def SetV (P : Program) (w : World) (a : Addr) (l : List Str) : HO := .ext fun h => SetX P w h a l
section
variable {X : Cx}
theorem setV_new {P : Program} {w : World} {H : Hp} {h : Heap} {a : Addr} {l : List Str} (R : SetX P w h a l) : ObjOk P w H h a (SetV P w a l) := by
  have ⟨o, ho, _⟩ := R
  exact ⟨R, ⟨_, ho⟩, fun h1 h2 p k => SetX.at p k⟩
/-- set(xs), xs a list or a tuple of texts -/
def rSetX (K : PySem.W.Frag) (P : Program) (w : World) : List V → Hp → VK → Prop := fun vs H Q => ∃ (a : Addr) (xs : List Str), vs = [V.ref a] ∧ (SqL K H a (xs.map V.str) ∨ SqT K H a (xs.map V.str)) ∧ xs.length < 4000 ∧
  ∀ p ys, H p = none → (∀ x, x ∈ ys ↔ x ∈ xs) → ys.Nodup → ys.length ≤ xs.length → Q (.ref p) (upd H p (SetV P w p ys))
theorem cr_setX (hc : X.calm = true) : CallR X (.type "set") (rSetX X.K X.prog X.w) := by
  intro pins s σ H vs us Q I r h
  obtain ⟨a, xs, rfl, hs, hlen, q⟩ := h
  rw [Vals.ref1 r]
  have hn : H s.heap.objs.size = none := I.hok.fresh (Nat.le_refl _)
  have hz : xs.length + 1 < scanBound := by
    have z : scanBound = 4096 := rfl
    omega
  obtain ⟨its, rv, pl⟩ : ∃ its : List Value, Vals (xs.map V.str) its ∧ (s.heap.IsList a its.toArray ∨ s.heap.IsTuple a its.toArray) := by
    rcases hs with hs | hs
    · obtain ⟨its, rv, pl, _⟩ := I.list hs
      exact ⟨its, rv, .inl pl.isList⟩
    · obtain ⟨its, rv, pl, _⟩ := I.tuple hs
      exact ⟨its, rv, .inr pl⟩
  refine call_set (P := X.prog) (w := X.w) (I.ok.hd hc) pl (by simpa using rv.strs) hz fun h' tk ys R hm hl k => ?_
  have nd : ys.Nodup := by
    obtain ⟨_, _, _, z, _⟩ := R
    exact z
  exact ⟨.ref s.heap.objs.size, upd H s.heap.objs.size (SetV X.prog X.w s.heap.objs.size ys), I.laid (t' := tk) k (Nat.le_refl _) (setV_new R), rfl, q _ ys hn hm nd hl⟩
/-- sorted(a set of texts) -/
def rSortX (P : Program) (w : World) : List V → Hp → VK → Prop := fun vs H Q => ∃ (a : Addr) (l : List Str), vs = [V.ref a] ∧ H a = some (SetV P w a l) ∧ l.length < 4000 ∧
  ∀ ys p, ys.Perm l → sortedS ys = true → H p = none → Q (.ref p) (upd H p (.lst (ys.map V.str)))
theorem cr_sortX (hc : X.calm = true) : CallR X (.builtin "sorted") (rSortX X.prog X.w) := by
  intro pins s σ H vs us Q I r h
  obtain ⟨a, l, rfl, ha, hlen, q⟩ := h
  have R : SetX X.prog X.w s.heap a l := (I.hok a _ ha).1
  rw [Vals.ref1 r]
  have hz : l.length + 1 < scanBound := by
    have z : scanBound = 4096 := rfl
    omega
  refine sorted_setX R (I.ok.hd hc) hz fun s' p out c ys k g o hp hg hi hs pm => ?_
  have hl2 : (ys.map V.str).length ≤ sizeLine := by
    rw [List.length_map, pm.length_eq, sizeLine_eq]
    omega
  have hn : H p = none := I.hok.fresh hp
  have J : Inv X pins σ (upd H p (.lst (ys.map V.str))) { s with heap := s'.heap, gens := s'.gens, drawn := s'.drawn, toks := s'.toks } :=
    I.call (ch := []) (Un.laid k hp hn) (I.hok.laid k hp ⟨hl2, out.toList, c, vals_of_strs hi, hg⟩) (by rw [g]; exact I.bare) (fun _ z => nomatch z)
  have e : s' = { s with heap := s'.heap, gens := s'.gens, drawn := s'.drawn, toks := s'.toks } := by
    cases s'
    cases s
    cases o
    rfl
  rw [e]
  exact ⟨.ref p, _, J, rfl, q ys p pm hs hn⟩
end
end Sx
/-! Calls of the module's own defs by their promises, walks over a list or a tuple, data that stays. -/
namespace Bx
open PySem PySem.Spec PyProof.Rows L2 TL

/-- the module's name x holds a def that keeps sp, by at most level k -/
structure Cal (P : Program) (w : World) (K : PySem.W.Frag) (mg : Str → Option Value) (base : Heap) (x : Str) (k : Nat) (ps : List Str) (sp : Sp) : Prop where
  ex : ∃ (f : Addr) (fd : FuncData), FnOk P w K mg base CX0 k f fd ps sp ∧ mg x = some (.ref f) ∧ PySem.W.keepIn K (.ref f) = true ∧ Binds K fd ps []
/-- the same of a def with a star parameter alone -/
structure CalR (P : Program) (w : World) (K : PySem.W.Frag) (mg : Str → Option Value) (base : Heap) (x : Str) (k : Nat) (sp : Sp) : Prop where
  ex : ∃ f : Addr, FnR P w K mg base CX0 k f sp ∧ mg x = some (.ref f) ∧ PySem.W.keepIn K (.ref f) = true
section
variable {X : Cx} {x : Str} {k : Nat} {ps : List Str} {sp : Sp} {e : Expr} {es : List Expr} {t : TA} {p pos : Pos}
def tCal (sp : Sp) (t : TA) : TE := fun σ H Q => t σ H fun vs H1 => sp vs H1 Q E0
theorem pe_cal (c : Cal X.prog X.w X.K X.mg X.base x k ps sp) (hr : Room k X.A) (ha : PA X (e :: es) t) (hg : Gl X x := by rfl) (hdb : (x == ("__debug__" : Str)) = false := by decide)
    (he : starEach (e :: es) X.env = (false, eval e X.env) :: starEach es X.env := by rfl) (hpl : (backTo pos (starEach es X.env)).any (·.1) = false := by rfl) : PE X (.Call (.Name x p) (e :: es) [] pos) (tCal sp t) := by
  obtain ⟨f, fd, ok, g, kp, b⟩ := c.ex
  have z := pe_call (E := E0) ok hr hg g kp b .nil pass0 ha hdb he hpl (p := p)
  refine ⟨fun pins s σ H Q I h => z.run pins s σ H Q I ?_⟩
  unfold tCall
  simp only [List.append_nil]
  exact h
theorem pe_cal0 (c : Cal X.prog X.w X.K X.mg X.base x k ps sp) (hr : Room k X.A) (hg : Gl X x := by rfl) (hdb : (x == ("__debug__" : Str)) = false := by decide) : PE X (.Call (.Name x p) [] [] pos) (tCal sp tNil) := by
  obtain ⟨f, fd, ok, g, kp, b⟩ := c.ex
  have z := pe_call0 (E := E0) (pos := pos) ok hr hg g kp b .nil pass0 hdb (p := p)
  refine ⟨fun pins s σ H Q I h => z.run pins s σ H Q I ?_⟩
  exact h
theorem pe_calR (c : CalR X.prog X.w X.K X.mg X.base x k sp) (hr : Room k X.A) (ha : PA X (e :: es) t) (hg : Gl X x := by rfl) (hdb : (x == ("__debug__" : Str)) = false := by decide)
    (he : starEach (e :: es) X.env = (false, eval e X.env) :: starEach es X.env := by rfl) (hpl : (backTo pos (starEach es X.env)).any (·.1) = false := by rfl) : PE X (.Call (.Name x p) (e :: es) [] pos) (tCal sp t) := by
  obtain ⟨f, ok, g, kp⟩ := c.ex
  refine ⟨fun pins s σ H Q I h => ?_⟩
  refine wpAny_Call_Name_kw (ld_glob I hg g ?_ hdb)
  refine PySem.W.callWith_K (h₀ := X.base) I.ok.mod.kin kp (thn (ha.run pos pins s σ H _ I h) fun us s1 ⟨vs, H1, I1, r, q⟩ => ⟨I1.kIn, ?_⟩) he hpl
  exact wpAny_call (run_fnR ok hr pass0 I1 r q)
theorem pe_calR0 (c : CalR X.prog X.w X.K X.mg X.base x k sp) (hr : Room k X.A) (hg : Gl X x := by rfl) (hdb : (x == ("__debug__" : Str)) = false := by decide) : PE X (.Call (.Name x p) [] [] pos) (tCal sp tNil) := by
  obtain ⟨f, ok, g, kp⟩ := c.ex
  refine ⟨fun pins s σ H Q I h => ?_⟩
  refine wpAny_Call_Name_kw (ld_glob I hg g ?_ hdb)
  exact PySem.W.callWith_K0 I.kIn kp (wpAny_call (run_fnR ok hr pass0 I .nil h))

/-- x(*y) -/
theorem pe_calS {te : TE} {sp_ : Pos} (c : CalR X.prog X.w X.K X.mg X.base x k sp) (hr : Room k X.A) (he : PE X e te) (hg : Gl X x := by rfl) (hdb : (x == ("__debug__" : Str)) = false := by decide) (hst : starEach [.Starred e sp_] X.env = [(true, eval e X.env)] := by rfl) :
    PE X (.Call (.Name x p) [.Starred e sp_] [] pos) (fun σ H Q => te σ H fun y H1 => ∃ a xs, y = V.ref a ∧ (SqT X.K H1 a xs ∨ SqL X.K H1 a xs) ∧ sp xs H1 Q E0) := by
  obtain ⟨f, ok, g, kp⟩ := c.ex
  exact StX.pe_callS1 ok hr kp hg g pass0 he hdb hst

/-- a walk over a list or a tuple -/
def SeqCase (K : PySem.W.Frag) (a : Addr) (H : Hp) (R : It → Hp → Prop) : Prop := ((∃ xs, SqL K H a xs) ∧ R (Itl K a) H) ∨ ((∃ xs, SqT K H a xs) ∧ R (Itt K a) H)
def iSeq (K : PySem.W.Frag) (tl : TE) : TI := fun σ H R => tl σ H fun x H1 => ∃ a, x = .ref a ∧ SeqCase K a H1 R
theorem pi_seq {tg l : Expr} {tl : TE} (hl : PE X l tl) : PI X tg l (iSeq X.K tl) := by
  refine ⟨fun pins s σ H R I h => ?_⟩
  refine thn (hl.run pins s σ H _ I h) fun v s1 ⟨x, H1, I1, r1, q1⟩ => ?_
  obtain ⟨a, e, q1⟩ := q1
  subst e
  cases r1
  rcases q1 with ⟨⟨xs, hq⟩, q⟩ | ⟨⟨xs, hq⟩, q⟩
  · obtain ⟨its, rv, p, hz⟩ := I1.list hq
    refine wpAny_pyIter_list p.isList ?_
    exact pi_one (tk := s1.toks) I1 _ (turn_list a _) ⟨_, Heap.get?_push_size _ rfl, rfl, rfl⟩ q
  · obtain ⟨its, rv, p, hz⟩ := I1.tuple hq
    refine wpAny_pyIter_tuple (show s1.heap.IsTuple a its.toArray from p) ?_
    exact pi_one (tk := s1.toks) I1 _ (turn_tuple a _) ⟨_, Heap.get?_push_size _ rfl, rfl, rfl⟩ q
end

/-! ### rules with the written part named (within a block) -/
section
variable {X : Cx} {K : PySem.W.Frag}
theorem ix_listK (h : X.K = K) : IxR X (rIxL K) := h ▸ ix_list
theorem ix_tupK (h : X.K = K) : IxR X (rIxT K) := h ▸ ix_tup
theorem op_in_seqK (h : X.K = K) : OpR X (compareOp .In) (rIn K false) := h ▸ op_in_seq
theorem call_list_ofK (h : X.K = K) : CallR X (.type "list") (fun xs H Q => ∃ p ys, xs = [.ref p] ∧ (SqL K H p ys ∨ SqT K H p ys) ∧ ∀ l, H l = none → Q (.ref l) (upd H l (.lst ys))) := by
  subst h
  exact call_list_of
theorem call_tuple_ofK (h : X.K = K) : CallR X (.type "tuple") (fun xs H Q => ∃ p ys, xs = [.ref p] ∧ ((SqL K H p ys ∧ ∀ l, H l = none → Q (.ref l) (upd H l (.tup ys))) ∨ (SqT K H p ys ∧ Q (.ref p) H))) := by
  subst h
  exact call_tuple_of
theorem call_len_seqK (h : X.K = K) : CallR X (.builtin "len") (fun xs H Q => ∃ p ys, xs = [.ref p] ∧ (SqL K H p ys ∨ SqT K H p ys) ∧ Q (.int ys.length) H) := by
  subst h
  exact call_len_seq
theorem cr_allK (h : X.K = K) (hc : X.calm = true) : CallR X (.builtin "all") (rAll K) := by
  subst h
  exact cr_all hc
theorem pg_tupK {es : List Expr} {k : Nat} {t : TGs} {n : Nat} {pos : Pos} (h : X.K = K) (hc : X.calm = true) (hs : PGs X es t)
    (hn : (assignEach es X.env).length = n := by rfl) (hst : (assignEach es X.env).findIdx? (·.1) = none := by rfl) : PG X (.Tuple es k pos) (gTup K n t) := by
  subst h
  exact pg_tup hc hs hn hst
theorem op_notIn_seqK (h : X.K = K) : OpR X (compareOp .NotIn) (rIn K true) := h ▸ op_notIn_seq
end

/-! ### heaps -/
theorem same_new {H : Hp} {p : Addr} {o : HO} (h : H p = none) : Same H (upd H p o) := fun b x e => by
  rw [upd_ne (ne_of_none e h)]
  exact e
theorem same_at {H H2 : Hp} {p : Addr} {o : HO} (h : H p = none) (s : Same H H2) : Same H (upd H2 p o) := fun b x e => by
  rw [upd_ne (ne_of_none e h)]
  exact s b x e
theorem Same.tup {K : PySem.W.Frag} {H H' : Hp} {a : Addr} {xs : List V} (e : Same H H') (h : SqT K H a xs) : SqT K H' a xs := by
  rcases h with (h | ⟨o, h⟩) | h
  · exact .inl (.inl (e _ _ h))
  · exact .inl (.inr ⟨o, e _ _ h⟩)
  · exact .inr h
theorem sq {K : PySem.W.Frag} {H : Hp} {a : Addr} {xs : List V} (h : H a = some (.lst xs)) : SqL K H a xs := Or.inl (Or.inl h)
theorem sqt {K : PySem.W.Frag} {H : Hp} {a : Addr} {xs : List V} (h : H a = some (.tup xs)) : SqT K H a xs := Or.inl (Or.inl h)
/-- all that was tracked but a is as it was -/
def SameBut (a : Addr) (H H' : Hp) : Prop := ∀ b o, b ≠ a → H b = some o → H' b = some o
theorem SameBut.refl (a : Addr) (H : Hp) : SameBut a H H := fun _ _ _ h => h
theorem SameBut.trans {a : Addr} {H H1 H2 : Hp} (x : SameBut a H H1) (y : SameBut a H1 H2) : SameBut a H H2 := fun b o n h => y b o n (x b o n h)
theorem Same.but {a : Addr} {H H' : Hp} (x : Same H H') : SameBut a H H' := fun b o _ h => x b o h
theorem SameBut.upd {a : Addr} {H : Hp} {o : HO} : SameBut a H (upd H a o) := fun b x n h => by
  rw [upd_ne n]
  exact h
/-- new objects do not disturb: what was tracked at H, where a was not -/
theorem SameBut.same {a : Addr} {H H1 H2 : Hp} (x : Same H H1) (n : H a = none) (y : SameBut a H1 H2) : Same H H2 := fun b o h => y b o (ne_of_none h n) (x b o h)
theorem sz {n : Nat} (h : n ≤ 100000) : n ≤ sizeLine := Nat.le_trans h (by decide)
theorem szl {n : Nat} (h : n < 100000) : n < sizeLine := Nat.lt_of_lt_of_le h (by decide)
/-- the source of draws at a -/
def Src (H : Hp) (a : Addr) : Prop := ∃ n c : Int, H a = some (.lst [.int n, .int c])

/-! ### data -/
mutual
theorem dp_same {K : PySem.W.Frag} {H H' : Hp} (e : Same H H') : ∀ {v : V} {d : PyData}, Dp K H v d → Dp K H' v d
  | _, _, .non => .non
  | _, _, .bl b => .bl b
  | _, _, .int i => .int i
  | _, _, .str x => .str x
  | _, _, .lst h a => .lst (e.seq h) (dpAll_same e a)
  | _, _, .tup h a => .tup (Bx.Same.tup e h) (dpAll_same e a)
theorem dpAll_same {K : PySem.W.Frag} {H H' : Hp} (e : Same H H') : ∀ {vs : List V} {ds : List PyData}, DpAll K H vs ds → DpAll K H' vs ds
  | _, _, .nil => .nil
  | _, _, .cons h a => .cons (dp_same e h) (dpAll_same e a)
end
theorem dp_strs {K : PySem.W.Frag} {H : Hp} : ∀ ys : List Str, DpAll K H (ys.map V.str) (ys.map PyData.str)
  | [] => .nil
  | y :: ys => .cons (.str y) (dp_strs ys)
theorem dp_ints {K : PySem.W.Frag} {H : Hp} : ∀ ys : List Int, DpAll K H (ys.map V.int) (ys.map PyData.int)
  | [] => .nil
  | y :: ys => .cons (.int y) (dp_ints ys)
theorem dp_map {K : PySem.W.Frag} {H : Hp} {α : Type} {f : α → V} {g : α → PyData} : ∀ {l : List α}, (∀ x ∈ l, Dp K H (f x) (g x)) → DpAll K H (l.map f) (l.map g)
  | [], _ => .nil
  | x :: l, h => .cons (h x List.mem_cons_self) (dp_map fun y hy => h y (List.mem_cons_of_mem _ hy))

/-! ### walks with any body -/
theorem walk_any {J : It} {n : Nat} {G : Hp → Prop} {Y : Nat → Hp → V → Hp → Prop} (w : Walk J n G Y) {Z : Hp → Prop} {B : (Hp → Prop) → V → Hp → Prop} {H0 : Hp} (Pv : Nat → Hp → Prop) (h0 : Pv 0 H0) (hG : ∀ i H, i ≤ n → Pv i H → G H)
    (hs : ∀ i x H H', i < n → Pv i H → Y i H x H' → B (Pv (i + 1)) x H') (hd : ∀ H, Pv n H → Z H) :
    ∃ W : Nat → Nat → Hp → Prop, (∃ m, W 0 m H0) ∧ ∀ i m H, W i m H → (J.stop i H ∧ Z H) ∨ (J.go i H ∧ ∃ Nx : Hp → Prop, (∀ H', Nx H' → ∃ m', m' < m ∧ W (i + 1) m' H') ∧ ∀ x H', J.yld i H x H' → B Nx x H') := by
  refine ⟨fun i m H => m = n - i ∧ i ≤ n ∧ Pv i H, ⟨n, by simp, Nat.zero_le _, h0⟩, ?_⟩
  rintro i m H ⟨rfl, hi, p⟩
  have q := hG i H hi p
  by_cases hlt : i < n
  · exact .inr ⟨w.goes i H hlt q, Pv (i + 1), fun H' p' => ⟨n - (i + 1), by omega, rfl, hlt, p'⟩, fun x H' y => hs i x H H' hlt p (w.yields i H x H' hlt q y)⟩
  · have e : i = n := by omega
    subst e
    exact .inl ⟨w.stops H q, hd H p⟩

/-! ### a def with a star parameter alone -/
theorem okStar {P : Program} {w : World} {K : PySem.W.Frag} {mg : Str → Option Value} {base : Heap} {x qual pn : Str} {st : Stmt} {f : Addr} {fd : FuncData} {N : List Str} {k : Nat} {sp : Sp} (F : Fun K x qual st f fd) (S : FnScope N [pn] (defScope st))
    (hb : ∀ (kV doc pm : Value) (an : Option Addr) (cdv ct : Value) (rest : List Value), bindArgs (PySem.W.fnOf x qual (defArgs st) (defBody st) (defScope st) .none kV doc pm an cdv ct) ⟨rest, []⟩ = (newTuple rest >>= fun t => pure [(pn, t)]))
    (hbody : ∀ (cdv : Value) (A : Around) (outer : List Env) (s : Shared) (H : Hp) (vs : List V) (Q : VK) (E : XK), Room k (A.deeper (envOfC qual (defScope st) s.heap.objs.size f cdv)) → sp vs H Q E →
      ∃ t, PSs (cxOf CX0 P w K mg base N qual (defScope st) f cdv A outer s H E) (defBody st) t ∧ t { nx := fun _ H' => Q .non H', rt := Q } (start N vs) H) :
    FnR P w K mg base CX0 (k + 1) f (fun vs H Q E => vs.length ≤ sizeLine ∧ ∀ p, H p = none → sp [V.ref p] (upd H p (.tup vs)) Q E) := by
  obtain ⟨oc, od, kV, doc, pm, an, cdv, ct, osl, rfl, lk, hcd⟩ := F.ex
  have z := StX.fn_star (P := P) (w := w) (K := K) (mg := mg) (base := base) (CX := CX0) (ps := []) (sp := sp) lk hcd S StX.cxUp_none (fun us rest hl => by
    have e : us = [] := List.length_eq_zero_iff.mp hl
    subst e
    exact hb kV doc pm an cdv ct rest) (hbody cdv)
  exact z.imp fun vs H Q E h => ⟨[], vs, rfl, rfl, h.1, h.2⟩

/-- one parameter ahead of the star -/
theorem okStar1 {P : Program} {w : World} {K : PySem.W.Frag} {mg : Str → Option Value} {base : Heap} {x qual p1 pn : Str} {st : Stmt} {f : Addr} {fd : FuncData} {N : List Str} {k : Nat} {sp : Sp} (F : Fun K x qual st f fd) (S : FnScope N [p1, pn] (defScope st))
    (h0 : ∀ (kV doc pm : Value) (an : Option Addr) (cdv ct a : Value), bindArgs (PySem.W.fnOf x qual (defArgs st) (defBody st) (defScope st) .none kV doc pm an cdv ct) ⟨[a], []⟩ = (newTuple [] >>= fun t => pure [(p1, a), (pn, t)]))
    (h1 : ∀ (kV doc pm : Value) (an : Option Addr) (cdv ct a r : Value) (rs : List Value), bindArgs (PySem.W.fnOf x qual (defArgs st) (defBody st) (defScope st) .none kV doc pm an cdv ct) ⟨a :: r :: rs, []⟩ = (newTuple (r :: rs) >>= fun t => pure [(p1, a), (pn, t)]))
    (hbody : ∀ (cdv : Value) (A : Around) (outer : List Env) (s : Shared) (H : Hp) (vs : List V) (Q : VK) (E : XK), Room k (A.deeper (envOfC qual (defScope st) s.heap.objs.size f cdv)) → sp vs H Q E →
      ∃ t, PSs (cxOf CX0 P w K mg base N qual (defScope st) f cdv A outer s H E) (defBody st) t ∧ t { nx := fun _ H' => Q .non H', rt := Q } (start N vs) H) :
    FnR P w K mg base CX0 (k + 1) f (fun vs H Q E => ∃ v rest, vs = v :: rest ∧ rest.length ≤ sizeLine ∧ ∀ p, H p = none → sp [v, V.ref p] (upd H p (.tup rest)) Q E) := by
  obtain ⟨oc, od, kV, doc, pm, an, cdv, ct, osl, rfl, lk, hcd⟩ := F.ex
  have z := StX.fn_star (P := P) (w := w) (K := K) (mg := mg) (base := base) (CX := CX0) (ps := [p1]) (sp := sp) lk hcd S StX.cxUp_none
    (StX.bind_star1 (B := fun us => bindArgs (PySem.W.fnOf x qual (defArgs st) (defBody st) (defScope st) .none kV doc pm an cdv ct) ⟨us, []⟩) (h0 kV doc pm an cdv ct) (h1 kV doc pm an cdv ct)) (hbody cdv)
  exact z.imp fun vs H Q E ⟨v, rest, e, hl, h⟩ => ⟨[v], rest, e, rfl, hl, h⟩

/-! ### a walk over a list or a tuple, told once -/
theorem seq_case {K : PySem.W.Frag} {H : Hp} {a : Addr} {xs : List V} {R : It → Hp → Prop} (h : SqL K H a xs ∨ SqT K H a xs) (k : ∀ (J : It) (G : Hp → Prop), Walk J xs.length G (YAt xs) → (∀ H', Same H H' → G H') → R J H) : SeqCase K a H R := by
  rcases h with h | h
  · exact .inl ⟨⟨_, h⟩, k _ _ walk_list fun H' s => s.seq h⟩
  · exact .inr ⟨⟨_, h⟩, k _ _ walk_tup fun H' s => Bx.Same.tup s h⟩
theorem at_map {α : Type} {l : List α} {f : α → V} {i : Nat} {x : V} (h : (l.map f)[i]? = some x) : ∃ y, l[i]? = some y ∧ x = f y := by
  rw [List.getElem?_map] at h
  cases e : l[i]? with
  | none =>
    rw [e] at h
    cases h
  | some y =>
    rw [e] at h
    exact ⟨y, rfl, (Option.some.inj h).symm⟩

/-! ### texts in ascending order -/
theorem rising_at : ∀ (p : Str) (r : List Str), risingS p r = true → ∀ (k : Nat) (x y : Str), (p :: r)[k]? = some x → (p :: r)[k + 1]? = some y → ltCps y.cps.toList x.cps.toList = false
  | p, [], _, k, x, y, _, h2 => by
    simp at h2
  | p, q :: r, h, k, x, y, h1, h2 => by
    have h3 : (!ltCps q.cps.toList p.cps.toList && risingS q r) = true := h
    rw [Bool.and_eq_true] at h3
    cases k with
    | zero =>
      have e1 : p = x := Option.some.inj h1
      have e2 : q = y := Option.some.inj h2
      rw [← e1, ← e2]
      simpa using h3.1
    | succ k => exact rising_at q r h3.2 k x y h1 h2
theorem sorted_at {l : List Str} (h : sortedS l = true) (nd : l.Nodup) {k : Nat} {x y : Str} (h1 : l[k]? = some x) (h2 : l[k + 1]? = some y) : x.cps.toList < y.cps.toList := by
  cases l with
  | nil => cases h1
  | cons p r =>
    have a := rising_at p r h k x y h1 h2
    rw [ltCps_eq] at a
    refine Std.lt_of_le_of_ne (of_decide_eq_false a) fun e => ?_
    have e2 : x = y := ext_tl e
    obtain ⟨i1, e3⟩ := List.getElem?_eq_some_iff.mp h1
    obtain ⟨i2, e4⟩ := List.getElem?_eq_some_iff.mp h2
    have z := List.pairwise_iff_getElem.mp nd k (k + 1) i1 i2 (Nat.lt_succ_self k)
    exact z (e3.trans (e2.trans e4.symm))

/-! ### membership of texts -/
theorem inV_str (x : Str) (ys : List Str) : inV (.str x) (ys.map V.str) = decide (x ∈ ys) := by
  unfold inV
  rw [List.any_map]
  induction ys with
  | nil => rfl
  | cons y ys ih =>
    rw [List.any_cons, ih]
    show ((y == x) || _) = _
    by_cases e : y = x
    · subst e
      simp
    · have e2 : (y == x) = false := by simpa using e
      rw [e2, Bool.false_or]
      by_cases h : x ∈ ys
      · rw [decide_eq_true h, decide_eq_true (List.mem_cons_of_mem _ h)]
      · rw [decide_eq_false h, decide_eq_false (fun z => (List.mem_cons.mp z).elim (fun z => e z.symm) h)]
theorem flat_all (ys : List Str) : (ys.map V.str).all flatV = true := by
  rw [List.all_map, List.all_eq_true]
  intro y _
  rfl
theorem lay_strs : ∀ ys : List Str, (∀ y ∈ ys, PyData.strOk y = true) → PyData.canLayAll0 (ys.map PyData.str) = true ∧ PyData.depthAll (ys.map PyData.str) ≤ 1
  | [], _ => ⟨rfl, by decide⟩
  | y :: ys, h => by
    obtain ⟨a, b⟩ := lay_strs ys fun z hz => h z (List.mem_cons_of_mem _ hz)
    constructor
    · show (PyData.strOk y && PyData.canLayAll0 (ys.map PyData.str)) = true
      rw [a, h y List.mem_cons_self]
      rfl
    · show max (PyData.depth (.str y)) (PyData.depthAll (ys.map PyData.str)) ≤ 1
      exact Nat.max_le.mpr ⟨by first | exact Nat.zero_le _ | decide | exact Nat.le_refl _, b⟩
theorem lay_lists : ∀ L : List (List Str), (∀ ys ∈ L, ∀ y ∈ ys, PyData.strOk y = true) → PyData.canLayAll0 (L.map fun ys => PyData.list (ys.map PyData.str)) = true ∧ PyData.depthAll (L.map fun ys => PyData.list (ys.map PyData.str)) ≤ 2
  | [], _ => ⟨rfl, by decide⟩
  | ys :: L, h => by
    obtain ⟨a, b⟩ := lay_lists L fun z hz => h z (List.mem_cons_of_mem _ hz)
    obtain ⟨c, d⟩ := lay_strs ys (h ys List.mem_cons_self)
    constructor
    · show (PyData.canLayAll0 (ys.map PyData.str) && PyData.canLayAll0 (L.map fun ys => PyData.list (ys.map PyData.str))) = true
      rw [a, c]
      rfl
    · show max (PyData.depthAll (ys.map PyData.str) + 1) (PyData.depthAll (L.map fun ys => PyData.list (ys.map PyData.str))) ≤ 2
      exact Nat.max_le.mpr ⟨by omega, b⟩

/-! ### signs of a written text -/
theorem pick {L : Str} {r : Int} (h0 : 0 ≤ r) (h1 : r < (tl L).length) : ∃ c, atI L.cps.toList r = some c ∧ c ∈ tl L := by
  obtain ⟨n, rfl⟩ := Int.eq_ofNat_of_zero_le h0
  have hn : n < (tl L).length := by omega
  exact ⟨(tl L)[n], atI_nat (List.getElem?_eq_getElem hn), List.getElem_mem hn⟩
end Bx
/-! Data that stands in the heap, beside objects that change; rules told of data. -/
namespace Dx
open PySem PySem.Spec PyProof.Rows L2 Bx TL

/-! ### the heap without some addresses -/
def mn (H : Hp) (S : List Addr) : Hp := fun b => if b ∈ S then none else H b
theorem mn_in {H : Hp} {S : List Addr} {b : Addr} (h : b ∈ S) : mn H S b = none := if_pos h
theorem mn_out {H : Hp} {S : List Addr} {b : Addr} (h : b ∉ S) : mn H S b = H b := if_neg h
theorem mn_same {H : Hp} {S : List Addr} : Same (mn H S) H := fun b o e => by
  by_cases h : b ∈ S
  · rw [mn_in h] at e
    cases e
  · rw [mn_out h] at e
    exact e
theorem mn_nil {H : Hp} : mn H [] = H := funext fun b => mn_out (by simp)
theorem mn_sub {H : Hp} {S T : List Addr} (h : ∀ b, b ∈ S → b ∈ T) : Same (mn H T) (mn H S) := fun b o e => by
  by_cases h1 : b ∈ T
  · rw [mn_in h1] at e
    cases e
  · rw [mn_out h1] at e
    rw [mn_out fun z => h1 (h b z)]
    exact e
theorem mn_upd {H : Hp} {S : List Addr} {a : Addr} {o : HO} (h : a ∈ S) : mn (upd H a o) S = mn H S := funext fun b => by
  by_cases h1 : b ∈ S
  · rw [mn_in h1, mn_in h1]
  · rw [mn_out h1, mn_out h1, upd_ne (show b ≠ a from fun z => h1 (by rw [z]; exact h))]
theorem mn_new {H : Hp} {S : List Addr} {p : Addr} {o : HO} (h : H p = none) : Same (mn H S) (mn (upd H p o) S) := fun b u e => by
  by_cases h1 : b ∈ S
  · rw [mn_in h1] at e
    cases e
  · rw [mn_out h1] at e ⊢
    rw [upd_ne (ne_of_none e h)]
    exact e
theorem mn_but {H H' : Hp} {S : List Addr} {a : Addr} (h : a ∈ S) (s : SameBut a H H') : Same (mn H S) (mn H' S) := fun b u e => by
  by_cases h1 : b ∈ S
  · rw [mn_in h1] at e
    cases e
  · rw [mn_out h1] at e ⊢
    exact s b u (fun z => h1 (z ▸ h)) e
theorem mn_all {H H' : Hp} {S : List Addr} (s : Same H H') : Same (mn H S) (mn H' S) := fun b u e => by
  by_cases h1 : b ∈ S
  · rw [mn_in h1] at e
    cases e
  · rw [mn_out h1] at e ⊢
    exact s b u e
theorem mn_to {H H' : Hp} {S T : List Addr} (h : ∀ b, b ∈ S → b ∈ T) (s : Same (mn H S) (mn H' S)) : Same (mn H T) (mn H' T) := fun b u e => by
  by_cases h1 : b ∈ T
  · rw [mn_in h1] at e
    cases e
  · rw [mn_out h1] at e ⊢
    have z := s b u (by rw [mn_out fun z => h1 (h b z)]; exact e)
    rw [mn_out fun z => h1 (h b z)] at z
    exact z
/-- what is tracked beside S was there, or is new -/
theorem mn_at {H : Hp} {S : List Addr} {b : Addr} {o : HO} (h : b ∉ S) (e : H b = some o) : mn H S b = some o := by
  rw [mn_out h]
  exact e
theorem mn_keep {H H' : Hp} {S : List Addr} (s : Same (mn H S) (mn H' S)) {b : Addr} {o : HO} (h : b ∉ S) (e : H b = some o) : H' b = some o := mn_same _ _ (s _ _ (mn_at h e))
theorem mn_free {H H' : Hp} {S : List Addr} (s : Same (mn H S) (mn H' S)) {b : Addr} (h : b ∉ S) (e : H' b = none) : H b = none := by
  cases z : H b with
  | none => rfl
  | some o =>
    rw [mn_keep s h z] at e
    cases e

/-! ### data -/
section
variable {K : PySem.W.Frag} {H : Hp}
theorem dp_lst {v : V} {ds : List PyData} (h : Dp K H v (.list ds)) : ∃ a xs, v = .ref a ∧ SqL K H a xs ∧ DpAll K H xs ds := by
  cases h with
  | lst s a => exact ⟨_, _, rfl, s, a⟩
theorem dp_tup {v : V} {ds : List PyData} (h : Dp K H v (.tuple ds)) : ∃ a xs, v = .ref a ∧ SqT K H a xs ∧ DpAll K H xs ds := by
  cases h with
  | tup s a => exact ⟨_, _, rfl, s, a⟩
theorem dp_str {v : V} {s : Str} (h : Dp K H v (.str s)) : v = .str s := by cases h; rfl
theorem dp_int {v : V} {i : Int} (h : Dp K H v (.int i)) : v = .int i := by cases h; rfl
theorem da_len : ∀ {xs : List V} {ds : List PyData}, DpAll K H xs ds → xs.length = ds.length
  | _, _, .nil => rfl
  | _, _, .cons _ t => congrArg (· + 1) (da_len t)
theorem da_get : ∀ {xs : List V} {ds : List PyData}, DpAll K H xs ds → ∀ {i : Nat} {d : PyData}, ds[i]? = some d → ∃ v, xs[i]? = some v ∧ Dp K H v d
  | _, _, .nil, i, d, e => by cases e
  | _, _, .cons h t, 0, d, e => by
    cases e
    exact ⟨_, rfl, h⟩
  | _, _, .cons h t, i + 1, d, e => da_get t e
theorem da_at : ∀ {xs : List V} {ds : List PyData}, DpAll K H xs ds → ∀ {i : Nat} {v : V}, xs[i]? = some v → ∃ d, ds[i]? = some d ∧ Dp K H v d
  | _, _, .nil, i, d, e => by cases e
  | _, _, .cons h t, 0, d, e => by
    cases e
    exact ⟨_, rfl, h⟩
  | _, _, .cons h t, i + 1, d, e => da_at t e
theorem da_app : ∀ {xs ys : List V} {ds es : List PyData}, DpAll K H xs ds → DpAll K H ys es → DpAll K H (xs ++ ys) (ds ++ es)
  | _, _, _, _, .nil, h => h
  | _, _, _, _, .cons h t, k => .cons h (da_app t k)
theorem da_one {v : V} {d : PyData} (h : Dp K H v d) : DpAll K H [v] [d] := .cons h .nil
theorem da_strs : ∀ {xs : List V} {ns : List Str}, DpAll K H xs (ns.map PyData.str) → xs = ns.map V.str
  | [], [], _ => rfl
  | [], _ :: _, h => by cases h
  | _ :: _, [], h => by cases h
  | x :: xs, n :: ns, h => by
    cases h with
    | cons h t =>
      rw [dp_str h, da_strs t]
      rfl
theorem da_ints : ∀ {xs : List V} {ns : List Int}, DpAll K H xs (ns.map PyData.int) → xs = ns.map V.int
  | [], [], _ => rfl
  | [], _ :: _, h => by cases h
  | _ :: _, [], h => by cases h
  | x :: xs, n :: ns, h => by
    cases h with
    | cons h t =>
      rw [dp_int h, da_ints t]
      rfl
theorem da_take : ∀ {xs : List V} {ds : List PyData}, DpAll K H xs ds → ∀ n, DpAll K H (xs.take n) (ds.take n)
  | _, _, .nil, n => by
    rw [List.take_nil, List.take_nil]
    exact .nil
  | _, _, .cons h t, 0 => .nil
  | _, _, .cons h t, n + 1 => .cons h (da_take t n)
/-- the strs of a tuple of texts -/
theorem dp_names {v : V} {ns : List Str} (h : Dp K H v (.tuple (ns.map PyData.str))) : ∃ a, v = .ref a ∧ SqT K H a (ns.map V.str) := by
  obtain ⟨a, xs, rfl, s, t⟩ := dp_tup h
  rw [da_strs t] at s
  exact ⟨a, rfl, s⟩
theorem dp_namesL {v : V} {ns : List Str} (h : Dp K H v (.list (ns.map PyData.str))) : ∃ a, v = .ref a ∧ SqL K H a (ns.map V.str) := by
  obtain ⟨a, xs, rfl, s, t⟩ := dp_lst h
  rw [da_strs t] at s
  exact ⟨a, rfl, s⟩
theorem names_dp {a : Addr} {ns : List Str} (h : SqT K H a (ns.map V.str)) : Dp K H (.ref a) (.tuple (ns.map PyData.str)) := .tup h (dp_strs ns)
theorem namesL_dp {a : Addr} {ns : List Str} (h : SqL K H a (ns.map V.str)) : Dp K H (.ref a) (.list (ns.map PyData.str)) := .lst h (dp_strs ns)
end

/-! ### what may be compared: no dicts, not too deep -/
def Lay (n : Nat) (d : PyData) : Prop := d.canLay0 = true ∧ d.depth ≤ n
def Lays (n : Nat) (ds : List PyData) : Prop := PyData.canLayAll0 ds = true ∧ PyData.depthAll ds ≤ n
theorem lays_nil {n : Nat} : Lays n [] := ⟨rfl, Nat.zero_le _⟩
theorem lays_cons {n : Nat} {d : PyData} {ds : List PyData} (h : Lay n d) (t : Lays n ds) : Lays n (d :: ds) := by
  constructor
  · show (d.canLay0 && PyData.canLayAll0 ds) = true
    rw [h.1, t.1]
    rfl
  · show max d.depth (PyData.depthAll ds) ≤ n
    exact Nat.max_le.mpr ⟨h.2, t.2⟩
theorem lays_of {n : Nat} : ∀ {ds : List PyData}, (∀ d ∈ ds, Lay n d) → Lays n ds
  | [], _ => lays_nil
  | d :: ds, h => lays_cons (h d List.mem_cons_self) (lays_of fun x hx => h x (List.mem_cons_of_mem _ hx))
theorem lay_tuple {n : Nat} {ds : List PyData} (h : Lays n ds) : Lay (n + 1) (.tuple ds) := ⟨h.1, Nat.succ_le_succ h.2⟩
theorem lay_list {n : Nat} {ds : List PyData} (h : Lays n ds) : Lay (n + 1) (.list ds) := ⟨h.1, Nat.succ_le_succ h.2⟩
theorem lay_int {n : Nat} {i : Int} : Lay n (.int i) := ⟨rfl, Nat.zero_le _⟩
theorem lay_str {n : Nat} {s : Str} (h : PyData.strOk s = true) : Lay n (.str s) := ⟨h, Nat.zero_le _⟩
theorem lay_up {m n : Nat} {d : PyData} (h : Lay m d) (k : m ≤ n) : Lay n d := ⟨h.1, Nat.le_trans h.2 k⟩
theorem lays_up {m n : Nat} {ds : List PyData} (h : Lays m ds) (k : m ≤ n) : Lays n ds := ⟨h.1, Nat.le_trans h.2 k⟩
theorem lays_mem {n : Nat} : ∀ {ds : List PyData}, Lays n ds → ∀ d ∈ ds, Lay n d
  | d :: ds, h, x, hx => by
    have h1 : (d.canLay0 && PyData.canLayAll0 ds) = true := h.1
    have h2 : max d.depth (PyData.depthAll ds) ≤ n := h.2
    rw [Bool.and_eq_true] at h1
    rw [Nat.max_le] at h2
    rcases List.mem_cons.mp hx with e | e
    · rw [e]
      exact ⟨h1.1, h2.1⟩
    · exact lays_mem ⟨h1.2, h2.2⟩ x e
theorem lays_strs {n : Nat} {ns : List Str} (h : ∀ s ∈ ns, PyData.strOk s = true) : Lays n (ns.map PyData.str) := lays_of fun d hd => by
  obtain ⟨s, hs, rfl⟩ := List.mem_map.mp hd
  exact lay_str (h s hs)
theorem lays_ints {n : Nat} {ns : List Int} : Lays n (ns.map PyData.int) := lays_of fun d hd => by
  obtain ⟨s, _, rfl⟩ := List.mem_map.mp hd
  exact lay_int
theorem shape {n : Nat} {d : PyData} (h : Lay n d) (k : n ≤ 64) : SeqAt.shaped d = true := by
  unfold SeqAt.shaped
  rw [Bool.and_eq_true]
  exact ⟨h.1, decide_eq_true (Nat.le_trans h.2 k)⟩
theorem eq_refl {n : Nat} {d : PyData} (h : Lay n d) : PyData.eqv d d = true := SeqAt.eqv_refl d h.1

/-! ### strict order of lists of texts, and equal lists -/
def Asc (l : List Str) : Prop := l.Pairwise fun x y => x.cps.toList < y.cps.toList
theorem asc_of : ∀ {l : List Str}, sortedS l = true → l.Nodup → Asc l := by
  intro l h nd
  have key : ∀ (d i : Nat) (x y : Str), l[i]? = some x → l[i + (d + 1)]? = some y → x.cps.toList < y.cps.toList := by
    intro d
    induction d with
    | zero => exact fun i x y h1 h2 => sorted_at h nd h1 h2
    | succ d ih =>
      intro i x y h1 h2
      have hl : i + (d + 1) < l.length := by
        have := (List.getElem?_eq_some_iff.mp h2).1
        omega
      have h3 : l[i + (d + 1)]? = some l[i + (d + 1)] := List.getElem?_eq_getElem hl
      exact List.lt_trans (ih i x _ h1 h3) (sorted_at h nd h3 h2)
  refine List.pairwise_iff_getElem.mpr fun i j hi hj hij => ?_
  exact key (j - i - 1) i _ _ (List.getElem?_eq_getElem hi) (by rw [show i + (j - i - 1 + 1) = j by omega]; exact List.getElem?_eq_getElem hj)
theorem asc_nodup {l : List Str} (h : Asc l) : l.Nodup := List.Pairwise.imp (fun {x y} hxy e => by
  rw [e] at hxy
  exact List.lt_irrefl _ hxy) h
theorem asc_eq : ∀ {l m : List Str}, Asc l → Asc m → (∀ x, x ∈ l ↔ x ∈ m) → l = m
  | [], [], _, _, _ => rfl
  | [], y :: m, _, _, h => absurd ((h y).mpr List.mem_cons_self) (by simp)
  | x :: l, [], _, _, h => absurd ((h x).mp List.mem_cons_self) (by simp)
  | x :: l, y :: m, h1, h2, h => by
    obtain ⟨a1, a2⟩ := List.pairwise_cons.mp h1
    obtain ⟨b1, b2⟩ := List.pairwise_cons.mp h2
    have e : x = y := by
      rcases List.mem_cons.mp ((h x).mp List.mem_cons_self) with e | e
      · exact e
      · rcases List.mem_cons.mp ((h y).mpr List.mem_cons_self) with e' | e'
        · exact e'.symm
        · exact absurd (List.lt_trans (a1 y e') (b1 x e)) (List.lt_irrefl _)
    subst e
    have nl : x ∉ l := fun z => List.lt_irrefl _ (a1 x z)
    have nm : x ∉ m := fun z => List.lt_irrefl _ (b1 x z)
    rw [asc_eq a2 b2 fun z => ⟨fun hz => (List.mem_cons.mp ((h z).mp (List.mem_cons_of_mem _ hz))).resolve_left fun e => nl (e ▸ hz), fun hz => (List.mem_cons.mp ((h z).mpr (List.mem_cons_of_mem _ hz))).resolve_left fun e => nm (e ▸ hz)⟩]

/-! ### sorted(xs), xs tuples of ints of one length: some order -/
def rSortRows (K : PySem.W.Frag) : List V → Hp → VK → Prop := fun vs H Q => ∃ (a : Addr) (xs : List V) (d : Nat) (B : Int), vs = [V.ref a] ∧ SqL K H a xs ∧ xs.length < 64 ∧ (∀ x ∈ xs, ∃ ns, TupI K H x ns ∧ ns.length = d ∧ TS.Bd B ns) ∧ (d = 0 → xs.length ≤ 1) ∧
  ∀ (ys : List V) (p : Addr), ys.Perm xs → H p = none → Q (.ref p) (upd H p (.lst ys))
theorem cr_sortRows {X : Cx} : CallR X (.builtin "sorted") (rSortRows X.K) := by
  intro pins s σ H vs us Q I r h
  obtain ⟨a, xs, d, B, rfl, hs, h64, hx, h1, q⟩ := h
  by_cases hd : 1 ≤ d
  · exact cr_sortT hd pins s σ H _ us Q I r ⟨a, xs, rfl, hs, h64, hx, fun ys p pm _ n => q ys p pm n⟩
  · have hl1 : xs.length ≤ 1 := h1 (by omega)
    obtain ⟨its, rv, hl, hz⟩ := I.list hs
    have hlen := rv.length
    rw [Vals.ref1 r]
    refine Srt.sorted_any hl.isList (by rw [← hlen]; exact hz) (fun h2 => absurd h2 (by omega)) fun out hp => ?_
    have e : out = its := by
      match its, hlen, hp with
      | [], _, hp => exact hp.eq_nil
      | [v], _, hp => exact List.perm_singleton.mp hp
      | _ :: _ :: _, hlen, _ =>
        simp only [List.length_cons] at hlen
        omega
    subst e
    obtain ⟨ep, he'⟩ := PyProof.Rows.sortedAll_at s.heap out out.toArray
    exact ⟨.ref _, upd H (s.heap.objs.size + 1) (.lst xs), I.laid (t' := s.toks) (fun _ _ => PyProof.Rows.sortedAll_old) (Nat.le_succ _) ⟨hz, out, ep, rv, by simpa using he'⟩, rfl, q xs _ (List.Perm.refl _) (I.hok.fresh (Nat.le_succ _))⟩

/-! ### the room of a call for a comparison of data -/
theorem room {k : Nat} {A : Around} (r : Room k A) : A.units + 65 < cLine := by
  have := r.un
  omega

/-! ### a list or a tuple of data -/
theorem dp_seq {K : PySem.W.Frag} {H : Hp} {v : V} {ds : List PyData} (h : Dp K H v (.list ds) ∨ Dp K H v (.tuple ds)) : ∃ a xs, v = .ref a ∧ DpAll K H xs ds ∧ (SqL K H a xs ∨ SqT K H a xs) := by
  rcases h with h | h
  · obtain ⟨a, xs, rfl, s, t⟩ := dp_lst h
    exact ⟨a, xs, rfl, t, .inl s⟩
  · obtain ⟨a, xs, rfl, s, t⟩ := dp_tup h
    exact ⟨a, xs, rfl, t, .inr s⟩

/-! ### name = {k: v for ..} -/
section
variable {X : Cx}
theorem ps_setDc {i : Nat} {y : Str} {py : Pos} {kx vx tg iter : Expr} {ifs : List Expr} {scope : Scope} {own : List (Str × Nat)} {pos spos : Pos} {wi : TI} {g : TG} {tt : TT} {tk tv : TE} (hc : X.calm = true) (hN : X.N.Nodup) (hy : X.N[i]? = some y) (hyl : X.env.scope.names.lookup y = some .local)
    (hsw : swapsWith (.DictComp kx vx [⟨tg, iter, ifs, 0⟩] scope pos) (some (.Name y py)) spos.line X.env = pure true) (hi : PI X tg iter wi) (ok : BlkOk X.N X.env.scope scope own)
    (hg : ∀ (s : Shared) (H : Hp) (C : Addr) (cl : List (Str × Addr)) (fp : List Addr), PG (X.blk s H scope (compEnvC scope cl C X.env) fp) tg g) (ht : ∀ (s : Shared) (H : Hp) (C : Addr) (cl : List (Str × Addr)) (fp : List Addr), PTs (X.blk s H scope (compEnvC scope cl C X.env) fp) ifs tt)
    (hk : ∀ (s : Shared) (H : Hp) (C : Addr) (cl : List (Str × Addr)) (fp : List Addr), PE (X.blk s H scope (compEnvC scope cl C X.env) fp) kx tk)
    (he : ∀ (s : Shared) (H : Hp) (C : Addr) (cl : List (Str × Addr)) (fp : List Addr), PE (X.blk s H scope (compEnvC scope cl C X.env) fp) vx tv) (hs : ∀ x, foldedSetIterable iter X.env x = pure x := by intro _; rfl) :
    PS X (.Assign [.Name y py] (.DictComp kx vx [⟨tg, iter, ifs, 0⟩] scope pos) spos) (tAsg (tDc wi g tt tk tv (own.map (·.2))) (gName i)) := by
  refine ⟨fun pins s σ H D I h => ?_⟩
  rw [exec_Assign_Name_used _ _ _ _ hsw]
  refine wpAny_bind (wpAny_standAt (wpAny_bind ?_))
  show wpAny _ X.A (do let _ ← comprehension (.DictComp kx vx [⟨tg, iter, ifs, 0⟩] scope pos) scope X.env _ newDict false (eval iter X.env) (some (assign (.Name y py) X.env))) _ _ s
  have h : tDc wi g tt tk tv (own.map (·.2)) σ H (fun x H1 => gName i x σ H1 D.nx) := h
  refine wpAny_bind (thn (dc_core (Qf := fun _ s' => SP X pins D .next s') hc hN I hi ok hg ht hk he hs h fun L C s' m H' I' q hn f => ?_) fun _ s' hq => wpAny_pure (wpAny_pure hq))
  show wpAny _ _ (assign (.Name y py) X.env (.ref L)) _ _ _
  refine wpAny_assign_Name (store_ok2 (v := V.ref L) I' hN hy (.inl hyl) rfl (fun s2 I2 ⟨a, sb, ha⟩ => ?_) (.inr hyl))
  obtain ⟨f0, f1, f2, f3, f4, f5⟩ := f
  have haC : C ≠ a := by
    rcases ha with z | z
    · rw [z]; exact f1
    · exact fun e => f4 y a z e.symm
  refine ⟨m, hn.sameBut sb haC, fun h3 sb3 => ?_⟩
  exact ⟨_, H', I2.turned (t' := s2.toks) (fun b o hb e => (sb3.2 b hb).trans e) f0 f1 f3 f4 f5, q⟩
theorem sw_trueD {kx vx : Expr} {gs : List Comprehension} {scope : Scope} {pos py : Pos} {y : Str} {l : Nat} {env : Env} (hk : env.scope.kind = .function) (hy : env.scope.names.lookup y = some .local) (hl : (py.line == pos.line) = true)
    (ha : (scope.names.any fun (n, k) => n == y && (k == .local || k == .cell)) = false) : swapsWith (.DictComp kx vx gs scope pos) (some (.Name y py)) l env = pure true := by
  have ky : env.kindOf y = some .local := hy
  have hb : env.blockKind = .function := by unfold Env.blockKind; rw [hk]; rfl
  unfold swapsWith
  simp only [hb, ky, ha, Expr.pos, hl]
  rfl
end
end Dx
/-! enumerate(xs, start=k), xs a list or a tuple, walked. -/
namespace En
open PySem PySem.Spec PyProof.Rows L2 Bx TL Dx
def ItL (K : PySem.W.Frag) (a : Addr) (k : Int) : It :=
  ⟨fun i H => ∃ (xs : List V) (x : V), SqL K H a xs ∧ xs[i]? = some x, fun i H v H' => ∃ T x, v = .ref T ∧ H T = none ∧ H' = upd H T (.tup [.int (k + (i : Nat)), x]) ∧ ∀ xs, SqL K H a xs → xs[i]? = some x, fun i H => ∃ xs : List V, SqL K H a xs ∧ xs.length = i⟩
theorem turn_L {P : Program} {w : World} {K : PySem.W.Frag} {elts : List Expr} {kk : Nat} {tpos : Pos} (k : Int) (a e it : Addr) (nai : a ≠ it) (nea : e ≠ a) (nei : e ≠ it) :
    Turn P w K (.Tuple elts kk tpos) (ItL K a k) [e, it] e (fun i h => (∃ old, IsEnum h e it (k + (i : Nat)) old) ∧ h.IsListIter it a i) where
  mem := by simp
  obj := fun i h st b hb => by
    obtain ⟨⟨old, he⟩, ⟨o, ho, hc, hd⟩⟩ := st
    have e' : b = e ∨ b = it := by simpa using hb
    rcases e' with z | z
    · rw [z]; exact ⟨_, he, fun v q => nomatch q⟩
    · rw [z]; exact ⟨o, ho, fun v q => by rw [hd] at q; cases q⟩
  keep := fun i h h' st k => let ⟨⟨old, he⟩, hi⟩ := st; ⟨⟨old, k e (by simp) _ he⟩, hi.at fun o q => k it (by simp) o q⟩
  item := by
    intro X hP hw hK hc i pins s σ H E I hf st hg
    subst hP hw hK
    obtain ⟨⟨old, he⟩, hit⟩ := st
    obtain ⟨xs, x, hq, hx⟩ := hg
    obtain ⟨its, rv, p, hz⟩ := I.list hq
    obtain ⟨u, hu, ru⟩ := rv.get hx
    have hel : e < s.heap.objs.size := Heap.lt_size he
    have hil : it < s.heap.objs.size := by obtain ⟨_, q, _⟩ := hit; exact Heap.lt_size q
    have hlt : i < its.toArray.size := by
      have := (List.getElem?_eq_some_iff.mp hu).1
      simpa using this
    have hh : X.A.in1.handled = none := I.ok.hd hc
    refine wpAny_pyNext_enum_itemC (Draws.list hh it a nai its.toArray) he ⟨hit, p.isList⟩ hlt nei (by simp [nei, nea]) fun y h' tk hy ho st' hT hsz hk => ?_
    have ey : y = u := by
      have z : its.toArray[i]? = some u := by simpa using hu
      exact Option.some.inj ((show its.toArray[i]? = some y from hy).symm.trans z)
    subst ey
    refine ⟨_, rfl, wpAny_letOwnedTupleGo_enum (s := { s with heap := h', toks := tk + 1 }) ho fun h'' he' sb => ?_⟩
    have hT2 : h''.get? s.heap.objs.size = some { cls := .type "tuple", data := .seq #[.int (k + (i : Nat)) tk, y] } := (sb.2 _ (Nat.ne_of_gt hel)).trans hT
    have new : ObjOk X.prog X.w (upd H s.heap.objs.size (.tup [.int (k + (i : Nat)), x])) h'' s.heap.objs.size (.tup [.int (k + (i : Nat)), x]) :=
      ⟨by show 2 ≤ sizeLine; decide, [.int (k + (i : Nat)) tk, y], .cons ⟨_, rfl⟩ (.cons ru .nil), ⟨_, hT2, rfl, _, rfl⟩⟩
    have I1 : Inv X pins σ (upd H s.heap.objs.size (.tup [.int (k + (i : Nat)), x])) { s with heap := h'', toks := tk + 1 } :=
      I.turnedNew (ch := [e, it]) (fun b ob hb q => (sb.2 b (fun z => hb (by simp [z]))).trans (hk b ob (fun z => hb (by simp [z])) (fun z => hb (by simp [z])) q)) hf (Nat.le_refl _) new
    refine ⟨.ref s.heap.objs.size, _, I1, rfl, ⟨_, x, rfl, I.hok.fresh (Nat.le_refl _), rfl, fun ys hy => by rw [I.list_inj hy hq]; exact hx⟩, ⟨⟨y, ?_⟩, st'.1.at fun o q => (sb.2 it (Ne.symm nei)).trans q⟩, fun b hb => ?_⟩
    · have e1 : k + ((i + 1 : Nat) : Int) = k + (i : Int) + 1 := by omega
      rw [e1]; exact he'
    · have hb' : b < s.heap.objs.size := by
        have e' : b = e ∨ b = it := by simpa using hb
        rcases e' with z | z
        · rw [z]; exact hel
        · rw [z]; exact hil
      rw [upd_ne (Nat.ne_of_lt hb')]
      exact (hf b hb).1
  done := by
    intro X hP hw hK hc i pins s σ H E I hf st hg
    subst hP hw hK
    obtain ⟨⟨old, he⟩, hit⟩ := st
    obtain ⟨xs, hq, hx⟩ := hg
    obtain ⟨its, rv, p, hz⟩ := I.list hq
    obtain ⟨f0, f1, f2, f3, f4, f5⟩ := hf it (by simp)
    have hl := rv.length
    have hh : X.A.in1.handled = none := I.ok.hd hc
    have hn : its.toArray.size = i := by
      rw [← hx, hl]
      simp
    exact wpAny_pyNext_enum_endD (Draws.list hh it a nai its.toArray) he (by rw [hn]; exact ⟨hit, p.isList⟩) fun h' eb => ⟨rfl, I.turned (t' := s.toks) (fun b o hb q => eb b o hb q) f0 f1 f3 f4 f5⟩
  self := fun A i s Q E st h => let ⟨⟨_, he⟩, _⟩ := st; wpAny_pyIter_enum he h
theorem walk_L {K : PySem.W.Frag} {a : Addr} {k : Int} {xs : List V} : Walk (ItL K a k) xs.length (fun H => SqL K H a xs) (fun i H v H' => ∃ T x, v = .ref T ∧ H T = none ∧ H' = upd H T (.tup [.int (k + (i : Nat)), x]) ∧ xs[i]? = some x) where
  goes := fun i H hi h => ⟨xs, xs[i], h, by simp [hi]⟩
  stops := fun H h => ⟨xs, h, rfl⟩
  yields := fun i H x H' hi h y => let ⟨T, v, e1, e2, e3, e4⟩ := y; ⟨T, v, e1, e2, e3, e4 xs h⟩
def ItT (K : PySem.W.Frag) (a : Addr) (k : Int) : It :=
  ⟨fun i H => ∃ (xs : List V) (x : V), SqT K H a xs ∧ xs[i]? = some x, fun i H v H' => ∃ T x, v = .ref T ∧ H T = none ∧ H' = upd H T (.tup [.int (k + (i : Nat)), x]) ∧ ∀ xs, SqT K H a xs → xs[i]? = some x, fun i H => ∃ xs : List V, SqT K H a xs ∧ xs.length = i⟩
theorem turn_T {P : Program} {w : World} {K : PySem.W.Frag} {elts : List Expr} {kk : Nat} {tpos : Pos} (k : Int) (a e it : Addr) (nai : a ≠ it) (nea : e ≠ a) (nei : e ≠ it) :
    Turn P w K (.Tuple elts kk tpos) (ItT K a k) [e, it] e (fun i h => (∃ old, IsEnum h e it (k + (i : Nat)) old) ∧ h.IsTupleIter it a i) where
  mem := by simp
  obj := fun i h st b hb => by
    obtain ⟨⟨old, he⟩, ⟨o, ho, hc, hd⟩⟩ := st
    have e' : b = e ∨ b = it := by simpa using hb
    rcases e' with z | z
    · rw [z]; exact ⟨_, he, fun v q => nomatch q⟩
    · rw [z]; exact ⟨o, ho, fun v q => by rw [hd] at q; cases q⟩
  keep := fun i h h' st k => let ⟨⟨old, he⟩, hi⟩ := st; ⟨⟨old, k e (by simp) _ he⟩, hi.at fun o q => k it (by simp) o q⟩
  item := by
    intro X hP hw hK hc i pins s σ H E I hf st hg
    subst hP hw hK
    obtain ⟨⟨old, he⟩, hit⟩ := st
    obtain ⟨xs, x, hq, hx⟩ := hg
    obtain ⟨its, rv, p, hz⟩ := I.tuple hq
    obtain ⟨u, hu, ru⟩ := rv.get hx
    have hel : e < s.heap.objs.size := Heap.lt_size he
    have hil : it < s.heap.objs.size := by obtain ⟨_, q, _⟩ := hit; exact Heap.lt_size q
    have hlt : i < its.toArray.size := by
      have := (List.getElem?_eq_some_iff.mp hu).1
      simpa using this
    have hh : X.A.in1.handled = none := I.ok.hd hc
    refine wpAny_pyNext_enum_itemC (Draws.tuple hh it a nai its.toArray) he ⟨hit, (show s.heap.IsTuple a its.toArray from p)⟩ hlt nei (by simp [nei, nea]) fun y h' tk hy ho st' hT hsz hk => ?_
    have ey : y = u := by
      have z : its.toArray[i]? = some u := by simpa using hu
      exact Option.some.inj ((show its.toArray[i]? = some y from hy).symm.trans z)
    subst ey
    refine ⟨_, rfl, wpAny_letOwnedTupleGo_enum (s := { s with heap := h', toks := tk + 1 }) ho fun h'' he' sb => ?_⟩
    have hT2 : h''.get? s.heap.objs.size = some { cls := .type "tuple", data := .seq #[.int (k + (i : Nat)) tk, y] } := (sb.2 _ (Nat.ne_of_gt hel)).trans hT
    have new : ObjOk X.prog X.w (upd H s.heap.objs.size (.tup [.int (k + (i : Nat)), x])) h'' s.heap.objs.size (.tup [.int (k + (i : Nat)), x]) :=
      ⟨by show 2 ≤ sizeLine; decide, [.int (k + (i : Nat)) tk, y], .cons ⟨_, rfl⟩ (.cons ru .nil), ⟨_, hT2, rfl, _, rfl⟩⟩
    have I1 : Inv X pins σ (upd H s.heap.objs.size (.tup [.int (k + (i : Nat)), x])) { s with heap := h'', toks := tk + 1 } :=
      I.turnedNew (ch := [e, it]) (fun b ob hb q => (sb.2 b (fun z => hb (by simp [z]))).trans (hk b ob (fun z => hb (by simp [z])) (fun z => hb (by simp [z])) q)) hf (Nat.le_refl _) new
    refine ⟨.ref s.heap.objs.size, _, I1, rfl, ⟨_, x, rfl, I.hok.fresh (Nat.le_refl _), rfl, fun ys hy => by rw [I.tuple_inj hy hq]; exact hx⟩, ⟨⟨y, ?_⟩, st'.1.at fun o q => (sb.2 it (Ne.symm nei)).trans q⟩, fun b hb => ?_⟩
    · have e1 : k + ((i + 1 : Nat) : Int) = k + (i : Int) + 1 := by omega
      rw [e1]; exact he'
    · have hb' : b < s.heap.objs.size := by
        have e' : b = e ∨ b = it := by simpa using hb
        rcases e' with z | z
        · rw [z]; exact hel
        · rw [z]; exact hil
      rw [upd_ne (Nat.ne_of_lt hb')]
      exact (hf b hb).1
  done := by
    intro X hP hw hK hc i pins s σ H E I hf st hg
    subst hP hw hK
    obtain ⟨⟨old, he⟩, hit⟩ := st
    obtain ⟨xs, hq, hx⟩ := hg
    obtain ⟨its, rv, p, hz⟩ := I.tuple hq
    obtain ⟨f0, f1, f2, f3, f4, f5⟩ := hf it (by simp)
    have hl := rv.length
    have hh : X.A.in1.handled = none := I.ok.hd hc
    have hn : its.toArray.size = i := by
      rw [← hx, hl]
      simp
    exact wpAny_pyNext_enum_endD (Draws.tuple hh it a nai its.toArray) he (by rw [hn]; exact ⟨hit, (show s.heap.IsTuple a its.toArray from p)⟩) fun h' eb => ⟨rfl, I.turned (t' := s.toks) (fun b o hb q => eb b o hb q) f0 f1 f3 f4 f5⟩
  self := fun A i s Q E st h => let ⟨⟨_, he⟩, _⟩ := st; wpAny_pyIter_enum he h
theorem walk_T {K : PySem.W.Frag} {a : Addr} {k : Int} {xs : List V} : Walk (ItT K a k) xs.length (fun H => SqT K H a xs) (fun i H v H' => ∃ T x, v = .ref T ∧ H T = none ∧ H' = upd H T (.tup [.int (k + (i : Nat)), x]) ∧ xs[i]? = some x) where
  goes := fun i H hi h => ⟨xs, xs[i], h, by simp [hi]⟩
  stops := fun H h => ⟨xs, h, rfl⟩
  yields := fun i H x H' hi h y => let ⟨T, v, e1, e2, e3, e4⟩ := y; ⟨T, v, e1, e2, e3, e4 xs h⟩
theorem callWith_typeKw {M : Model} {A : Around} {E : Value → Shared → Prop} {s : Shared} {pos : Pos} {T : String} {first : List Value} {args : List (Bool × Sem Value)} {keywords : List (Option Str × Sem Value)} {Q : Value → Shared → Prop}
    (hplain : args.any (·.1) = false) (hkw : keywords.any (·.1.isNone) = false)
    (h : wpAny M A (evalArgs (.type T) true args keywords) (fun a s₁ => wpAny M A (call (.type T) (first ++ a.pos) a.kw) Q E s₁) E s) :
    wpAny M A (callWith pos (.type T) first args keywords) Q E s := by
  unfold callWith
  refine wpAny_bind (wpAny_holding (wpAny_mono h (fun a s₁ h₁ => wpAny_bind (wpAny_standAt ?_)) fun _ _ x => x))
  simp only [hplain, hkw, Bool.or_false]
  refine wpAny_bind (wpAny_pure ?_)
  exact wpAny_bind (wpAny_mono h₁ (fun r s₂ hr => wpAny_bind (wpAny_holding (wpAny_point (wpAny_pure hr)))) fun _ _ x => x)
/-- a list or a tuple -/
def EnCase (K : PySem.W.Frag) (a : Addr) (k : Int) (H : Hp) (R : It → Hp → Prop) : Prop := ((∃ xs, SqL K H a xs) ∧ R (ItL K a k) H) ∨ ((∃ xs, SqT K H a xs) ∧ R (ItT K a k) H)
def iEnS (K : PySem.W.Frag) (ta tk : TA) : TI := fun σ H R => ta σ H fun vs H1 => tk σ H1 fun zs H2 => ∃ (a : Addr) (k : Int), vs = [.ref a] ∧ zs = [.int k] ∧ -(2 ^ 63) ≤ k ∧ k < 2 ^ 63 ∧ EnCase K a k H2 R
theorem pi_enS {X : Cx} {e : Expr} {ta tk : TA} {p pos tpos : Pos} {elts : List Expr} {kk : Nat} {kws : List Keyword} (hg : Gl X "enumerate") (hm : X.mg "enumerate" = none) (ha : PA X [e] ta) (hkw : PK X kws tk) (hall : (backToKw pos (keywordEach kws X.env)).all (·.1.isSome) = true := by rfl)
    (hks : (backToKw pos (keywordEach kws X.env)).filterMap (·.1) = [(("start" : Str))] := by rfl) (he : starEach [e] X.env = (false, eval e X.env) :: starEach [] X.env := by rfl)
    (hpl : (backTo pos (starEach [e] X.env)).any (·.1) = false := by rfl) (hkn : (backToKw pos (keywordEach kws X.env)).any (·.1.isNone) = false := by rfl) :
    PI X (.Tuple elts kk tpos) (.Call (.Name "enumerate" p) [e] kws pos) (iEnS X.K ta tk) := by
  refine ⟨fun pins s σ H R I h => ?_⟩
  refine wpAny_Call_Name_kw (ld_blt I hg hm boot_enumerate ?_)
  refine callWith_typeKw hpl hkn ?_
  have run := ha.run pos pins s σ H _ I h
  obtain ⟨x, rest, hx⟩ : ∃ x rest, backTo pos (starEach [e] X.env) = (false, x) :: rest := ⟨_, _, by rw [he]; rfl⟩
  rw [hx] at run ⊢
  refine evalArgs_kwB hall (thn run fun us s1 ⟨vs, H1, I1, r1, q⟩ => ?_)
  refine thn (hkw.run pos pins s1 σ H1 _ I1 q) fun ws s2 ⟨zs, H2, I2, rz, a, k, ev, ez, k0, k1, q2⟩ => ?_
  rw [hks]
  subst ev ez
  cases r1 with
  | cons r rr =>
    cases rr
    cases r
    cases rz with
    | cons rk rr2 =>
      cases rr2
      obtain ⟨tk', rfl⟩ := rk
      show wpAny _ _ (call (.type "enumerate") [.ref a] [((("start" : Str)), .int k tk')]) _ _ _
      have hle : s2.heap.objs.size ≤ s2.heap.objs.size := Nat.le_refl _
      have fp : ∀ b, b = s2.heap.objs.size + 1 ∨ b = s2.heap.objs.size → FpOk X pins H2 b := fun b e' => by
        have hle : s2.heap.objs.size ≤ b := by
          rcases e' with z | z
          · rw [z]; exact Nat.le_add_right _ _
          · rw [z]; exact Nat.le_refl _
        exact I2.fpOk hle (I2.hok.fresh hle)
      rcases q2 with ⟨⟨xs, hq⟩, q2⟩ | ⟨⟨xs, hq⟩, q2⟩
      · obtain ⟨its, rv, p', hz⟩ := I2.list hq
        have ha : a < s2.heap.objs.size := by
          obtain ⟨o, ho, _⟩ := p'.isList
          exact Heap.lt_size ho
        refine enum_begins_start (begins_list a its.toArray) p'.isList k0 k1 fun h' hen hit hsz hk => wpAny_pyIter_enum hen ?_
        have I3 : Inv X pins σ H2 { s2 with heap := h' } := I2.kept (t' := s2.toks) hk
        exact ⟨s2.heap.objs.size + 1, [s2.heap.objs.size + 1, s2.heap.objs.size], _, _, H2, rfl, I3, turn_L k a (s2.heap.objs.size + 1) s2.heap.objs.size (Nat.ne_of_lt ha) (Nat.ne_of_gt (Nat.lt_succ_of_lt ha)) (Nat.succ_ne_self _), ⟨⟨.none, by rw [show k + ((0 : Nat) : Int) = k by omega]; exact hen⟩, ⟨_, hit, rfl, rfl⟩⟩, fun b hb => fp b (by simpa using hb), q2⟩
      · obtain ⟨its, rv, p', hz⟩ := I2.tuple hq
        have p2 : s2.heap.IsTuple a its.toArray := p'
        have ha : a < s2.heap.objs.size := by
          obtain ⟨o, ho, _⟩ := p2
          exact Heap.lt_size ho
        refine enum_begins_start (begins_tuple a its.toArray) p2 k0 k1 fun h' hen hit hsz hk => wpAny_pyIter_enum hen ?_
        have I3 : Inv X pins σ H2 { s2 with heap := h' } := I2.kept (t' := s2.toks) hk
        exact ⟨s2.heap.objs.size + 1, [s2.heap.objs.size + 1, s2.heap.objs.size], _, _, H2, rfl, I3, turn_T k a (s2.heap.objs.size + 1) s2.heap.objs.size (Nat.ne_of_lt ha) (Nat.ne_of_gt (Nat.lt_succ_of_lt ha)) (Nat.succ_ne_self _), ⟨⟨.none, by rw [show k + ((0 : Nat) : Int) = k by omega]; exact hen⟩, ⟨_, hit, rfl, rfl⟩⟩, fun b hb => fp b (by simpa using hb), q2⟩
/-- what such a walk gives at turn i -/
def YEn (k : Int) (xs : List V) : Nat → Hp → V → Hp → Prop := fun i H v H' => ∃ T x, v = .ref T ∧ H T = none ∧ H' = upd H T (.tup [.int (k + (i : Nat)), x]) ∧ xs[i]? = some x
theorem en_case {K : PySem.W.Frag} {H : Hp} {a : Addr} {k : Int} {xs : List V} {R : It → Hp → Prop} (h : SqL K H a xs ∨ SqT K H a xs) (c : ∀ (J : It) (G : Hp → Prop), Walk J xs.length G (YEn k xs) → (∀ H', Same H H' → G H') → R J H) :
    EnCase K a k H R := by
  rcases h with h | h
  · exact .inl ⟨⟨_, h⟩, c _ _ walk_L fun H' s => s.seq h⟩
  · exact .inr ⟨⟨_, h⟩, c _ _ walk_T fun H' s => Bx.Same.tup s h⟩
end En
/-! {n:>{w}}: an int in a field of a width that is worked out. -/
namespace Fm
open PySem PySem.Spec PyProof.Rows L2 Bx TL Dx
theorem pe_fmtW {X : Cx} {e spec : Expr} {te ts : TE} {pos : Pos} (hnd : X.base.NoDigits) (he : PE X e te) (hs : PE X spec ts) :
    PE X (.FormattedValue e (-1) (some spec) pos) (fun σ H Q => te σ H fun x H1 => ts σ H1 fun y H2 => ∃ (i : Int) (sp : Str), x = .int i ∧ y = .str sp ∧ intSpecOk sp = true ∧ i.natAbs < 10 ^ 4300 ∧ sp.length ≤ sizeLine ∧ Q (.str (intSpecTextOf sp i)) H2) := by
  refine ⟨fun pins s σ H Q I h => ?_⟩
  refine wpAny_FormattedValue_spec (thn (he.run pins s σ H _ I h) fun v s1 ⟨x, H1, I1, r1, q1⟩ => thn (hs.run pins s1 σ H1 _ I1 q1) fun u s2 ⟨y, H2, I2, r2, i, sp, ex, ey, ok, hi, hl, q⟩ => ?_)
  subst ex ey
  obtain ⟨t, rfl⟩ := r1
  obtain ⟨t', rfl⟩ := r2
  exact ⟨sp, t', rfl, formatField_int_specOf (hnd.keeps I2.bk) hi ok (fun W hW F => ⟨.str _, H2, I2.tok _, ⟨_, rfl⟩, q⟩) hl⟩
def widS (w : Nat) : Str := Str.empty ++ Str.ofString ">" ++ Str.ofString (toString (w : Int))
theorem wid_ok {w : Nat} (h0 : 1 ≤ w) (h1 : w ≤ 5) : intSpecOk (widS w) = true := by
  have h : w = 1 ∨ w = 2 ∨ w = 3 ∨ w = 4 ∨ w = 5 := by omega
  rcases h with rfl | rfl | rfl | rfl | rfl <;> decide +kernel
theorem wid_parse {w : Nat} (h0 : 1 ≤ w) (h1 : w ≤ 5) : ∃ f : Builtin.Float.FormatSpec, Builtin.Float.parseFormatSpec (widS w).cps.toList "int" 62 = .ok f ∧ f.fill = 32 ∧ f.align = 62 ∧ f.width = some w ∧ f.sign = none ∧ f.grouping = none := by
  have h : w = 1 ∨ w = 2 ∨ w = 3 ∨ w = 4 ∨ w = 5 := by omega
  rcases h with rfl | rfl | rfl | rfl | rfl <;> exact ⟨_, rfl, rfl, rfl, rfl, rfl, rfl⟩
theorem wid_text {w : Nat} {a : Int} (h0 : 1 ≤ w) (h1 : w ≤ 5) (ha : 0 ≤ a) : tl (intSpecTextOf (widS w) a) = List.replicate (w - (Str.ofString (toString a)).length) 32 ++ tl (Str.ofString (toString a)) := by
  obtain ⟨f, hp, hf, hal, hw, hs, hg⟩ := wid_parse h0 h1
  unfold intSpecTextOf
  rw [hp]
  show tl (intSpecText f a) = _
  unfold intSpecText
  obtain ⟨m, rfl⟩ := Int.eq_ofNat_of_zero_le ha
  have ht := text_ofNat m
  have hd : ((Nat.toDigits 10 (m : Int).natAbs).map fun c => (if (100 : Nat) == 88 then c.toUpper else c).toNat).isEmpty = false := by
    have := tDigits_len_ge 10 (m : Int).natAbs
    cases h : Nat.toDigits 10 (m : Int).natAbs with
    | nil => rw [h] at this; simp at this
    | cons _ _ => rfl
  have hneg : decide ((m : Int) < 0) = false := decide_eq_false (by omega)
  rw [hneg]
  have e1 : tl (Str.ofString (toString (m : Int))) = (Nat.toDigits 10 (m : Int).natAbs).map fun c => (if (100 : Nat) == 88 then c.toUpper else c).toNat := by
    show tl (Str.ofString (toString (Int.ofNat m))) = _
    rw [ht]
    rfl
  rw [len_tl, e1]
  generalize ((Nat.toDigits 10 (m : Int).natAbs).map fun c => (if (100 : Nat) == 88 then c.toUpper else c).toNat) = D at hd
  unfold intField'
  have key : ∀ n : Nat, ((w : Int) - (n : Int)).toNat = w - n := fun n => by omega
  show Array.toList (Str.cps _) = _
  simp [hf, hal, hw, hs, hg, hd, key]
end Fm
/-! An own exception's __init__ that begins with super().__init__(e), over ValueError. -/
namespace Sup
open PySem PySem.Spec PyProof.Rows L2 NdefX
abbrev vei : String := "ValueError.__init__"
def mwO (u a : Addr) : HO := .ext fun h => h.get? u = some (PySem.W.kxs_mw vei a)
theorem mwO_ok {P : Program} {w : World} {H : Hp} {h : Heap} {u a : Addr} (e : h.get? u = some (PySem.W.kxs_mw vei a)) : ObjOk P w H h u (mwO u a) := ⟨e, ⟨_, e⟩, fun h1 h2 z k => k _ z⟩
theorem mwO_at {P : Program} {w : World} {H : Hp} {h : Heap} {u a : Addr} (hok : HOk P w H h) (e : H u = some (mwO u a)) : h.get? u = some (PySem.W.kxs_mw vei a) := by
  have x : ObjOk P w H h u (.ext fun h => h.get? u = some (PySem.W.kxs_mw vei a)) := hok u _ e
  exact x.1
/-- what the written part says of a def that says super() -/
structure SupF (P : Program) (K : PySem.W.Frag) (mg : Str → Option Value) (env : Env) (sn : Str) (D : Addr) : Prop where
  ks : env.kindOf "super" = some .globalImplicit
  kc : env.kindOf "__class__" = some .free
  fn : ∃ (f : Addr) (oc : Value) (od : Option Addr) (fd : FuncData) (osl : Array (Option Value)) (ar : Arg), env.func = some f ∧ K.lookup f = some ⟨oc, od, .func fd, osl⟩ ∧ (fd.params.posonlyargs ++ fd.params.args).head? = some ar ∧ ar.arg = sn
  co : ∃ (cda : Addr) (ccl : Value) (cdd : Option Addr) (vs : Array Value) (ccs : Array (Option Value)) (file : Str) (tf : Tok), env.code = .ref cda ∧ K.lookup cda = some ⟨ccl, cdd, .fields vs, ccs⟩ ∧ vs[2]? = some (.str file tf) ∧ ((P.main.file : Str) == file) = true
  top : (P.main.scope.names.lookup ("super" : Str)).isSome = false
  ce : ∃ (cc : Addr) (cl : Value) (cld : Option Addr) (csl : Array (Option Value)), env.cells.lookup ("__class__" : Str) = some cc ∧ K.lookup cc = some ⟨cl, cld, .cell (some (.ref D)), csl⟩
  mg : mg "super" = none
  any : PySem.W.nsIn K cStatics "thirdparty.any" = some none
  it : interactive env = false
  ka : env.kindOf sn = some .local
/-- .. and of the class of the object -/
structure SupC (K : PySem.W.Frag) (C D : Addr) : Prop where
  cls : ∃ cd, PySem.W.clsIn K D = some cd
  sub : PySem.W.mroIn K C (.ref D) = some true
  sup : PySem.W.ks_superIn K C D "__init__" = some (some (.builtin vei))
  ve : PySem.W.subIn K (.ref C) (.type "ValueError") = some true
  exc : OexC K C
section
variable {X : Cx} {pins : List (Addr × Obj)} {σ : List (Option V)} {H : Hp} {s : Shared} {self : Str} {D a C : Addr} {body : List Stmt} {p0 p1 p2 pos pos' : Pos} {e : Expr} {te : TE}
theorem ld_super {E : Value → Shared → Prop} {Q : Value → Shared → Prop} (I : Inv X pins σ H s) (S : SupF X.prog X.K X.mg X.env self D) (h : Q (.type "super") s) : wpAny (model X.prog X.w) X.A (loadName X.env "super") Q E s := by
  obtain ⟨mb, h1, h2⟩ := I.mod.blt
  exact PySem.W.ks_loadName_global I.ok.kind S.ks (Calls.loadGlobal_builtin (by rw [I.ok.glob]; exact I.mod.glob.keeps I.bk) S.mg (by rw [I.ok.blt]; exact h1.keeps I.bk) ((h2 _ (by decide)).trans (by rfl)) h)
theorem self_at (I : Inv X pins σ H s) {u : V} (h1 : X.N[0]? = some self) (h2 : σ[0]? = some (some u)) (hk : X.env.kindOf self = some .local) : ∃ m v, s.heap.Ns X.env.locals m ∧ m self = some v ∧ RelV u v := by
  obtain ⟨m, hn, hl⟩ := I.loc
  obtain ⟨v, r, k⟩ := hl 0 self u h1 h2 (.inl hk)
  rcases k with ⟨_, k⟩ | ⟨k, _⟩
  · exact ⟨m, v, hn, k, r⟩
  · rcases k with k | k <;> · rw [hk] at k; cases k
theorem exo_inst {C a : Addr} (T : OexC X.K C) (I : Inv X pins σ H s) (e : H a = some (exo a C none)) : ∃ t1 : Addr, PySem.W.InstAt s.heap a { cls := .ref C, dict := none, data := .fields #[.ref t1, .none, .none, .none, .bool false, .none] } C none := by
  obtain ⟨t1, ho⟩ := exo_at I.hok e
  exact ⟨t1, ho, rfl, rfl, trivial⟩
/-- the wrapper called -/
theorem call_mw {u : Addr} {us : List Value} {Q : Value → Shared → Prop} {E : Value → Shared → Prop} {A : Around} (T : OexC X.K C) (I : Inv X pins σ H s) (eu : H u = some (mwO u a)) (ea : H a = some (exo a C none)) (hl : us.length ≤ sizeLine) (h : ∀ s', Inv X pins σ H s' → Q .none s') :
    wpAny (model X.prog X.w) A (call (.ref u) us) Q E s := by
  obtain ⟨nm, q, N, bs, bm, sn, sub, ab, col, dd, k0, k1, k2, k3, k5, hC, hbm⟩ := T.cls
  obtain ⟨t1, ho⟩ := exo_at I.hok ea
  have hu := mwO_at I.hok eu
  have hCh := I.kIn _ _ hC
  have FB := F.excBase_ValueError
  obtain ⟨hp, g, d, t, os⟩ := s
  refine wpAny_call (codeAny_of_tree ?_)
  show wpAny _ A.in1 (callAny (.ref u) ⟨us, []⟩) _ _ _
  simp only [callAny]
  refine wpAny_bind (wpAny_load hu ?_)
  simp only [PySem.W.kxs_mw, show (Value.type "method-wrapper" == Value.type "method" || Value.type "method-wrapper" == Value.type "builtin_function_or_method" || Value.type "method-wrapper" == Value.type "method-wrapper") = true by decide, if_true]
  refine PySem.W.KFB.if_so (by decide) ?_
  refine wpAny_bind (PySem.W.check_bound_init FB.toExcCallFacts hCh ho rfl ?_)
  refine wpAny_bind (wpAny_pure (wpAny_pure ?_))
  refine ⟨plainId_quiet FB.init.plain _, codeAny_builtin FB.initEntry ?_⟩
  refine PySem.W.exc_init_tree (cls := .ref C) (t0 := t1) (dv := none) (c2 := .none) (c3 := .none) (b4 := .bool false) ho hl fun h' k hx _ => ?_
  have J := I.write (t' := t) (x := a) (e := a) (o := exo a C none) (by rw [ea]; exact True.intro) (.inl rfl) k ⟨_, hx⟩ (exo_ok hx)
  have eu2 : upd H a (exo a C none) = H := by
    funext b
    by_cases hb : b = a
    · rw [hb, upd_same, ea]
    · rw [upd_ne hb]
  rw [eu2] at J
  exact h _ J
theorem sup_stmt {es : List Expr} {pl : Sem Bool} {ta : TA} {G : Hp → Prop} {Q : Flow → Shared → Prop} (I : Inv X pins σ H s) (S : SupF X.prog X.K X.mg X.env self D) (T : SupC X.K C D) (hN : X.N[0]? = some self) (h0 : σ[0]? = some (some (.ref a))) (ea : H a = some (exo a C none)) (ha : PA X (e :: es) ta)
    (h : ∀ u, H u = none → ta σ (upd H u (mwO u a)) fun vs H2 => vs.length ≤ 1000 ∧ H2 u = some (mwO u a) ∧ H2 a = some (exo a C none) ∧ G H2) (hq : ∀ H2 s', Inv X pins σ H2 s' → G H2 → Q .next s')
    (hev : eval (.Call (.Attribute (.Call (.Name "super" p0) [] [] p1) "__init__" p2) (e :: es) [] pos) X.env = (do
      let ov ← attributeBase (.Call (.Name "super" p0) [] [] p1) "__init__" X.env (eval (.Call (.Name "super" p0) [] [] p1) X.env)
      standAt p2.atName
      let (f, first) ← holding [ov] (getMethod ov "__init__" pl)
      callWith pos f first (backTo pos (starEach (e :: es) X.env)) []) := by rfl)
    (he : starEach (e :: es) X.env = (false, eval e X.env) :: starEach es X.env := by rfl) (hpl : (backTo pos (starEach es X.env)).any (·.1) = false := by rfl) :
    _root_.PySem.wpAt (model X.prog X.w) X.A (.func body X.env) (exec (.Expr (.Call (.Attribute (.Call (.Name "super" p0) [] [] p1) "__init__" p2) (e :: es) [] pos) pos') X.env) Q X.xe s := by
  refine ks_wpAt_Expr_any ?_ S.it
  refine ks_wpAt_MethodCall ?_ hev
  obtain ⟨f, oc, od, fd, osl, ar, hfu, lf, hp, har⟩ := S.fn
  obtain ⟨cda, ccl, cdd, vs, ccs, file, tf, hco, lc, hvs, hfile⟩ := S.co
  obtain ⟨cc, cl, cld, csl, hcl, lcc⟩ := S.ce
  obtain ⟨m, v, hn, hv, rv⟩ := self_at I hN h0 S.ka
  obtain rfl : v = Value.ref a := rv
  obtain ⟨t1, inst⟩ := exo_inst T.exc I ea
  obtain ⟨cdD, hD⟩ := T.cls
  have XK := I.kIn
  obtain ⟨oD, hD1, hD2⟩ : ∃ oD, s.heap.get? D = some oD ∧ oD.data = .cls cdD := by
    unfold PySem.W.clsIn at hD
    split at hD
    · rename_i c d cd' sl ho
      cases hD
      exact ⟨_, XK _ _ ho, rfl⟩
    · cases hD
  refine ks_wpAt_super_base S.ks S.kc (by decide) hfu (XK _ _ lf) rfl hp hco (XK _ _ lc) rfl hvs hfile S.top ?_
  refine ld_super I S ⟨rfl, ?_⟩
  refine wpAny_loadName_free I.ok.kind S.kc hcl ⟨_, XK _ _ lcc, rfl⟩ ?_
  refine wpAny_loadName_local I.ok.kind (har ▸ S.ka) hn (har ▸ hv) ?_
  refine ks_wpAny_isType_cls hD1 hD2 ⟨rfl, ?_⟩
  obtain ⟨hp0, g, d, t, os⟩ := s
  refine ks_wpAny_call_super hD1 hD2 inst.at_ rfl (fun c e => by cases e) (PySem.W.looks_mroIn XK T.sub) fun h' eso k => ?_
  have I2 : Inv X pins σ H ⟨h', g, d, t, os⟩ := I.kept (t' := t) k
  have XK2 := I2.kIn
  have sup := T.sup
  unfold PySem.W.ks_superIn at sup
  cases hc : PySem.W.clsIn X.K C with
  | none =>
    rw [hc] at sup
    cases sup
  | some cd =>
    rw [hc] at sup
    obtain ⟨t2, inst2⟩ := exo_inst T.exc I2 ea
    refine PySem.W.kxs_getMethod PySem.W.kxs_ValueError eso (PySem.W.looks_opaque XK2 S.any) (l₀ := cd.mro) ?_ rfl XK2 sup (inst2.type.andThen (PySem.W.looks_subIn XK2 T.ve)) (PySem.W.ks_ne XK2 inst2 hc) (by decide) ?_
    · exact fun A Q E s k q => wpAny_bind ((PySem.W.looks_clsIn XK2 hc) A _ E s k (wpAny_pure q))
    · have hnu : H h'.objs.size = none := I2.hok.fresh (Nat.le_refl _)
      have gu : (h'.push (PySem.W.kxs_mw vei a)).get? h'.objs.size = some (PySem.W.kxs_mw vei a) := Heap.get?_push_at rfl rfl
      have I3 : Inv X pins σ (upd H h'.objs.size (mwO h'.objs.size a)) ⟨h'.push (PySem.W.kxs_mw vei a), g, d, t + 1, os⟩ :=
        I2.laid (t' := t + 1) (fun b o e => Heap.get?_push_of_some _ e) (Nat.le_refl _) (mwO_ok gu)
      show wpAny _ _ (callWith pos (.ref h'.objs.size) [] (backTo pos (starEach (e :: es) X.env)) []) _ _ _
      have run := ha.run pos pins _ σ _ _ I3 (h _ hnu)
      rw [he] at run ⊢
      refine PySem.W.kxs_callWith (i := vei) (x := a) (by show (false || (backTo pos (starEach es X.env)).any (·.1)) = false; rw [hpl]; rfl) ?_
      refine Calls.evalArgs_plain (thn run fun us s1 ⟨vs, H1, I1, r1, hz, eu, ea1, hG⟩ => ⟨mwO_at I1.hok eu, ?_⟩)
      exact call_mw T.exc I1 eu ea1 (by show us.length ≤ _; rw [← Paired.length r1, sizeLine_eq]; omega) fun s' J => hq H1 s' J hG
end
section
variable {CX : CXT} {P : Program} {w : World} {K : PySem.W.Frag} {mg : Str → Option Value} {base : Heap} {k : Nat} {F : NF} {f cc D : Addr} {kV doc pm ct oc : Value} {an od : Option Addr} {osl : Array (Option Value)} {N ps : List Str} {sp : Sp} {self : Str} {e : Expr} {es : List Expr} {p0 p1 p2 pos pos' : Pos} {rest : List Stmt} {pl : Sem Bool}
theorem fn_sup (lk : K.lookup f = some ⟨oc, od, .func (PySem.W.fnX F.name F.qual F.params F.body F.scope F.cl .none kV doc pm an (.ref F.c) ct), osl⟩) (hcd : PySem.W.codeIn K (.ref F.c) F.qual = true) (hcl : F.cl = [(("__class__" : Str), cc)])
    (hcc : ∃ cl cld csl, K.lookup cc = some ⟨cl, cld, .cell (some (.ref D)), csl⟩) (S : NScope N ps ["__class__"] F.scope) (hF : ∀ L, SupF P K mg (envF F f L) self D) (hN : N[0]? = some self)
    (hbd : F.body = .Expr (.Call (.Attribute (.Call (.Name "super" p0) [] [] p1) "__init__" p2) (e :: es) [] pos) pos' :: rest)
    (len : ∀ vs H Q E, sp vs H Q E → vs.length = ps.length)
    (hbody : ∀ (A : Around) (outer : List Env) (s : Shared) (H : Hp) (vs : List V) (Q : VK) (E : XK), Room k (A.deeper (envF F f s.heap.objs.size)) → sp vs H Q E →
      ∃ (a C : Addr) (ta : TA) (t : TS), SupC K C D ∧ (startF N vs [none])[0]? = some (some (.ref a)) ∧ H a = some (exo a C none) ∧ PA (ncx CX P w K mg base N F f A outer s H E) (e :: es) ta ∧ PSs (ncx CX P w K mg base N F f A outer s H E) rest t ∧
        ∀ u, H u = none → ta (startF N vs [none]) (upd H u (mwO u a)) fun vs' H2 => vs'.length ≤ 1000 ∧ H2 u = some (mwO u a) ∧ H2 a = some (exo a C none) ∧ t { nx := fun _ H' => Q .non H', rt := Q } (startF N vs [none]) H2)
    (hev : ∀ L, eval (.Call (.Attribute (.Call (.Name "super" p0) [] [] p1) "__init__" p2) (e :: es) [] pos) (envF F f L) = (do
      let ov ← attributeBase (.Call (.Name "super" p0) [] [] p1) "__init__" (envF F f L) (eval (.Call (.Name "super" p0) [] [] p1) (envF F f L))
      standAt p2.atName
      let (g, first) ← holding [ov] (getMethod ov "__init__" pl)
      callWith pos g first (backTo pos (starEach (e :: es) (envF F f L))) []) := by intro L; rfl)
    (he : ∀ L, starEach (e :: es) (envF F f L) = (false, eval e (envF F f L)) :: starEach es (envF F f L) := by intro L; rfl) (hpl : ∀ L, (backTo pos (starEach es (envF F f L))).any (·.1) = false := by intro L; rfl) :
    FnOk P w K mg base CX (k + 1) f (PySem.W.fnX F.name F.qual F.params F.body F.scope F.cl .none kV doc pm an (.ref F.c) ct) ps sp := by
  refine ⟨len, fun A outer s H args us vs Q E hr e0 hb r hsp => ?_⟩
  have hl := len _ _ _ _ hsp
  have KX : K.In s.heap := e0.mod.kin.keeps fun b o e => (e0.bs b o e).1
  have lim : s.heap.NoLimit := e0.mod.nolimit.keeps fun b o e => (e0.bs b o e).1
  obtain ⟨cl, cld, csl, hcc⟩ := hcc
  have C : CellsAt F.cl ["__class__"] [none] s.heap H := by
    have one : ∀ {y : Str} {c : Addr}, F.cl.lookup y = some c → y = "__class__" ∧ c = cc := fun {y c} e => by
      rw [hcl] at e
      by_cases h : y = ("__class__" : Str)
      · subst h
        have e2 : some cc = some c := e
        exact ⟨rfl, (Option.some.inj e2).symm⟩
      · have h2 : (y == ("__class__" : Str)) = false := by simpa using h
        rw [List.lookup_cons, h2] at e
        cases e
    refine ⟨rfl, fun y c e => ?_, fun x y c e1 e2 => (one e1).1.trans (one e2).1.symm, fun i y hi => ?_⟩
    · rw [(one e).2]
      exact ⟨(e0.bs _ _ (e0.mod.kin _ _ hcc)).2, _, ⟨_, KX _ _ hcc, rfl⟩⟩
    · cases i with
      | zero =>
        have e : ("__class__" : Str) = y := Option.some.inj hi
        refine ⟨cc, by rw [hcl, ← e]; rfl, fun v hv => ?_⟩
        cases hv
      | succ i => cases hi
  refine ks_codeAny_call_defAt hr.depth (KX _ _ lk) rfl lim (PySem.W.codeRec_of KX hcd) rfl hb S.nocell (fun ⟨n, v⟩ hy => S.par n (List.of_mem_zip hy).1) (fun h₁ hns kp => ?_) S.co S.gen S.kind
  show _root_.PySem.wpAt (model P w) (A.deeper (envF F f s.heap.objs.size)) (.func F.body (envF F f s.heap.objs.size)) (execs F.body (envF F f s.heap.objs.size)) _ _ _
  obtain ⟨a, Ca, ta, t, hC, h0, ea, pa, ps', hq⟩ := hbody A outer s H vs Q E (hr.deeper _) hsp
  have I : Inv (ncx CX P w K mg base N F f A outer s H E) [] (startF N vs [none]) H { s with heap := h₁, toks := s.toks + (ps.zip us).length } := inv_startN S hr.hd e0 hl r C hns kp
  have fin : ∀ {s' : Shared} {σ' : L2.St} {H' : Hp} {v : V} {u : Value}, Inv (ncx CX P w K mg base N F f A outer s H E) [] σ' H' s' → L2.RelV v u → Q v H' → CE outer P w H s Q u s' :=
    fun {s' σ' H' v u} J rv q => ⟨v, H', J.os, J.bare, J.base, J.hok, rv, q⟩
  have main : ∀ (body : List Stmt), _root_.PySem.wpAt (model P w) (A.deeper (envF F f s.heap.objs.size)) (.func body (envF F f s.heap.objs.size)) (execs (.Expr (.Call (.Attribute (.Call (.Name "super" p0) [] [] p1) "__init__" p2) (e :: es) [] pos) pos' :: rest) (envF F f s.heap.objs.size))
      (fun fl s' => CR CX outer P w H s Q E (.ok (.ret (match fl with | .ret v => v | _ => .none))) s') (ncx CX P w K mg base N F f A outer s H E).xe { s with heap := h₁, toks := s.toks + (ps.zip us).length } := by
    intro body
    refine ks_wpAt_execs_cons ?_
    refine sup_stmt (X := ncx CX P w K mg base N F f A outer s H E) (body := body) (G := fun H2 => t { nx := fun _ H' => Q .non H', rt := Q } (startF N vs [none]) H2) I (hF _) hC hN h0 ea pa hq (fun H2 s' J hG => ?_) (hev _) (he _) (hpl _)
    refine wpAt_of_wpAny ?_
    refine wpAny_mono (ps'.run [] s' (startF N vs [none]) H2 _ J hG) (fun fl s' hs => ?_) fun e s' hs => hs
    cases fl with
    | ret u =>
      obtain ⟨v, σ', H', J, rv, q⟩ := hs
      exact fin J rv q
    | next =>
      obtain ⟨σ', H', J, q⟩ := hs
      exact fin (v := V.non) (u := Value.none) J rfl q
    | brk =>
      obtain ⟨_, _, _, q⟩ := hs
      exact False.elim q
    | cont =>
      obtain ⟨_, _, _, q⟩ := hs
      exact False.elim q
  have m2 := main F.body
  rw [← hbd] at m2
  exact m2
end
end Sup
/-! Own errors with one field, whose __init__ says super().__init__(f'..'). -/
namespace Er
open PySem PySem.Spec PyProof.Rows L2 Bx TL Dx Sup NdefX
/-- __init__(self, y): the error at a gets a dict with f = y -/
def spErr (ok : V → Prop) (C : Addr) (f : Str) : Sp := fun vs H Q _ => ∃ (a : Addr) (v : V), vs = [.ref a, v] ∧ ok v ∧ H a = some (exo a C none) ∧
  ∀ (d : Addr) (H' : Hp), (∀ b o, b ≠ a → H b = some o → H' b = some o) → H d = none → d ≠ a → H' a = some (exo a C (some d)) → H' d = some (exd d [(f, v)]) → Q .non H'
/-- the class at C, named x: an own error over ValueError with one field -/
structure Err (P : Program) (w : World) (K : PySem.W.Frag) (mg : Str → Option Value) (base : Heap) (x : Str) (C : Addr) (f y : Str) (ok : V → Prop) (k : Nat) : Prop where
  init : ∃ (fI : Addr) (fd : FuncData), PySem.W.findIn K (.ref C) "__init__" = some (some (.ref fI)) ∧ PySem.W.typeIn K (.ref fI) = some (.type "function") ∧ FnOk P w K mg base CX0 k fI fd ["self", y] (spErr ok C f) ∧ Binds K fd ["self", y] []
  exc : OexC K C
  g : mg x = some (.ref C)
  te : PySem.W.exmOne K (.ref C) (.ref C) = some true
  xf : XfC K C
  no : PySem.W.findIn K (.ref C) f = some none
section
variable {X : Cx} {x : Str} {C : Addr} {f y : Str} {ok : V → Prop} {k : Nat} {e : Expr} {te : TE} {p pos pos' : Pos} {W : WX}
theorem ps_raiseE (c : Err X.prog X.w X.K X.mg X.base x C f y ok k) (hc : X.calm = true) (tk : Takes X W) (hr : Room (k + 1) X.A) (he : PE X e te) (hg : Gl X x := by rfl) (hdb : (x == ("__debug__" : Str)) = false := by decide)
    (hst : starEach [e] X.env = (false, eval e X.env) :: starEach [] X.env := by rfl) (hpl : (backTo pos (starEach [] X.env)).any (·.1) = false := by rfl) :
    PS X (.Raise (some (.Call (.Name x p) [e] [] pos)) none pos') (fun _ σ H => te σ H fun v H1 => ok v ∧ ∀ d H3, Same H1 H3 → H1 d = none → H3 d = some (.xd [(f, v)]) → W (.ref C) (some d) σ H3) := by
  obtain ⟨fI, fd, iC, tI, F1, hb⟩ := c.init
  have he2 : PE X e (fun σ H Q => ∃ R : VK, te σ H R ∧ ∀ v H1, R v H1 → Q v H1) := ⟨fun pins s σ H Q I ⟨R, h, hR⟩ => thn (he.run pins s σ H R I h) fun v s1 ⟨x, H1, I1, r, q⟩ => ⟨x, H1, I1, r, hR _ _ q⟩⟩
  have z := ps_raise (pos := pos') hc tk (pmk_oex (pos := pos) (p := p) (dvs := []) c.exc iC tI F1 hr hb .nil (pass0) hg c.g (pa_cons he2 pa_nil hst) hdb hst hpl)
  refine ⟨fun pins s σ H D I h => z.run pins s σ H D I ?_⟩
  refine ⟨_, h, fun v H1 hq => ?_⟩
  obtain ⟨hok, hw⟩ := hq
  refine ⟨by show 1 ≤ 1000; decide, fun a na => ⟨a, v, rfl, hok, upd_same, fun d H' keep nd da ea ed => ?_⟩⟩
  have nd1 : H1 d = none := by
    rw [upd_ne da] at nd
    exact nd
  refine ⟨rfl, d, _, ea, ed, nd1, hw d _ (fun b o e => ?_) nd1 upd_same⟩
  have ba : b ≠ a := ne_of_none e na
  rw [upd_ne (ne_of_none e nd1), del_ne ba]
  exact keep b o ba (by rw [upd_ne ba]; exact e)
end
/-! ### isinstance of an error with a dict -/
def rIsD (K : PySem.W.Frag) (a : Addr) (cls : Value) (d : Option Addr) : List V → Hp → VK → Prop := fun xs H Q => ∃ (D dd : Addr) (c : V) (cv : Value) (b : Bool) (fs : List (Str × V)), xs = [.ref a, c] ∧ cls = .ref D ∧ d = some dd ∧ (PySem.W.clsIn K D).isSome = true ∧ ExcC K D ∧
  H dd = some (.xd fs) ∧ (∀ u, RelV c u → u = cv) ∧ PySem.W.kitOne K (.ref D) cv = some b ∧ Q (.bl b) H
theorem call_isD {X : Cx} {a : Addr} {cls : Value} {d : Option Addr} {oe : Obj} {pn : List (Addr × Obj)} (hz : Zc cls d oe) (hf : ∃ vs, oe.data = .fields vs) : CallR (X.suite a ((a, oe) :: pn)) (.builtin "isinstance") (rIsD X.K a cls d) := by
  intro pins s σ H xs us Q I r h
  obtain ⟨D, dd, c, cv, b, fs, rfl, rfl, rfl, hcl, C, hdd, hcv, e, q⟩ := h
  cases r with
  | cons rx rr =>
    cases rr with
    | cons rt rr =>
      cases rr
      cases rx
      have ec := hcv _ rt
      subst ec
      obtain ⟨hget, _⟩ := I.pin (a, oe) (List.mem_append.mpr (.inl List.mem_cons_self))
      obtain ⟨vs, hv⟩ := hf
      obtain ⟨oD, hD⟩ : ∃ o, s.heap.get? dd = some o := by
        obtain ⟨mA, hn, _⟩ := I.hok dd _ hdd
        obtain ⟨o, _, _, e, _⟩ := hn
        exact ⟨o, e⟩
      have J : PySem.W.InstAt s.heap a oe D (some oD) := by
        obtain ⟨oc, od, oda, osl⟩ := oe
        obtain ⟨h1, h2⟩ := hz
        dsimp only at h1 h2 hv
        subst h1 h2 hv
        exact ⟨hget, rfl, rfl, hD⟩
      exact PySem.W.kia_one (PySem.W.kitx_exc hcl C.hg C.hk C.hs C.ha C.hn C.ht C.hm) I.kIn J e (fun z => nomatch z) fun tk => ⟨.bl b, H, I.kept (t' := tk) fun _ _ z => z, rfl, q⟩
/-! ### calls of defs that may raise -/
section
variable {X : Cx} {CX : CXT} {k n : Nat} {f : Addr} {fd : FuncData} {ps ks : List Str} {sp : Sp} {E : L2.St → XK} {x : Str} {p pos : Pos} {e : Expr} {es : List Expr} {kws : List Keyword} {t tk : TA} {g : List Value → List Value → List Value} {gV : List V → List V → List V}
theorem run_fnNS {pins : List (Addr × Obj)} {σ : L2.St} {H : Hp} {s : Shared} {Q : VK} {us ws : List Value} {vs zs : List V} (F : FnOk X.prog X.w X.K X.mg X.base CX k f fd ps sp) (hr : Room k X.A) (hb : KBn X.K fd ps n ks g gV) (hx : PassesAt CX X σ (E σ))
    (I : Inv X pins σ H s) (r : Vals vs us) (rz : Vals zs ws) (l1 : vs.length = n) (l2 : zs.length = ks.length) (h : sp (gV vs zs) H Q (E σ)) : wpAny (model X.prog X.w) X.A (call (.ref f) us (ks.zip ws)) (EP X pins σ Q) X.xe s := by
  refine wpAny_call (codeAny_mono (F.run X.A X.stack s H ⟨us, ks.zip ws⟩ (g us ws) (gV vs zs) Q (E σ) hr I.env0 (hb.to s us ws I.kIn (by rw [← r.length]; exact l1) (by rw [← rz.length]; exact l2)) (hb.rel r rz) h) fun r s' hq => ?_)
  cases r with
  | error e => exact hx pins H s e s' I hq
  | ok fl =>
    cases fl with
    | ret u => exact I.after hq
    | next => exact False.elim hq
    | brk => exact False.elim hq
    | cont => exact False.elim hq
def tCallNS (n m : Nat) (sp : Sp) (gV : List V → List V → List V) (E : L2.St → XK) (t tk : TA) : TE := fun σ H Q => t σ H fun vs H1 => tk σ H1 fun zs H2 => vs.length = n ∧ zs.length = m ∧ sp (gV vs zs) H2 Q (E σ)
theorem pe_callNS (F : FnOk X.prog X.w X.K X.mg X.base CX k f fd ps sp) (hr : Room k X.A) (hg : Gl X x) (hm : X.mg x = some (.ref f)) (hk : PySem.W.keepIn X.K (.ref f) = true) (hb : KBn X.K fd ps n ks g gV) (hx : ∀ σ, PassesAt CX X σ (E σ))
    (ha : PA X (e :: es) t) (hkw : PK X kws tk) (hall : (backToKw pos (keywordEach kws X.env)).all (·.1.isSome) = true := by rfl) (hks : (backToKw pos (keywordEach kws X.env)).filterMap (·.1) = ks := by rfl)
    (hdb : (x == ("__debug__" : Str)) = false := by decide) (he : starEach (e :: es) X.env = (false, eval e X.env) :: starEach es X.env := by rfl)
    (hpl : ((backTo pos (starEach (e :: es) X.env)).any (·.1) || (backToKw pos (keywordEach kws X.env)).any (·.1.isNone)) = false := by rfl) :
    PE X (.Call (.Name x p) (e :: es) kws pos) (tCallNS n ks.length sp gV E t tk) := by
  refine ⟨fun pins s σ H Q I h => ?_⟩
  refine wpAny_Call_Name_kw (ld_glob I hg hm ?_ hdb)
  refine PySem.W.callWith_KW (h₀ := X.base) I.ok.mod.kin hk hall (thn (ha.run pos pins s σ H _ I h) fun us s1 ⟨vs, H1, I1, r, q⟩ => ?_) hpl he
  refine thn (hkw.run pos pins s1 σ H1 _ I1 q) fun ws s2 ⟨zs, H2, I2, rz, l1, l2, q2⟩ => ⟨I2.kIn, ?_⟩
  rw [hks]
  exact run_fnNS F hr hb (hx σ) I2 r rz l1 l2 q2
/-- the module's name x holds a def of one parameter and a keyword-only one with a default; it may raise -/
structure CalX (P : Program) (w : World) (K : PySem.W.Frag) (mg : Str → Option Value) (base : Heap) (x y : Str) (k : Nat) (ps : List Str) (dv : V) (sp : Sp) : Prop where
  ex : ∃ (f : Addr) (fd : FuncData), FnOk P w K mg base (L2.CX P w) k f fd ps sp ∧ mg x = some (.ref f) ∧ PySem.W.keepIn K (.ref f) = true ∧ (∃ ds, Vals [dv] ds ∧ Binds K fd ps ds) ∧ KBn K fd ps 1 [y] (fun us ws => us ++ ws) (fun vs zs => vs ++ zs)
variable {y : Str} {dv : V} {W : WX} {tk1 : TA}
def tCalX (sp : Sp) (dv : V) (W : WX) (t : TA) : TE := fun σ H Q => t σ H fun vs H1 => sp (vs ++ [dv]) H1 Q (fun cls d H' => W cls d σ H')
def tCalXK (sp : Sp) (W : WX) (t tk : TA) : TE := fun σ H Q => t σ H fun vs H1 => tk σ H1 fun zs H2 => vs.length = 1 ∧ zs.length = 1 ∧ sp (vs ++ zs) H2 Q (fun cls d H' => W cls d σ H')
theorem pe_calX (c : CalX X.prog X.w X.K X.mg X.base x y k ps dv sp) (tkW : Takes X W) (hr : Room k X.A) (ha : PA X (e :: es) t) (hg : Gl X x := by rfl) (hdb : (x == ("__debug__" : Str)) = false := by decide)
    (he : starEach (e :: es) X.env = (false, eval e X.env) :: starEach es X.env := by rfl) (hpl : (backTo pos (starEach es X.env)).any (·.1) = false := by rfl) : PE X (.Call (.Name x p) (e :: es) [] pos) (tCalX sp dv W t) := by
  obtain ⟨f, fd, ok, hm, kp, ⟨ds, hv, hb⟩, _⟩ := c.ex
  have z := pe_callSD (E := fun σ cls d H' => W cls d σ H') ok hr hg hm kp hb hv (fun σ => passAt tkW σ) ha hdb he hpl (p := p)
  exact ⟨fun pins s σ H Q I h => z.run pins s σ H Q I h⟩
theorem pe_calXK (c : CalX X.prog X.w X.K X.mg X.base x y k ps dv sp) (tkW : Takes X W) (hr : Room k X.A) (ha : PA X (e :: es) t) (hkw : PK X kws tk1) (hg : Gl X x := by rfl) (hall : (backToKw pos (keywordEach kws X.env)).all (·.1.isSome) = true := by rfl) (hks : (backToKw pos (keywordEach kws X.env)).filterMap (·.1) = [y] := by rfl)
    (hdb : (x == ("__debug__" : Str)) = false := by decide) (he : starEach (e :: es) X.env = (false, eval e X.env) :: starEach es X.env := by rfl)
    (hpl : ((backTo pos (starEach (e :: es) X.env)).any (·.1) || (backToKw pos (keywordEach kws X.env)).any (·.1.isNone)) = false := by rfl) : PE X (.Call (.Name x p) (e :: es) kws pos) (tCalXK sp W t tk1) := by
  obtain ⟨f, fd, ok, hm, kp, _, hb⟩ := c.ex
  have z := pe_callNS (E := fun σ cls d H' => W cls d σ H') ok hr hg hm kp hb (fun σ => passAt tkW σ) ha hkw hall hks hdb he hpl (p := p)
  exact ⟨fun pins s σ H Q I h => z.run pins s σ H Q I h⟩
end
end Er
namespace K03
local macro_rules | `(tactic| walk_at "rd") => `(tactic| repeat (first | refine ⟨rfl, ?_⟩ | refine ⟨_, rfl, ?_⟩ | refine ⟨_, _, rfl, rfl, ?_⟩ | refine ⟨⟨_, rfl⟩, ?_⟩))
open PySem PySem.Spec PyProof.Rows L2 Bx TL Dx Sup Er NdefX
def topS (i : Nat) : Stmt := PySem.Challenge.pw_shadowlinks_k03_numbers_and_names_in_tex.main.body.getD i (.Pass ⟨0, 0, 0, 0⟩)
abbrev s_InvalidText___init__ : Stmt := inClass (topS 3) 0
abbrev n_InvalidText___init__ : List Str := ["self", "line"]
theorem ns_InvalidText___init__ : NScope (n_InvalidText___init__ ++ [("__class__" : Str)]) ["self", "line"] [("__class__" : Str)] (defScope s_InvalidText___init__) := nscope_by (by decide +kernel)
abbrev s_is_number : Stmt := topS 6
abbrev n_is_number : List Str := ["text", "digits", "digit"]
theorem sc_is_number : FnScope n_is_number ["text"] (defScope s_is_number) := ⟨rfl, rfl, rfl, by decide +kernel, rfl, by decide +kernel, by decide +kernel⟩
abbrev s_parse_number : Stmt := topS 7
abbrev n_parse_number : List Str := ["text", "line"]
theorem sc_parse_number : FnScope n_parse_number ["text", "line"] (defScope s_parse_number) := ⟨rfl, rfl, rfl, by decide +kernel, rfl, by decide +kernel, by decide +kernel⟩
abbrev s_number_lines : Stmt := topS 8
abbrev n_number_lines : List Str := ["lines", "first", "width", "number", "line"]
theorem sc_number_lines : FnScope n_number_lines ["lines", "first"] (defScope s_number_lines) := ⟨rfl, rfl, rfl, by decide +kernel, rfl, by decide +kernel, by decide +kernel⟩
abbrev s_is_name : Stmt := topS 13
abbrev n_is_name : List Str := ["text", "letter"]
theorem sc_is_name : FnScope n_is_name ["text"] (defScope s_is_name) := ⟨rfl, rfl, rfl, by decide +kernel, rfl, by decide +kernel, by decide +kernel⟩
abbrev s_is_full_name : Stmt := topS 14
abbrev n_is_full_name : List Str := ["text", "piece"]
theorem sc_is_full_name : FnScope n_is_full_name ["text"] (defScope s_is_full_name) := ⟨rfl, rfl, rfl, by decide +kernel, rfl, by decide +kernel, by decide +kernel⟩
abbrev s_is_ascending : Stmt := topS 15
abbrev n_is_ascending : List Str := ["values"]
theorem sc_is_ascending : FnScope n_is_ascending ["values"] (defScope s_is_ascending) := ⟨rfl, rfl, rfl, by decide +kernel, rfl, by decide +kernel, by decide +kernel⟩
abbrev s_are_full_names : Stmt := topS 16
abbrev n_are_full_names : List Str := ["names", "name"]
theorem sc_are_full_names : FnScope n_are_full_names ["names"] (defScope s_are_full_names) := ⟨rfl, rfl, rfl, by decide +kernel, rfl, by decide +kernel, by decide +kernel⟩
abbrev s_parse_names : Stmt := topS 18
abbrev n_parse_names : List Str := ["words", "line"]
theorem sc_parse_names : FnScope n_parse_names ["words", "line"] (defScope s_parse_names) := ⟨rfl, rfl, rfl, by decide +kernel, rfl, by decide +kernel, by decide +kernel⟩
abbrev s__law_source : Stmt := topS 20
abbrev n__law_source : List Str := ["_law_script", "_law_k", "_law_number_here"]
theorem sc__law_source : FnScope n__law_source ["_law_script", "_law_k"] (defScope s__law_source) := ⟨rfl, rfl, rfl, by decide +kernel, rfl, by decide +kernel, by decide +kernel⟩
abbrev s__law_draw : Stmt := topS 21
abbrev n__law_draw : List Str := ["_law_source_here", "_law_limit", "_law_number_here", "_law_mixed"]
theorem sc__law_draw : FnScope n__law_draw ["_law_source_here", "_law_limit"] (defScope s__law_draw) := ⟨rfl, rfl, rfl, by decide +kernel, rfl, by decide +kernel, by decide +kernel⟩
abbrev s__law_string : Stmt := topS 22
abbrev n__law_string : List Str := ["_law_source_here", "_law_choice", "_law_text", "_law_k", "_law_number_here"]
theorem sc__law_string : FnScope n__law_string ["_law_source_here"] (defScope s__law_string) := ⟨rfl, rfl, rfl, by decide +kernel, rfl, by decide +kernel, by decide +kernel⟩
abbrev s__law_integer : Stmt := topS 23
abbrev n__law_integer : List Str := ["_law_text", "_law_digits", "_law_char", "_law_number_here"]
theorem sc__law_integer : FnScope n__law_integer ["_law_text"] (defScope s__law_integer) := ⟨rfl, rfl, rfl, by decide +kernel, rfl, by decide +kernel, by decide +kernel⟩
abbrev s__law_number : Stmt := topS 24
abbrev n__law_number : List Str := ["_law_text", "_law_at", "e"]
theorem sc__law_number : FnScope n__law_number ["_law_text", "_law_at"] (defScope s__law_number) := ⟨rfl, rfl, rfl, by decide +kernel, rfl, by decide +kernel, by decide +kernel⟩
abbrev s__law_number_right : Stmt := topS 25
abbrev n__law_number_right : List Str := ["_law_source_here", "_law_text", "_law_at", "_law_expected", "_law_told", "_law_actual"]
theorem sc__law_number_right : FnScope n__law_number_right ["_law_source_here"] (defScope s__law_number_right) := ⟨rfl, rfl, rfl, by decide +kernel, rfl, by decide +kernel, by decide +kernel⟩
abbrev s__law_words : Stmt := topS 26
abbrev n__law_words : List Str := ["_law_source_here", "_law_words_here", "_law_k", "_law_pieces", "_law_j", "_law_word", "_law_piece", "_law_i"]
theorem sc__law_words : FnScope n__law_words ["_law_source_here"] (defScope s__law_words) := ⟨rfl, rfl, rfl, by decide +kernel, rfl, by decide +kernel, by decide +kernel⟩
abbrev s__law_is_name : Stmt := topS 27
abbrev n__law_is_name : List Str := ["_law_word", "_law_piece", "_law_char"]
theorem sc__law_is_name : FnScope n__law_is_name ["_law_word"] (defScope s__law_is_name) := ⟨rfl, rfl, rfl, by decide +kernel, rfl, by decide +kernel, by decide +kernel⟩
abbrev s__law_names : Stmt := topS 28
abbrev n__law_names : List Str := ["_law_words_here", "_law_at", "e"]
theorem sc__law_names : FnScope n__law_names ["_law_words_here", "_law_at"] (defScope s__law_names) := ⟨rfl, rfl, rfl, by decide +kernel, rfl, by decide +kernel, by decide +kernel⟩
abbrev s__law_names_right : Stmt := topS 29
abbrev n__law_names_right : List Str := ["_law_source_here", "_law_words_here", "_law_at", "_law_good", "_law_k", "_law_passed", "_law_actual"]
theorem sc__law_names_right : FnScope n__law_names_right ["_law_source_here"] (defScope s__law_names_right) := ⟨rfl, rfl, rfl, by decide +kernel, rfl, by decide +kernel, by decide +kernel⟩
abbrev s__law_numbered_right : Stmt := topS 30
abbrev n__law_numbered_right : List Str := ["_law_source_here", "_law_lines", "_law_start", "_law_last", "_law_expected", "_law_k", "_law_passed", "_law_actual", "_law_number_here"]
theorem sc__law_numbered_right : FnScope n__law_numbered_right ["_law_source_here"] (defScope s__law_numbered_right) := ⟨rfl, rfl, rfl, by decide +kernel, rfl, by decide +kernel, by decide +kernel⟩
abbrev s_law : Stmt := topS 31
abbrev n_law : List Str := ["_law_script", "_law_k"]
theorem sc_law : FnScope n_law ["_law_script"] (defScope s_law) := ⟨rfl, rfl, rfl, by decide +kernel, rfl, by decide +kernel, by decide +kernel⟩
end K03
namespace K03
local macro_rules | `(tactic| walk_at "rd") => `(tactic| repeat (first | refine ⟨rfl, ?_⟩ | refine ⟨_, rfl, ?_⟩ | refine ⟨_, _, rfl, rfl, ?_⟩ | refine ⟨⟨_, rfl⟩, ?_⟩))
open PySem PySem.Spec PyProof.Rows L2 Bx TL Dx Sup Er NdefX
section
variable {P : Program} {w : World} {K : PySem.W.Frag} {mg : Str → Option Value} {base : Heap}
/-! ### InvalidText -/
def okI (v : V) : Prop := ∃ i : Int, v = .int i ∧ i.natAbs.log2 < 1920
abbrev nfI (cc cda : Addr) : NF := ⟨"__init__", "InvalidText.__init__", defArgs s_InvalidText___init__, defBody s_InvalidText___init__, defScope s_InvalidText___init__, [(("__class__" : Str), cc)], cda⟩
theorem toI_len {i : Int} (h : i.natAbs.log2 < 1920) : (Str.ofString (toString i)).length ≤ 1921 := by
  rw [PySem.ofString_length]
  exact int_text_length_le (by decide) h
theorem app_len (x y : Str) : (x ++ y).length = x.length + y.length := by
  rw [len_tl, tl_append, List.length_append, ← len_tl, ← len_tl]
theorem ok_init {fI cc cda C : Addr} {oc kV doc pm ct : Value} {od an : Option Addr} {osl : Array (Option Value)}
    (lk : K.lookup fI = some ⟨oc, od, .func (PySem.W.fnX "__init__" "InvalidText.__init__" (defArgs s_InvalidText___init__) (defBody s_InvalidText___init__) (defScope s_InvalidText___init__) [(("__class__" : Str), cc)] .none kV doc pm an (.ref cda) ct), osl⟩) (hcd : PySem.W.codeIn K (.ref cda) "InvalidText.__init__" = true)
    (hcc : ∃ cl cld csl, K.lookup cc = some ⟨cl, cld, .cell (some (.ref C)), csl⟩)
    (hco : ∃ (ccl : Value) (cdd : Option Addr) (vs : Array Value) (ccs : Array (Option Value)) (file : Str) (tf : Tok), K.lookup cda = some ⟨ccl, cdd, .fields vs, ccs⟩ ∧ vs[2]? = some (.str file tf) ∧ ((P.main.file : Str) == file) = true)
    (htop : (P.main.scope.names.lookup ("super" : Str)).isSome = false) (m_super : mg "super" = none) (hany : PySem.W.nsIn K cStatics "thirdparty.any" = some none) (T : SupC K C C) (no : PySem.W.findIn K (.ref C) "line" = some none) :
    FnOk P w K mg base CX0 1 fI (PySem.W.fnX "__init__" "InvalidText.__init__" (defArgs s_InvalidText___init__) (defBody s_InvalidText___init__) (defScope s_InvalidText___init__) [(("__class__" : Str), cc)] .none kV doc pm an (.ref cda) ct) ["self", "line"] (spErr okI C "line") := by
  obtain ⟨ccl, cdd, vs, ccs, file, tf, lc, hvs, hfile⟩ := hco
  obtain ⟨cl, cld, csl, lcc⟩ := hcc
  refine fn_sup (F := nfI cc cda) (k := 0) (self := "self") lk hcd rfl ⟨cl, cld, csl, lcc⟩ ns_InvalidText___init__
    (fun L => ⟨rfl, rfl, ⟨fI, _, _, _, _, _, rfl, lk, rfl, rfl⟩, ⟨cda, ccl, cdd, vs, ccs, file, tf, rfl, lc, hvs, hfile⟩, htop, ⟨cc, cl, cld, csl, rfl, lcc⟩, m_super, hany, rfl, rfl⟩) rfl rfl
    (fun vs H Q E h => ?_) (fun A outer s H vs Q E hr h => ?_)
  · obtain ⟨a, v, rfl, _⟩ := h
    rfl
  · obtain ⟨a, v, rfl, ⟨i, rfl, hi⟩, ea, q⟩ := h
    refine ⟨a, C, _, _, T, rfl, ea, (pa_cons (pe_joined (.cons pe_str (.cons (pe_fmt (pv 1)) (.cons pe_str .nil)))) pa_nil), (pss_one (ps_ost (pv 0) (pv 1))), fun u nu => ?_⟩
    have hua : u ≠ a := fun e => by rw [e, ea] at nu; cases nu
    walk_at "rd"
    have h1 := toI_len hi
    refine ⟨sz (by decide +kernel), ?_⟩
    refine ⟨_, rfl, .inr ⟨i, rfl, hi, ?_⟩⟩
    have l1 : (Str.empty ++ Str.ofString "the line " ++ Str.ofString (toString i)).length ≤ 2000 := by
      rw [app_len, app_len, show Str.empty.length = 0 from rfl, show (Str.ofString "the line ").length = 9 by decide +kernel]
      omega
    refine ⟨_, rfl, sz (Nat.le_trans l1 (by decide)), ?_⟩
    refine ⟨_, rfl, sz ?_, ?_⟩
    · rw [app_len, show (Str.ofString " is not a written form").length = 22 by decide +kernel]
      omega
    refine ⟨by show 1 ≤ 1000; decide, upd_same, by rw [upd_ne hua.symm]; exact ea, ?_⟩
    walk_at "rd"
    refine ⟨a, C, rfl, T.exc, no, .inl ⟨by rw [upd_ne hua.symm]; exact ea, fun dx nd da => ?_⟩⟩
    have ndu : dx ≠ u := fun e => by rw [e, upd_same] at nd; cases nd
    have nd0 : H dx = none := by rw [upd_ne ndu] at nd; exact nd
    refine q dx _ (fun b o hb e => ?_) nd0 da upd_same ?_
    · rw [upd_ne hb, upd_ne (ne_of_none e nd0), upd_ne (ne_of_none e nu)]
      exact e
    · rw [upd_ne da, upd_same]
end
end K03
namespace K03
local macro_rules | `(tactic| walk_at "rd") => `(tactic| repeat (first | refine ⟨rfl, ?_⟩ | refine ⟨_, rfl, ?_⟩ | refine ⟨_, _, rfl, rfl, ?_⟩ | refine ⟨⟨_, rfl⟩, ?_⟩))
open PySem PySem.Spec PyProof.Rows L2 Bx TL Dx Sup Er NdefX
/-! ### numbers -/
abbrev digs : List Nat := [48, 49, 50, 51, 52, 53, 54, 55, 56, 57]
def bare : List Nat → List Nat
  | [] => []
  | c :: r => if c = 45 then r else c :: r
def okDig : List Nat → Bool
  | [] => false
  | c :: r => !decide (c = 48) && (c :: r).all fun d => decide (d ∈ digs)
def okNum (l : List Nat) : Bool := decide (l = [48]) || okDig (bare l)
theorem tl_digs : tl (Str.ofString "0123456789") = digs := by decide +kernel
theorem tl_bare (z : Str) : tl (Txt.removeprefix z (Str.ofString "-")) = bare (tl z) := by
  rw [StrLaws.removeprefix_eq, StrLaws.subAt_eq, List.drop_zero, show (Str.ofString "-").length = 1 by decide +kernel, show (Str.ofString "-").cps.toList = [45] by decide +kernel]
  have hl : z.length = (tl z).length := len_tl z
  cases e : tl z with
  | nil =>
    rw [e] at hl
    rw [if_neg (by rw [hl]; simp)]
    exact e
  | cons c r =>
    rw [e] at hl
    show tl (if (decide (0 + 1 ≤ z.length) && ((tl z).take 1 == [45])) = true then ⟨(((tl z).drop 1).take (z.length - 1)).toArray⟩ else z) = if c = 45 then r else c :: r
    rw [e, hl]
    by_cases hc : c = 45
    · subst hc
      rw [if_pos rfl, if_pos (by simp)]
      show (((45 :: r).drop 1).take ((45 :: r).length - 1)).toArray.toList = r
      simp
    · rw [if_neg hc, if_neg (by simp [hc])]
      exact e
section
variable {P : Program} {w : World} {K : PySem.W.Frag} {mg : Str → Option Value} {base : Heap}
def spIsNumber : Sp := fun vs H Q _ => ∃ z : Str, vs = [.str z] ∧ z.length ≤ 1000 ∧ ∀ H', Same H H' → Q (.bl (okNum (tl z))) H'
theorem ok_is_number {f : Addr} {fd : FuncData} (F : Fun K "is_number" "is_number" s_is_number f fd) (m_all : mg "all" = none) {t1 : Tok} (m_DIGITS : mg "DIGITS" = some (.str (Str.ofString "0123456789") t1)) : FnOk P w K mg base CX0 1 f fd ["text"] spIsNumber := by
  refine F.ok sc_is_number (fun vs H Q E h => ?_) (fun cdv A outer s H vs Q E hr h => ?_)
  · obtain ⟨z, rfl, _⟩ := h
    rfl
  · obtain ⟨z, rfl, hz, q⟩ := h
    have hu := hu_of hr
    refine ⟨_, (pss_cons (ps_if (pt_cmpR op_eq (pv 0) pe_str (nomark _))
      (pss_one (ps_ret pe_bl))
      pss_nil)
    (pss_cons (ps_set (i := 1) sc_is_number.nd rfl (Or.inl rfl) (pe_m1 PySem.F.slot_str_removeprefix PySem.F.type_str_removeprefix mt_removeprefix (pv 0) pe_str))
    (pss_cons (ps_if (PW.pt (pw_or (pt_cmpR op_eq (pv 1) pe_str (nomark _)) (pw_or1 (pt_cmpR op_eq (pe_ix ix_str (pv 1) pe_int (fun _ _ => rfl)) pe_str (nomark _)))))
      (pss_one (ps_ret pe_bl))
      pss_nil)
    (pss_one (ps_ret (pe_callB (id := "all") (cr_all rfl) (by rfl) m_all (by decide +kernel) (pa_cons (pe_lc (own := [("digit", 2)]) (tt := tYes) rfl sc_is_number.nd (pi_str (pv 1)) (blkOk_by (N := n_is_number) (sc := defScope s_is_number) (by decide +kernel)) (fun _ _ _ _ _ => pg_name (i := 2) sc_is_number.nd rfl (Or.inl rfl)) (fun _ _ _ _ _ => pts_nil) (fun _ _ _ _ _ => (pe_cmpR op_in_sign (pv 2) (pe_glob (v := .str _) rfl m_DIGITS ⟨_, rfl⟩) (by rfl)))) pa_nil))))))), ?_⟩
    have hz2 : z.length ≤ sizeLine := sz (by omega)
    have hlen : (tl z).length = z.length := (len_tl z).symm
    walk_at "rd"
    refine ite2 (fun h0 => ?_) (fun h0 => ?_)
    · have e : z = Str.ofString "0" := V.str.inj (of_decide_eq_true h0)
      walk_at "rd"
      have e2 : okNum (tl z) = true := by
        rw [e]
        decide +kernel
      rw [e2] at q
      exact q H (Same.refl H)
    · have hne : ¬ (tl z = [48]) := fun e => h0 (decide_eq_true (congrArg V.str (ext_tl (e.trans (by decide +kernel)))))
      have hok : okNum (tl z) = okDig (bare (tl z)) := by
        unfold okNum
        rw [decide_eq_false hne, Bool.false_or]
      walk_at "rd"
      refine ⟨hz2, ?_⟩
      walk_at "rd"
      have hb := tl_bare z
      generalize Txt.removeprefix z (Str.ofString "-") = y at hb
      refine ite2 (fun h1 => ?_) (fun h1 => ?_)
      · have e : y = Str.ofString "" := V.str.inj (of_decide_eq_true h1)
        walk_at "rd"
        rw [hok, ← hb, e] at q
        exact q H (Same.refl H)
      · have hyl : y.length ≤ 1000 := by
          rw [len_tl, hb]
          refine Nat.le_trans ?_ (Nat.le_trans (Nat.le_of_eq hlen) hz)
          cases e : tl z with
          | nil => exact Nat.le_refl _
          | cons c r =>
            show (if c = 45 then r else c :: r).length ≤ _
            split
            · exact Nat.le_succ _
            · exact Nat.le_refl _
        have hy2 : y.length ≤ sizeLine := sz (by omega)
        obtain ⟨c, l, e⟩ : ∃ c l, tl y = c :: l := by
          cases e : tl y with
          | nil => exact absurd (decide_eq_true (congrArg V.str (ext_tl (e.trans rfl)))) h1
          | cons c l => exact ⟨c, l, rfl⟩
        have hc : atI y.cps.toList 0 = some c := by
          show atI (tl y) ((0 : Nat) : Int) = some c
          exact atI_nat (by rw [e]; rfl)
        have c0 : (V.str ⟨#[c]⟩ = V.str (Str.ofString "0")) ↔ c = 48 := by
          refine ⟨fun h => ?_, fun h => by rw [h]; decide +kernel⟩
          have h2 := congrArg tl (V.str.inj h)
          have h3 : [c] = [48] := h2.trans (by decide +kernel)
          exact (List.cons.inj h3).1
        rw [hok, ← hb, e] at q
        walk_at "rd"
        refine ⟨_, _, _, rfl, rfl, hy2, hc, ?_⟩
        walk_at "rd"
        refine ite2 (fun h2 => ?_) (fun h2 => ?_)
        · have h3 : c = 48 := c0.mp (of_decide_eq_true h2)
          walk_at "rd"
          have e3 : okDig (c :: l) = false := by
            show (!decide (c = 48) && _) = false
            rw [decide_eq_true h3]
            rfl
          rw [e3] at q
          exact q H (Same.refl H)
        · have h3 : ¬ c = 48 := fun z => h2 (decide_eq_true (c0.mpr z))
          have hyn : (tl y).length = y.length := (len_tl y).symm
          walk_at "rd"
          refine fun D hD => lc_it walk_str (fun i H' => Same H H' ∧ H' D = some (.lst (((tl y).take i).map fun c => V.bl (decide (c ∈ digs))))) ⟨same_new hD, by rw [upd_same]; rfl⟩ (fun _ _ _ _ => trivial) ?_ ?_
          · rintro i x H1 H2 hi ⟨hs, hd⟩ ⟨rfl, c, hc, rfl⟩
            have hi2 : (tl y)[i]? = some c := by
              rw [← Array.getElem?_toList] at hc
              exact hc
            refine ⟨rfl, ?_⟩
            walk_at "rd"
            refine ⟨_, hd, ?_, ?_, ?_⟩
            · rw [List.length_map, List.length_take]
              exact szl (by omega)
            · exact fun b o eb => by
                rw [upd_ne (ne_of_none eb hD)]
                exact hs b o eb
            · rw [upd_same, List.take_add_one, hi2, List.map_append]
              rw [show (Str.ofString "0123456789").cps.toList = digs from tl_digs]
              rfl
          · rintro H1 ⟨hs, hd⟩
            rw [show y.cps.size = (tl y).length from (Array.length_toList).symm, List.take_length] at hd
            refine ⟨_, (tl y).map (fun c => decide (c ∈ digs)), rfl, sq (by rw [hd, List.map_map]; rfl), ?_⟩
            have e2 : okDig (c :: l) = ((tl y).map fun c => decide (c ∈ digs)).all id := by
              rw [List.all_map, e]
              show (!decide (c = 48) && _) = _
              rw [decide_eq_false h3]
              rfl
            rw [e2] at q
            exact q H1 hs
end
end K03
namespace K03
local macro_rules | `(tactic| walk_at "rd") => `(tactic| repeat (first | refine ⟨rfl, ?_⟩ | refine ⟨_, rfl, ?_⟩ | refine ⟨_, _, rfl, rfl, ?_⟩ | refine ⟨⟨_, rfl⟩, ?_⟩))
open PySem PySem.Spec PyProof.Rows L2 Bx TL Dx Sup Er NdefX
/-! ### parse_number -/
def numOf : List Nat → Int
  | [] => 0
  | c :: r => if c = 45 then -((NumText.digitsVal r : Nat) : Int) else ((NumText.digitsVal (c :: r) : Nat) : Int)
theorem all_digs {l : List Nat} (h : l.all (fun d => decide (d ∈ digs)) = true) : NumText.AllDigits l := fun c hc => by
  have z := of_decide_eq_true (List.all_eq_true.mp h c hc)
  simp only [digs, List.mem_cons, List.not_mem_nil, or_false] at z
  omega
theorem num_reads {z : Str} (h : okNum (tl z) = true) (hl : z.length ≤ 640) : intText? z = some (numOf (tl z)) := by
  unfold okNum at h
  rw [Bool.or_eq_true] at h
  rcases h with h | h
  · have e : tl z = [48] := of_decide_eq_true h
    rw [intText_digits (x := z) (by show NumText.AllDigits (tl z); rw [e]; exact all_digs (by decide)) (by show tl z ≠ []; rw [e]; simp) (by omega)]
    show some (((NumText.digitsVal (tl z) : Nat)) : Int) = _
    rw [e]
    rfl
  · cases e : tl z with
    | nil =>
      rw [e] at h
      cases h
    | cons c r =>
      rw [e] at h
      by_cases hc : c = 45
      · subst hc
        have h2 : okDig r = true := h
        cases r with
        | nil => cases h2
        | cons c2 r2 =>
          have h3 : (!decide (c2 = 48) && (c2 :: r2).all fun d => decide (d ∈ digs)) = true := h2
          rw [Bool.and_eq_true] at h3
          rw [intText_neg (x := z) (cs := c2 :: r2) e (all_digs h3.2) (by simp) (by omega)]
          rfl
      · have h2 : okDig (bare (c :: r)) = true := h
        have hb : bare (c :: r) = c :: r := if_neg hc
        rw [hb] at h2
        have h3 : (!decide (c = 48) && (c :: r).all fun d => decide (d ∈ digs)) = true := h2
        rw [Bool.and_eq_true] at h3
        rw [intText_digits (x := z) (by show NumText.AllDigits (tl z); rw [e]; exact all_digs h3.2) (by show tl z ≠ []; rw [e]; simp) (by omega)]
        show some (((NumText.digitsVal (tl z) : Nat)) : Int) = some (if c = 45 then _ else _)
        rw [e, if_neg hc]
section
variable {P : Program} {w : World} {K : PySem.W.Frag} {mg : Str → Option Value} {base : Heap}
def spParseNumber (C : Addr) : Sp := fun vs H Q E => ∃ (z : Str) (i : Int), vs = [.str z, .int i] ∧ z.length ≤ 640 ∧ i.natAbs.log2 < 1920 ∧ (okNum (tl z) = true → ∀ H', Same H H' → Q (.int (numOf (tl z))) H') ∧
  (okNum (tl z) = false → ∀ d H', Same H H' → H' d = some (.xd [(("line" : Str), .int i)]) → E (.ref C) (some d) H')
theorem ok_parse_number {f C : Addr} {fd : FuncData} (F : FunD K "parse_number" "parse_number" (defArgs s_parse_number) (defBody s_parse_number) (defScope s_parse_number) [] [(("line" : Str), V.int 1)] f fd) (m_int : mg "int" = none) (C_is_number : Cal P w K mg base "is_number" 1 ["text"] spIsNumber)
    (E_InvalidText : Err P w K mg base "InvalidText" C "line" "line" okI 1) : FnOk P w K mg base (L2.CX P w) 3 f fd ["text", "line"] (spParseNumber C) := by
  refine F.ok sc_parse_number (fun vs H Q E h => ?_) (fun cdv A outer s H vs Q E hr h => ?_)
  · obtain ⟨z, i, rfl, _⟩ := h
    rfl
  · obtain ⟨z, i, rfl, hz, hi, q1, q2⟩ := h
    refine ⟨_, (pss_cons (ps_if (pt_not (pt_val (pe_cal C_is_number (hr.mono (by decide)) (pa_cons (pv 0) pa_nil))))
      (pss_one (ps_raiseE E_InvalidText rfl (takes_of rfl rfl rfl rfl) (hr.mono (by decide)) (pv 1)))
      pss_nil)
    (pss_one (ps_ret (pe_callTy (T := "int") call_int_str (by rfl) m_int (by decide +kernel) (pa_cons (pv 0) pa_nil))))), ?_⟩
    walk_at "rd"
    refine ⟨by omega, fun H1 s1 => ?_⟩
    walk_at "rd"
    cases hk : okNum (tl z) with
    | true =>
      walk_at "rd"
      exact ⟨_, _, rfl, num_reads hk hz, hz, q1 hk H1 s1⟩
    | false =>
      walk_at "rd"
      exact ⟨⟨i, rfl, hi⟩, fun d H3 s3 _ hd => q2 hk d H3 (Same.trans s1 s3) hd⟩
end
end K03
namespace K03
local macro_rules | `(tactic| walk_at "rd") => `(tactic| repeat (first | refine ⟨rfl, ?_⟩ | refine ⟨_, rfl, ?_⟩ | refine ⟨_, _, rfl, rfl, ?_⟩ | refine ⟨⟨_, rfl⟩, ?_⟩))
open PySem PySem.Spec PyProof.Rows L2 Bx TL Dx Sup Er NdefX
section
variable {P : Program} {w : World} {K : PySem.W.Frag} {mg : Str → Option Value} {base : Heap}
/-! ### the law's try round parse_number -/
/-- the classes of errors, as a handler sees them -/
structure ErrIs (K : PySem.W.Frag) (mg : Str → Option Value) (C SE NE : Addr) : Prop where
  cl : (PySem.W.clsIn K C).isSome = true
  ec : ExcC K C
  isS : PySem.W.kitOne K (.ref C) (.ref SE) = some true
  isN : PySem.W.kitOne K (.ref C) (.ref NE) = some false
  gS : mg "ShadowError" = some (.ref SE)
  gN : mg "InvalidName" = some (.ref NE)
def spLawNumber : Sp := fun vs H Q _ => ∃ (z : Str) (i : Int), vs = [.str z, .int i] ∧ z.length ≤ 640 ∧ i.natAbs.log2 < 1920 ∧ (okNum (tl z) = true → ∀ H', Same H H' → Q (.int (numOf (tl z))) H') ∧
  (okNum (tl z) = false → ∀ r H', Same H H' → H r = none → H' r = some (.lst [.str (Str.ofString "refused"), .int i]) → Q (.ref r) H')
theorem ok_law_number {f C SE NE : Addr} {fd : FuncData} (F : Fun K "_law_number" "_law_number" s__law_number f fd) (m_isinstance : mg "isinstance" = none) (CX_parse_number : CalX P w K mg base "parse_number" "line" 3 ["text", "line"] (.int 1) (spParseNumber C))
    (E_InvalidText : Err P w K mg base "InvalidText" C "line" "line" okI 1) (EI : ErrIs K mg C SE NE) : FnOk P w K mg base CX0 4 f fd ["_law_text", "_law_at"] spLawNumber := by
  have g_ShadowError := EI.gS
  have g_InvalidName := EI.gN
  refine F.ok sc__law_number (fun vs H Q E h => ?_) (fun cdv A outer s H vs Q E hr h => ?_)
  · obtain ⟨z, i, rfl, _⟩ := h
    rfl
  · obtain ⟨z, i, rfl, hz, hi, q1, q2⟩ := h
    refine ⟨_, (pss_one (ps_try_as (i := 2) rfl rfl sc__law_number.nd rfl rfl ⟨rfl, by decide, .inl E_InvalidText.g⟩ takes0 (fun W pn xe tk po =>
      (pss_cons (ps_if (pt_cmpR op_eq (pv 1) pe_int (nomark _))
      (pss_one (ps_ret (pe_calX CX_parse_number tk (hr.mono (by decide)) (pa_cons (pv 0) pa_nil))))
      pss_nil)
    (pss_one (ps_ret (pe_calXK CX_parse_number tk (hr.mono (by decide)) (pa_cons (pv 0) pa_nil) (pk_cons (pv 1) pk_nil))))))
      (fun a oe cls d pn hz hf =>
      (pss_cons (ps_if (PW.pt (pw_or (pt_not (pt_val (pe_callB (id := "isinstance") (call_isD hz hf) (by rfl) m_isinstance (by decide +kernel) (pa_cons (pv 2) (pa_cons (pe_glob (v := .ref SE) rfl g_ShadowError rfl) pa_nil))))) (pw_or1 (pt_val (pe_callB (id := "isinstance") (call_isD hz hf) (by rfl) m_isinstance (by decide +kernel) (pa_cons (pv 2) (pa_cons (pe_glob (v := .ref NE) rfl g_InvalidName rfl) pa_nil)))))))
      (pss_one (ps_ret (pe_lst (pa_cons pe_str pa_nil))))
      pss_nil)
    (pss_one (ps_ret (pe_lst (pa_cons pe_str (pa_cons (pe_xf E_InvalidText.xf E_InvalidText.no hz hf (pv 2)) pa_nil))))))))), ?_⟩
    walk_at "rd"
    refine ite2 (fun h1 => ?_) (fun h1 => ?_)
    · have e1 : i = 1 := V.int.inj (of_decide_eq_true h1)
      walk_at "rd"
      refine ⟨z, 1, rfl, hz, by decide, q1, fun hk d H' s' hd => ⟨true, E_InvalidText.te, fun _ a na => ?_, fun h => nomatch h⟩⟩
      walk_at "rd"
      refine ⟨C, d, _, _, true, _, rfl, rfl, rfl, EI.cl, EI.ec, hd, (fun u r => r), EI.isS, ?_⟩
      walk_at "rd"
      refine ⟨C, d, _, _, false, _, rfl, rfl, rfl, EI.cl, EI.ec, hd, (fun u r => r), EI.isN, ?_⟩
      walk_at "rd"
      refine ⟨d, _, _, rfl, hd, rfl, sz (by show 2 ≤ 100000; decide), fun r nr => ?_⟩
      exact q2 hk r _ (Same.trans s' (same_new nr)) (s'.free nr) (by rw [e1]; exact upd_same)
    · walk_at "rd"
      refine ⟨z, i, rfl, hz, hi, q1, fun hk d H' s' hd => ⟨true, E_InvalidText.te, fun _ a na => ?_, fun h => nomatch h⟩⟩
      walk_at "rd"
      refine ⟨C, d, _, _, true, _, rfl, rfl, rfl, EI.cl, EI.ec, hd, (fun u r => r), EI.isS, ?_⟩
      walk_at "rd"
      refine ⟨C, d, _, _, false, _, rfl, rfl, rfl, EI.cl, EI.ec, hd, (fun u r => r), EI.isN, ?_⟩
      walk_at "rd"
      refine ⟨d, _, _, rfl, hd, rfl, sz (by show 2 ≤ 100000; decide), fun r nr => ?_⟩
      exact q2 hk r _ (Same.trans s' (same_new nr)) (s'.free nr) upd_same
end
end K03
namespace K03
local macro_rules | `(tactic| walk_at "rd") => `(tactic| repeat (first | refine ⟨rfl, ?_⟩ | refine ⟨_, rfl, ?_⟩ | refine ⟨_, _, rfl, rfl, ?_⟩ | refine ⟨⟨_, rfl⟩, ?_⟩))
open PySem PySem.Spec PyProof.Rows L2 Bx TL Dx Sup Er NdefX
abbrev lett : List Nat := [97, 98, 99, 100, 101, 102, 103, 104, 105, 106, 107, 108, 109, 110, 111, 112, 113, 114, 115, 116, 117, 118, 119, 120, 121, 122]
def okName : List Nat → Bool
  | [] => false
  | c :: l => decide ((c :: l).length ≤ 8) && decide (c ∈ lett) && (c :: l).all fun d => decide (d ∈ lett ++ digs)
theorem tl_lett : tl (Str.ofString "abcdefghijklmnopqrstuvwxyz") = lett := by decide +kernel
theorem tl_ld : tl (Str.ofString "abcdefghijklmnopqrstuvwxyz0123456789") = lett ++ digs := by decide +kernel
section
variable {P : Program} {w : World} {K : PySem.W.Frag} {mg : Str → Option Value} {base : Heap}
def spIsName : Sp := fun vs H Q _ => ∃ z : Str, vs = [.str z] ∧ z.length ≤ 1000 ∧ ∀ H', Same H H' → Q (.bl (okName (tl z))) H'
theorem ok_is_name {f : Addr} {fd : FuncData} (F : Fun K "is_name" "is_name" s_is_name f fd) (m_len : mg "len" = none) (m_all : mg "all" = none) {t1 t2 t3 : Tok} (m_LONGEST : mg "LONGEST" = some (.int 8 t1))
    (m_LETTERS : mg "LETTERS" = some (.str (Str.ofString "abcdefghijklmnopqrstuvwxyz") t2)) (m_LETTERS_AND_DIGITS : mg "LETTERS_AND_DIGITS" = some (.str (Str.ofString "abcdefghijklmnopqrstuvwxyz0123456789") t3)) : FnOk P w K mg base CX0 1 f fd ["text"] spIsName := by
  refine F.ok sc_is_name (fun vs H Q E h => ?_) (fun cdv A outer s H vs Q E hr h => ?_)
  · obtain ⟨z, rfl, _⟩ := h
    rfl
  · obtain ⟨z, rfl, hz, q⟩ := h
    have hu := hu_of hr
    refine ⟨_, (pss_cons (ps_if (PW.pt (pw_or (pt_cmpR op_eq (pv 0) pe_str (nomark _)) (pw_or1 (pt_cmpR op_gt (pe_callB call_len_str (by rfl) m_len PySem.boot_len (pa_cons (pv 0) pa_nil)) (pe_glob (v := .int _) rfl m_LONGEST ⟨_, rfl⟩) (nomark _)))))
      (pss_one (ps_ret pe_bl))
      pss_nil)
    (pss_one (ps_ret (pe_and (pe_cmpR op_in_sign (pe_ix ix_str (pv 0) pe_int (fun _ _ => rfl)) (pe_glob (v := .str _) rfl m_LETTERS ⟨_, rfl⟩) (by rfl)) (pe_one (pe_callB (id := "all") (cr_all rfl) (by rfl) m_all (by decide +kernel) (pa_cons (pe_lc (own := [("letter", 1)]) (tt := tYes) rfl sc_is_name.nd (pi_str (pv 0)) (blkOk_by (N := n_is_name) (sc := defScope s_is_name) (by decide +kernel)) (fun _ _ _ _ _ => pg_name (i := 1) sc_is_name.nd rfl (Or.inl rfl)) (fun _ _ _ _ _ => pts_nil) (fun _ _ _ _ _ => (pe_cmpR op_in_sign (pv 1) (pe_glob (v := .str _) rfl m_LETTERS_AND_DIGITS ⟨_, rfl⟩) (by rfl)))) pa_nil))))))), ?_⟩
    have hz2 : z.length ≤ sizeLine := sz (by omega)
    have hlen : (tl z).length = z.length := (len_tl z).symm
    walk_at "rd"
    refine ite2 (fun h0 => ?_) (fun h0 => ?_)
    · refine iteT ?_
      have e : z = Str.ofString "" := V.str.inj (of_decide_eq_true h0)
      have e2 : okName (tl z) = false := by
        rw [e]
        rfl
      rw [e2] at q
      exact q H (Same.refl H)
    · have hne : tl z ≠ [] := fun e => h0 (decide_eq_true (congrArg V.str (ext_tl (e.trans rfl))))
      walk_at "rd"
      refine ⟨hz2, ?_⟩
      walk_at "rd"
      refine ite2 (fun h1 => ?_) (fun h1 => ?_)
      · have h2 : (8 : Int) < z.length := of_decide_eq_true h1
        have e2 : okName (tl z) = false := by
          cases e : tl z with
          | nil => rfl
          | cons c l =>
            rw [e] at hlen
            show (decide ((c :: l).length ≤ 8) && _ && _) = false
            rw [decide_eq_false (by omega)]
            rfl
        rw [e2] at q
        exact q H (Same.refl H)
      · have h2 : ¬ (8 : Int) < z.length := fun c => h1 (decide_eq_true c)
        obtain ⟨c, l, e⟩ : ∃ c l, tl z = c :: l := by
          cases e : tl z with
          | nil => exact absurd e hne
          | cons c l => exact ⟨c, l, rfl⟩
        have hc : atI z.cps.toList 0 = some c := by
          show atI (tl z) ((0 : Nat) : Int) = some c
          exact atI_nat (by rw [e]; rfl)
        walk_at "rd"
        refine ⟨_, _, _, rfl, rfl, hz2, hc, ?_⟩
        walk_at "rd"
        have ha : decide (c ∈ (Str.ofString "abcdefghijklmnopqrstuvwxyz").cps.toList) = decide (c ∈ lett) := by
          rw [show (Str.ofString "abcdefghijklmnopqrstuvwxyz").cps.toList = lett from tl_lett]
        refine ite2 (fun h3 => ?_) (fun h3 => ?_)
        · rw [ha] at h3
          -- all([..])
          walk_at "rd"
          refine fun D hD => lc_it walk_str (fun i H' => Same H H' ∧ H' D = some (.lst (((tl z).take i).map fun c => V.bl (decide (c ∈ lett ++ digs))))) ⟨same_new hD, by rw [upd_same]; rfl⟩ (fun _ _ _ _ => trivial) ?_ ?_
          · rintro i x H1 H2 hi ⟨hs, hd⟩ ⟨rfl, c, hc, rfl⟩
            have hi2 : (tl z)[i]? = some c := by
              rw [← Array.getElem?_toList] at hc
              exact hc
            refine ⟨rfl, ?_⟩
            walk_at "rd"
            refine ⟨_, hd, ?_, ?_, ?_⟩
            · rw [List.length_map, List.length_take]
              exact szl (by omega)
            · exact fun b o eb => by
                rw [upd_ne (ne_of_none eb hD)]
                exact hs b o eb
            · rw [upd_same, List.take_add_one, hi2, List.map_append]
              rw [show (Str.ofString "abcdefghijklmnopqrstuvwxyz0123456789").cps.toList = lett ++ digs from tl_ld]
              rfl
          · rintro H1 ⟨hs, hd⟩
            rw [show z.cps.size = (tl z).length from (Array.length_toList).symm, List.take_length] at hd
            refine ⟨_, (tl z).map (fun c => decide (c ∈ lett ++ digs)), rfl, sq (by rw [hd, List.map_map]; rfl), ?_⟩
            have e2 : okName (tl z) = ((tl z).map fun c => decide (c ∈ lett ++ digs)).all id := by
              rw [List.all_map, e]
              rw [e] at hlen
              show (decide ((c :: l).length ≤ 8) && decide (c ∈ lett) && _) = _
              rw [decide_eq_true (show (c :: l).length ≤ 8 by omega), h3]
              rfl
            rw [e2] at q
            exact q H1 hs
        · rw [ha] at h3
          have e2 : okName (tl z) = false := by
            rw [e]
            show (_ && decide (c ∈ lett) && _) = false
            rw [Bool.eq_false_iff.mpr h3, Bool.and_false]
            rfl
          rw [e2] at q
          exact q H (Same.refl H)

def spFull : Sp := fun vs H Q _ => ∃ z : Str, vs = [.str z] ∧ z.length ≤ 1000 ∧ (∀ p ∈ Txt.split z ".", p.length ≤ 1000) ∧ (Txt.split z ".").length ≤ 1000 ∧ ∀ H', Same H H' → Q (.bl ((Txt.split z ".").all fun p => okName (tl p))) H'
theorem ok_is_full_name {f : Addr} {fd : FuncData} (F : Fun K "is_full_name" "is_full_name" s_is_full_name f fd) (m_all : mg "all" = none) (C_is_name : Cal P w K mg base "is_name" 1 ["text"] spIsName) : FnOk P w K mg base CX0 2 f fd ["text"] spFull := by
  refine F.ok sc_is_full_name (fun vs H Q E h => ?_) (fun cdv A outer s H vs Q E hr h => ?_)
  · obtain ⟨z, rfl, _⟩ := h
    rfl
  · obtain ⟨z, rfl, hz, hp, hn, q⟩ := h
    refine ⟨_, (pss_one (ps_ret (pe_callB (id := "all") (cr_all rfl) (by rfl) m_all (by decide +kernel) (pa_cons (pe_lc (own := [("piece", 1)]) (tt := tYes) rfl sc_is_full_name.nd (pi_list (pe_split (pv 0) pe_str)) (blkOk_by (N := n_is_full_name) (sc := defScope s_is_full_name) (by decide +kernel)) (fun _ _ _ _ _ => pg_name (i := 1) sc_is_full_name.nd rfl (Or.inl rfl)) (fun _ _ _ _ _ => pts_nil) (fun _ _ _ _ _ => (pe_cal C_is_name (hr.mono (by decide)) (pa_cons (pv 1) pa_nil)))) pa_nil)))), ?_⟩
    walk_at "rd"
    refine ⟨sz (by omega), fun p np => ?_⟩
    walk_at "rd"
    refine ⟨⟨_, sq upd_same⟩, fun D hD => ?_⟩
    have hDp : p ≠ D := fun e => by
      rw [e, upd_same] at hD
      cases hD
    refine lc_list (xs := (Txt.split z ".").map V.str) (fun i H' => Same H H' ∧ H' p = some (.lst ((Txt.split z ".").map V.str)) ∧ H' D = some (.lst ((((Txt.split z ".").take i).map fun c => V.bl (okName (tl c)))))) ⟨?_, ?_, by rw [upd_same]; rfl⟩ (fun i H' _ h => sq h.2.1) ?_ ?_
    · exact (same_new np).trans (same_new hD)
    · rw [upd_ne hDp, upd_same]
    · rintro i x H1 hi ⟨hs, h1, h2⟩
      obtain ⟨y, hy, rfl⟩ : ∃ y, (Txt.split z ".")[i]? = some y ∧ x = .str y := by
        rw [List.getElem?_map] at hi
        cases e : (Txt.split z ".")[i]? with
        | none =>
          rw [e] at hi
          cases hi
        | some y =>
          rw [e] at hi
          exact ⟨y, rfl, (Option.some.inj hi).symm⟩
      refine ⟨rfl, ?_⟩
      walk_at "rd"
      refine ⟨hp y (List.mem_of_getElem? hy), fun H2 s2 => ?_⟩
      refine ⟨_, s2 _ _ h2, ?_, ?_, ?_, ?_⟩
      · rw [List.length_map, List.length_take]
        exact szl (by omega)
      · exact same_at ((same_new np).free hD) (hs.trans s2)
      · rw [upd_ne hDp]
        exact s2 _ _ h1
      · rw [upd_same, List.take_add_one, hy, List.map_append]
        rfl
    · rintro H1 ⟨hs, h1, h2⟩
      rw [List.length_map, List.take_length] at h2
      refine ⟨_, (Txt.split z ".").map (fun c => okName (tl c)), rfl, sq (by rw [h2, List.map_map]; rfl), ?_⟩
      have e2 : ((Txt.split z ".").map fun c => okName (tl c)).all id = (Txt.split z ".").all fun p => okName (tl p) := by
        rw [List.all_map]
        rfl
      rw [e2]
      exact q H1 hs

/-! ### the law's own: draws -/
theorem int_at {ns : List Int} {k : Nat} (h : k < ns.length) : atI (ns.map V.int) (k : Int) = some (V.int ns[k]) := atI_nat (by rw [List.getElem?_map, List.getElem?_eq_getElem h]; rfl)
def spSource (K : PySem.W.Frag) : Sp := fun vs H Q _ => ∃ (a : Addr) (ns : List Int) (k : Nat), vs = [.ref a, .int (k : Int)] ∧ SqL K H a (ns.map V.int) ∧ k ≤ 100 ∧ ∀ p n c, H p = none → Q (.ref p) (upd H p (.lst [.int n, .int c]))
theorem ok_source {f : Addr} {fd : FuncData} (F : Fun K "_law_source" "_law_source" s__law_source f fd) (m_len : mg "len" = none) (m_int : mg "int" = none) : FnOk P w K mg base CX0 1 f fd ["_law_script", "_law_k"] (spSource K) := by
  refine F.ok sc__law_source (fun vs H Q E h => ?_) (fun cdv A outer s H vs Q E hr h => ?_)
  · obtain ⟨a, ns, k, rfl, _⟩ := h
    rfl
  · obtain ⟨a, ns, k, rfl, hS, hk, q⟩ := h
    refine ⟨_, (pss_cons (ps_set (i := 2) sc__law_source.nd rfl (Or.inl rfl) pe_int)
    (pss_cons (ps_if (pt_cmpR op_lt (pv 1) (pe_callB call_len_seq (by rfl) m_len PySem.boot_len (pa_cons (pv 0) pa_nil)) (nomark _))
      (pss_one (ps_set (i := 2) sc__law_source.nd rfl (Or.inl rfl) (pe_callTy (T := "int") call_int1 (by rfl) m_int (by decide +kernel) (pa_cons (pe_ix ix_list (pv 0) (pv 1) (fun _ _ => rfl)) pa_nil))))
      pss_nil)
    (pss_one (ps_ret (pe_lst (pa_cons (pv 2) (pa_cons (pe_op op_add (pe_op op_mul pe_int (pv 1)) (pe_callB call_len_seq (by rfl) m_len PySem.boot_len (pa_cons (pv 0) pa_nil))) pa_nil))))))), ?_⟩
    walk_at "rd"
    refine ⟨_, _, rfl, .inl hS, ?_⟩
    walk_at "rd"
    refine ite2 (fun h0 => ?_) (fun h0 => ?_)
    · have h1 : (k : Int) < ((ns.map V.int).length : Nat) := of_decide_eq_true h0
      rw [List.length_map] at h1
      walk_at "rd"
      refine ⟨_, _, _, _, rfl, rfl, hS, int_at (k := k) (by omega), ?_⟩
      refine .inl ⟨_, rfl, ?_⟩
      walk_at "rd"
      refine ⟨.inr ⟨by omega, by omega⟩, ?_⟩
      walk_at "rd"
      refine ⟨_, _, rfl, .inl hS, ?_⟩
      walk_at "rd"
      exact ⟨sz (by show 2 ≤ 100000; decide), fun p np => q p _ _ np⟩
    · walk_at "rd"
      refine ⟨.inr ⟨by omega, by omega⟩, ?_⟩
      walk_at "rd"
      refine ⟨_, _, rfl, .inl hS, ?_⟩
      walk_at "rd"
      exact ⟨sz (by show 2 ≤ 100000; decide), fun p np => q p _ _ np⟩
theorem modb (x : Int) {k : Int} (h : 0 < k) (h2 : k ≤ 2 ^ 64) : -(2 ^ 64) < x % k ∧ x % k < 2 ^ 64 := by
  have a := Int.emod_nonneg x (show k ≠ 0 by omega)
  have b := Int.emod_lt_of_pos x h
  omega
@[irreducible] def spDraw : Sp := fun vs H Q _ => ∃ (a : Addr) (n c lim : Int), vs = [.ref a, .int lim] ∧ H a = some (.lst [.int n, .int c]) ∧ 0 < lim ∧ lim < 1073741824 ∧ ∀ r n' c', 0 ≤ r → r < lim → Q (.int r) (upd H a (.lst [.int n', .int c']))
theorem ok_draw {f : Addr} {fd : FuncData} (F : Fun K "_law_draw" "_law_draw" s__law_draw f fd) (m_int : mg "int" = none) : FnOk P w K mg base CX0 1 f fd ["_law_source_here", "_law_limit"] spDraw := by
  refine F.ok sc__law_draw (fun vs H Q E h => ?_) (fun cdv A outer s H vs Q E hr h => ?_)
  · unfold spDraw at h
    obtain ⟨a, n, c, lim, rfl, _⟩ := h
    rfl
  · unfold spDraw at h
    obtain ⟨a, n, c, lim, rfl, hA, h0, h1, q⟩ := h
    have hfm : ∀ x : Int, 0 ≤ x.fmod lim ∧ x.fmod lim < lim := fun x => by
      rw [Int.fmod_eq_emod_of_nonneg _ (by omega)]
      exact ⟨Int.emod_nonneg _ (by omega), Int.emod_lt_of_pos _ h0⟩
    refine ⟨_, (pss_cons (ps_set (i := 2) sc__law_draw.nd rfl (Or.inl rfl) (pe_ix ix_list (pv 0) pe_int (fun _ _ => rfl)))
    (pss_cons (ps_if (pt_cmpR op_ge (pv 2) (pe_op op_pow pe_int pe_int) (nomark _))
      (pss_cons (ps_asg (pe_op op_fdivN (pv 2) (pv 1)) (pg_sub (pv 0) pe_int set_list))
    (pss_one (ps_ret (pe_op op_modN (pe_callTy (T := "int") call_int1 (by rfl) m_int (by decide +kernel) (pa_cons (pv 2) pa_nil)) (pv 1)))))
      pss_nil)
    (pss_cons (ps_asg (pe_op op_add (pe_ix ix_list (pv 0) pe_int (fun _ _ => rfl)) pe_int) (pg_sub (pv 0) pe_int set_list))
    (pss_cons (ps_set (i := 3) sc__law_draw.nd rfl (Or.inl rfl) (pe_op op_mod (pe_callTy (T := "int") call_int1 (by rfl) m_int (by decide +kernel) (pa_cons (pe_op op_add (pe_op op_add (pe_op op_mul (pv 2) pe_int) (pe_op op_mul (pe_ix ix_list (pv 0) pe_int (fun _ _ => rfl)) pe_int)) pe_int) pa_nil)) pe_int))
    (pss_cons (ps_set (i := 3) sc__law_draw.nd rfl (Or.inl rfl) (pe_op op_mod (pe_callTy (T := "int") call_int1 (by rfl) m_int (by decide +kernel) (pa_cons (pe_op op_add (pe_op op_add (pe_op op_mul (pv 3) (pv 3)) (pv 2)) (pe_op op_mul (pe_ix ix_list (pv 0) pe_int (fun _ _ => rfl)) pe_int)) pa_nil)) pe_int))
    (pss_cons (ps_set (i := 3) sc__law_draw.nd rfl (Or.inl rfl) (pe_op op_mod (pe_callTy (T := "int") call_int1 (by rfl) m_int (by decide +kernel) (pa_cons (pe_op op_add (pe_op op_add (pe_op op_mul (pv 3) (pv 3)) (pe_op op_fdiv (pv 3) pe_int)) pe_int) pa_nil)) pe_int))
    (pss_one (ps_ret (pe_op op_modN (pe_op op_fdiv (pe_callTy (T := "int") call_int1 (by rfl) m_int (by decide +kernel) (pa_cons (pv 3) pa_nil)) pe_int) (pv 1)))))))))), ?_⟩
    walk_at "rd"
    refine ⟨_, _, _, _, rfl, rfl, sq hA, atI_nat (j := 0) rfl, ?_⟩
    walk_at "rd"
    refine ⟨⟨by decide, by decide, by decide⟩, ?_⟩
    walk_at "rd"
    refine ite2 (fun hb => ?_) (fun hb => ?_)
    · walk_at "rd"
      refine ⟨⟨by omega, by omega⟩, ?_⟩
      walk_at "rd"
      refine ⟨_, _, _, 0, rfl, rfl, hA, rfl, ?_⟩
      walk_at "rd"
      refine .inl ⟨_, rfl, ?_⟩
      walk_at "rd"
      refine ⟨by omega, ?_⟩
      exact q _ _ _ (hfm _).1 (hfm _).2
    · walk_at "rd"
      refine ⟨_, _, _, _, rfl, rfl, sq hA, atI_nat (j := 1) rfl, ?_⟩
      walk_at "rd"
      refine ⟨_, _, _, 1, rfl, rfl, hA, rfl, ?_⟩
      -- the first mixing
      walk_at "rd"
      refine ⟨.inr ⟨by decide, by decide⟩, ?_⟩
      walk_at "rd"
      refine ⟨_, _, _, _, rfl, rfl, sq upd_same, atI_nat (j := 1) rfl, ?_⟩
      walk_at "rd"
      refine ⟨.inr ⟨by decide, by decide⟩, ?_⟩
      walk_at "rd"
      refine .inl ⟨_, rfl, ?_⟩
      walk_at "rd"
      refine ⟨by show (0 : Int) < 2147483647; decide, ?_⟩
      -- the second
      walk_at "rd"
      refine ⟨.inl (modb _ (by decide) (by decide)), ?_⟩
      walk_at "rd"
      refine ⟨_, _, _, _, rfl, rfl, sq upd_same, atI_nat (j := 1) rfl, ?_⟩
      walk_at "rd"
      refine ⟨.inr ⟨by decide, by decide⟩, ?_⟩
      walk_at "rd"
      refine .inl ⟨_, rfl, ?_⟩
      walk_at "rd"
      refine ⟨by show (0 : Int) < 2147483629; decide, ?_⟩
      -- the third
      walk_at "rd"
      refine ⟨.inl (modb _ (by decide) (by decide)), ?_⟩
      walk_at "rd"
      refine ⟨⟨by decide, by decide⟩, ?_⟩
      walk_at "rd"
      refine .inl ⟨_, rfl, ?_⟩
      walk_at "rd"
      refine ⟨by show (0 : Int) < 2147483587; decide, ?_⟩
      -- the answer
      walk_at "rd"
      refine .inl ⟨_, rfl, ?_⟩
      walk_at "rd"
      refine ⟨⟨by decide, by decide⟩, ?_⟩
      walk_at "rd"
      refine ⟨by omega, ?_⟩
      exact q _ _ _ (hfm _).1 (hfm _).2
/-- some other source, or none -/
theorem draw_of {H : Hp} {a : Addr} {lim : Int} {Q : VK} {E : XK} (hA : Src H a) (h0 : 0 < lim ∧ lim < 1073741824) (q : ∀ r H', 0 ≤ r → r < lim → SameBut a H H' → Src H' a → Q (.int r) H') : spDraw [.ref a, .int lim] H Q E := by
  obtain ⟨n, c, hA⟩ := hA
  unfold spDraw
  exact ⟨a, n, c, lim, rfl, hA, h0.1, h0.2, fun r n' c' h1 h2 => q r _ h1 h2 SameBut.upd ⟨n', c', upd_same⟩⟩

theorem but_at {a o : Addr} {H H1 : Hp} {u : HO} (h : H o = none) (s : SameBut a H H1) : SameBut a H (upd H1 o u) := fun b x n e => by
  rw [upd_ne (ne_of_none e h)]
  exact s b x n e
theorem but_same {a : Addr} {H H1 H2 : Hp} (s : SameBut a H H1) (t : Same H1 H2) : SameBut a H H2 := fun b x n e => t b x (s b x n e)
theorem src_same {a : Addr} {H1 H2 : Hp} (s : Src H1 a) (t : Same H1 H2) : Src H2 a := by
  obtain ⟨n, c, h⟩ := s
  exact ⟨n, c, t _ _ h⟩
theorem src_ne {a o : Addr} {H : Hp} (s : Src H a) (h : H o = none) : a ≠ o := by
  obtain ⟨n, c, z⟩ := s
  exact ne_of_none z h
theorem but_free {a o : Addr} {H H1 : Hp} (s : SameBut a H H1) (n : o ≠ a) (h : H1 o = none) : H o = none := by
  cases e : H o with
  | none => rfl
  | some x =>
    rw [s o x n e] at h
    cases h
theorem src_upd {a o : Addr} {H : Hp} {u : HO} (s : Src H a) (n : a ≠ o) : Src (upd H o u) a := by
  obtain ⟨x, c, h⟩ := s
  exact ⟨x, c, by rw [upd_ne n]; exact h⟩
theorem strOk_of {x : Str} (h : ∀ c ∈ tl x, c < 0x110000) : PyData.strOk x = true := by
  unfold PyData.strOk
  rw [Array.all_eq_true']
  intro c hc
  exact decide_eq_true (h c (by simpa using hc))
theorem ok_sign {L : Str} {c : Nat} (h : (tl L).all (fun d => decide (d < 0x110000)) = true) (hc : c ∈ tl L) : ∀ d ∈ tl (⟨#[c]⟩ : Str), d < 0x110000 := fun d hd => by
  have e : d = c := by simpa using hd
  rw [e]
  exact of_decide_eq_true (List.all_eq_true.mp h c hc)
/-! ### ascending names -/
theorem eqv_strs : ∀ (l m : List Str), PyData.eqvAll (l.map PyData.str) (m.map PyData.str) = decide (l = m)
  | [], [] => rfl
  | [], y :: m => rfl
  | x :: l, [] => rfl
  | x :: l, y :: m => by
    show ((x == y) && PyData.eqvAll (l.map PyData.str) (m.map PyData.str)) = _
    rw [eqv_strs l m]
    by_cases h : x = y
    · subst h
      by_cases h2 : l = m
      · subst h2
        simp
      · simp [h2]
    · simp [h]
def ascB (l : List Str) : Bool := decide (l.Pairwise fun x y => x.cps.toList < y.cps.toList)
theorem ascB_iff {l : List Str} : ascB l = true ↔ Asc l := decide_eq_true_iff
def spAsc (K : PySem.W.Frag) : Sp := fun vs H Q _ => ∃ (a : Addr) (ns : List Str), vs = [.ref a] ∧ (SqL K H a (ns.map V.str) ∨ SqT K H a (ns.map V.str)) ∧ ns.length ≤ 1000 ∧ (∀ x ∈ ns, PyData.strOk x = true) ∧ ∀ H', Same H H' → Q (.bl (ascB ns)) H'
theorem ok_is_ascending {f : Addr} {fd : FuncData} (F : Fun K "is_ascending" "is_ascending" s_is_ascending f fd) (m_list : mg "list" = none) (m_set : mg "set" = none) (m_sorted : mg "sorted" = none) : FnOk P w K mg base CX0 1 f fd ["values"] (spAsc K) := by
  refine F.ok sc_is_ascending (fun vs H Q E h => ?_) (fun cdv A outer s H vs Q E hr h => ?_)
  · obtain ⟨a, ns, rfl, _⟩ := h
    rfl
  · obtain ⟨a, ns, rfl, hs, hl, hok, q⟩ := h
    refine ⟨_, (pss_one (ps_ret (pe_cmpR (op_eqD hr.units) (pe_callTy (T := "list") call_list_of (by rfl) m_list (by decide +kernel) (pa_cons (pv 0) pa_nil)) (pe_callB (id := "sorted") (Sx.cr_sortX rfl) (by rfl) m_sorted (by decide +kernel) (pa_cons (pe_callTy (T := "set") (Sx.cr_setX rfl) (by rfl) m_set (by decide +kernel) (pa_cons (pv 0) pa_nil)) pa_nil)) (nomark _)))), ?_⟩
    walk_at "rd"
    refine ⟨_, _, rfl, hs, fun p np => ?_⟩
    have s1 : Same H (upd H p (.lst (ns.map V.str))) := same_new np
    walk_at "rd"
    refine ⟨a, ns, rfl, hs.imp (Same.seq s1) (Bx.Same.tup s1), by omega, fun p2 ys n2 hm nd hlen => ?_⟩
    walk_at "rd"
    have s2 := Same.trans s1 (same_new n2 (o := Sx.SetV P w p2 ys))
    refine ⟨_, ys, rfl, upd_same, by omega, fun zs p3 pm st n3 => ?_⟩
    have s3 := Same.trans s2 (same_new n3 (o := .lst (zs.map V.str)))
    have hp3 := (Same.trans (same_new n2 (o := Sx.SetV P w p2 ys)) (same_new n3 (o := .lst (zs.map V.str)))) p _ upd_same
    have hzm : ∀ x, x ∈ zs ↔ x ∈ ns := fun x => pm.mem_iff.trans (hm x)
    have hza : Asc zs := asc_of st (pm.nodup_iff.mpr nd)
    have l1 : Lay 1 (.list (ns.map PyData.str)) := lay_list (lays_strs hok)
    have l2 : Lay 1 (.list (zs.map PyData.str)) := lay_list (lays_strs fun x hx => hok x ((hzm x).mp hx))
    refine ⟨_, _, .lst (sq hp3) (dp_strs ns), .lst (sq upd_same) (dp_strs zs), shape l1 (by decide), shape l2 (by decide), ?_⟩
    have e : PyData.eqv (.list (ns.map PyData.str)) (.list (zs.map PyData.str)) = ascB ns := by
      show PyData.eqvAll _ _ = _
      rw [eqv_strs]
      by_cases h : Asc ns
      · rw [ascB_iff.mpr h, decide_eq_true (asc_eq h hza fun x => (hzm x).symm)]
      · rw [Bool.eq_false_iff.mpr fun z => h (ascB_iff.mp z), decide_eq_false fun z : ns = zs => h (z ▸ hza)]
    rw [e]
    exact q _ s3
/-! ### are_full_names -/
def fullB (z : Str) : Bool := (Txt.split z ".").all fun p => okName (tl p)
def namesB (ns : List Str) : Bool := ns.all fullB && ascB ns
def smallS (z : Str) : Prop := z.length ≤ 1000 ∧ (∀ p ∈ Txt.split z ".", p.length ≤ 1000) ∧ (Txt.split z ".").length ≤ 1000 ∧ PyData.strOk z = true
def spAre (K : PySem.W.Frag) : Sp := fun vs H Q _ => ∃ (a : Addr) (ns : List Str), vs = [.ref a] ∧ (SqL K H a (ns.map V.str) ∨ SqT K H a (ns.map V.str)) ∧ ns.length ≤ 1000 ∧ (∀ x ∈ ns, smallS x) ∧ ∀ H', Same H H' → Q (.bl (namesB ns)) H'
theorem ok_are_full_names {f : Addr} {fd : FuncData} (F : Fun K "are_full_names" "are_full_names" s_are_full_names f fd) (m_all : mg "all" = none) (C_is_full_name : Cal P w K mg base "is_full_name" 2 ["text"] spFull) (C_is_ascending : Cal P w K mg base "is_ascending" 1 ["values"] (spAsc K)) : FnOk P w K mg base CX0 3 f fd ["names"] (spAre K) := by
  refine F.ok sc_are_full_names (fun vs H Q E h => ?_) (fun cdv A outer s H vs Q E hr h => ?_)
  · obtain ⟨a, ns, rfl, _⟩ := h
    rfl
  · obtain ⟨a, ns, rfl, hs, hl, hok, q⟩ := h
    refine ⟨_, (pss_one (ps_ret (pe_and (pe_callB (id := "all") (cr_all rfl) (by rfl) m_all (by decide +kernel) (pa_cons (pe_lc (own := [("name", 1)]) (tt := tYes) rfl sc_are_full_names.nd (pi_seq (pv 0)) (blkOk_by (N := n_are_full_names) (sc := defScope s_are_full_names) (by decide +kernel)) (fun _ _ _ _ _ => pg_name (i := 1) sc_are_full_names.nd rfl (Or.inl rfl)) (fun _ _ _ _ _ => pts_nil) (fun _ _ _ _ _ => (pe_cal C_is_full_name (hr.mono (by decide)) (pa_cons (pv 1) pa_nil)))) pa_nil)) (pe_one (pe_cal C_is_ascending (hr.mono (by decide)) (pa_cons (pv 0) pa_nil)))))), ?_⟩
    walk_at "rd"
    refine seq_case hs fun J G wk hG => ?_
    intro D hD
    refine lc_it wk (fun i H' => Same H H' ∧ H' D = some (.lst ((ns.take i).map fun x => V.bl (fullB x)))) ⟨same_new hD, upd_same⟩ (fun i H' _ h => hG H' h.1) ?_ ?_
    · rintro i x H1 H2 hi ⟨s1, hd⟩ ⟨rfl, hx⟩
      obtain ⟨n, hn, rfl⟩ := at_map hx
      obtain ⟨z1, z2, z3, _⟩ := hok n (List.mem_of_getElem? hn)
      refine ⟨rfl, ?_⟩
      walk_at "rd"
      refine ⟨z1, z2, z3, fun H3 s3 => ?_⟩
      refine ⟨_, s3 _ _ hd, ?_, same_at hD (Same.trans s1 s3), ?_⟩
      · rw [List.length_map, List.length_take]
        exact szl (by omega)
      · rw [upd_same, List.take_add_one, hn, List.map_append]
        rfl
    · rintro H1 ⟨s1, hd⟩
      rw [List.length_map, List.take_length] at hd
      refine ⟨_, ns.map fullB, rfl, sq (by rw [hd, List.map_map]; rfl), ?_⟩
      refine ⟨_, rfl, ?_⟩
      have e : (ns.map fullB).all id = ns.all fullB := by
        rw [List.all_map]
        rfl
      rw [e]
      refine ite2 (fun h1 => ?_) (fun h1 => ?_)
      · walk_at "rd"
        refine ⟨a, ns, rfl, hs.imp (Same.seq s1) (Bx.Same.tup s1), hl, fun x hx => (hok x hx).2.2.2, fun H2 s2 => ?_⟩
        have e2 : namesB ns = ascB ns := by
          unfold namesB
          rw [h1, Bool.true_and]
        rw [← e2]
        exact q H2 (Same.trans s1 s2)
      · have e2 : namesB ns = false := by
          unfold namesB
          rw [Bool.eq_false_iff.mpr h1, Bool.false_and]
        rw [e2] at q
        exact q H1 s1
end
end K03
namespace K03
local macro_rules | `(tactic| walk_at "rd") => `(tactic| repeat (first | refine ⟨rfl, ?_⟩ | refine ⟨_, rfl, ?_⟩ | refine ⟨_, _, rfl, rfl, ?_⟩ | refine ⟨⟨_, rfl⟩, ?_⟩))
open PySem PySem.Spec PyProof.Rows L2 Bx TL Dx Sup Er NdefX
section
variable {P : Program} {w : World} {K : PySem.W.Frag} {mg : Str → Option Value} {base : Heap}
/-! ### parse_names -/
def spParseNames (K : PySem.W.Frag) (C : Addr) : Sp := fun vs H Q E => ∃ (a : Addr) (ns : List Str) (i : Int), vs = [.ref a, .int i] ∧ (SqL K H a (ns.map V.str) ∨ SqT K H a (ns.map V.str)) ∧ ns.length ≤ 1000 ∧ (∀ x ∈ ns, smallS x) ∧ i.natAbs.log2 < 1920 ∧
  (namesB ns = true → ∀ r H', Same H H' → SqT K H' r (ns.map V.str) → Q (.ref r) H') ∧ (namesB ns = false → ∀ d H', Same H H' → H' d = some (.xd [(("line" : Str), .int i)]) → E (.ref C) (some d) H')
theorem ok_parse_names {f C : Addr} {fd : FuncData} (F : FunD K "parse_names" "parse_names" (defArgs s_parse_names) (defBody s_parse_names) (defScope s_parse_names) [] [(("line" : Str), V.int 1)] f fd) (m_tuple : mg "tuple" = none) (C_are_full_names : Cal P w K mg base "are_full_names" 3 ["names"] (spAre K))
    (E_InvalidText : Err P w K mg base "InvalidText" C "line" "line" okI 1) : FnOk P w K mg base (L2.CX P w) 4 f fd ["words", "line"] (spParseNames K C) := by
  refine F.ok sc_parse_names (fun vs H Q E h => ?_) (fun cdv A outer s H vs Q E hr h => ?_)
  · obtain ⟨a, ns, i, rfl, _⟩ := h
    rfl
  · obtain ⟨a, ns, i, rfl, hs, hl, hok, hi, q1, q2⟩ := h
    refine ⟨_, (pss_cons (ps_if (pt_not (pt_val (pe_cal C_are_full_names (hr.mono (by decide)) (pa_cons (pv 0) pa_nil))))
      (pss_one (ps_raiseE E_InvalidText rfl (takes_of rfl rfl rfl rfl) (hr.mono (by decide)) (pv 1)))
      pss_nil)
    (pss_one (ps_ret (pe_callTy (T := "tuple") call_tuple_of (by rfl) m_tuple (by decide +kernel) (pa_cons (pv 0) pa_nil))))), ?_⟩
    walk_at "rd"
    refine ⟨a, ns, rfl, hs, hl, hok, fun H1 s1 => ?_⟩
    walk_at "rd"
    cases hk : namesB ns with
    | true =>
      walk_at "rd"
      rcases hs with h | h
      · exact ⟨_, _, rfl, .inl ⟨s1.seq h, fun l nl => q1 hk l _ (Same.trans s1 (same_new nl)) (sqt upd_same)⟩⟩
      · exact ⟨_, _, rfl, .inr ⟨Bx.Same.tup s1 h, q1 hk a H1 s1 (Bx.Same.tup s1 h)⟩⟩
    | false =>
      walk_at "rd"
      exact ⟨⟨i, rfl, hi⟩, fun d H3 s3 _ hd => q2 hk d H3 (Same.trans s1 s3) hd⟩
/-! ### the law's try round parse_names -/
def spLawNames (K : PySem.W.Frag) : Sp := fun vs H Q _ => ∃ (a : Addr) (ns : List Str) (i : Int), vs = [.ref a, .int i] ∧ (SqL K H a (ns.map V.str) ∨ SqT K H a (ns.map V.str)) ∧ ns.length ≤ 1000 ∧ (∀ x ∈ ns, smallS x) ∧ i.natAbs.log2 < 1920 ∧
  (namesB ns = true → ∀ r H', Same H H' → SqT K H' r (ns.map V.str) → Q (.ref r) H') ∧ (namesB ns = false → ∀ r H', Same H H' → H r = none → H' r = some (.lst [.str (Str.ofString "refused"), .int i]) → Q (.ref r) H')
theorem ok_law_names {f C SE NE : Addr} {fd : FuncData} (F : Fun K "_law_names" "_law_names" s__law_names f fd) (m_isinstance : mg "isinstance" = none) (CX_parse_names : CalX P w K mg base "parse_names" "line" 4 ["words", "line"] (.int 1) (spParseNames K C))
    (E_InvalidText : Err P w K mg base "InvalidText" C "line" "line" okI 1) (EI : ErrIs K mg C SE NE) : FnOk P w K mg base CX0 5 f fd ["_law_words_here", "_law_at"] (spLawNames K) := by
  have g_ShadowError := EI.gS
  have g_InvalidName := EI.gN
  refine F.ok sc__law_names (fun vs H Q E h => ?_) (fun cdv A outer s H vs Q E hr h => ?_)
  · obtain ⟨a, ns, i, rfl, _⟩ := h
    rfl
  · obtain ⟨a, ns, i, rfl, hs, hl, hok, hi, q1, q2⟩ := h
    refine ⟨_, (pss_one (ps_try_as (i := 2) rfl rfl sc__law_names.nd rfl rfl ⟨rfl, by decide, .inl E_InvalidText.g⟩ takes0 (fun W pn xe tk po =>
      (pss_cons (ps_if (pt_cmpR op_eq (pv 1) pe_int (nomark _))
      (pss_one (ps_ret (pe_calX CX_parse_names tk (hr.mono (by decide)) (pa_cons (pv 0) pa_nil))))
      pss_nil)
    (pss_one (ps_ret (pe_calXK CX_parse_names tk (hr.mono (by decide)) (pa_cons (pv 0) pa_nil) (pk_cons (pv 1) pk_nil))))))
      (fun a oe cls d pn hz hf =>
      (pss_cons (ps_if (PW.pt (pw_or (pt_not (pt_val (pe_callB (id := "isinstance") (call_isD hz hf) (by rfl) m_isinstance (by decide +kernel) (pa_cons (pv 2) (pa_cons (pe_glob (v := .ref SE) rfl g_ShadowError rfl) pa_nil))))) (pw_or1 (pt_val (pe_callB (id := "isinstance") (call_isD hz hf) (by rfl) m_isinstance (by decide +kernel) (pa_cons (pv 2) (pa_cons (pe_glob (v := .ref NE) rfl g_InvalidName rfl) pa_nil)))))))
      (pss_one (ps_ret (pe_lst (pa_cons pe_str pa_nil))))
      pss_nil)
    (pss_one (ps_ret (pe_lst (pa_cons pe_str (pa_cons (pe_xf E_InvalidText.xf E_InvalidText.no hz hf (pv 2)) pa_nil))))))))), ?_⟩
    walk_at "rd"
    refine ite2 (fun h1 => ?_) (fun h1 => ?_)
    · have e1 : i = 1 := V.int.inj (of_decide_eq_true h1)
      walk_at "rd"
      refine ⟨a, ns, 1, rfl, hs, hl, hok, by decide, fun hk r H' s' hr' => ?_, fun hk d H' s' hd => ⟨true, E_InvalidText.te, fun _ a na => ?_, fun h => nomatch h⟩⟩
      · exact q1 hk r H' s' hr'
      walk_at "rd"
      refine ⟨C, d, _, _, true, _, rfl, rfl, rfl, EI.cl, EI.ec, hd, (fun u r => r), EI.isS, ?_⟩
      walk_at "rd"
      refine ⟨C, d, _, _, false, _, rfl, rfl, rfl, EI.cl, EI.ec, hd, (fun u r => r), EI.isN, ?_⟩
      walk_at "rd"
      refine ⟨d, _, _, rfl, hd, rfl, sz (by show 2 ≤ 100000; decide), fun r nr => ?_⟩
      exact q2 hk r _ (Same.trans s' (same_new nr)) (s'.free nr) (by rw [e1]; exact upd_same)
    · walk_at "rd"
      refine ⟨a, ns, i, rfl, hs, hl, hok, hi, fun hk r H' s' hr' => ?_, fun hk d H' s' hd => ⟨true, E_InvalidText.te, fun _ a na => ?_, fun h => nomatch h⟩⟩
      · exact q1 hk r H' s' hr'
      walk_at "rd"
      refine ⟨C, d, _, _, true, _, rfl, rfl, rfl, EI.cl, EI.ec, hd, (fun u r => r), EI.isS, ?_⟩
      walk_at "rd"
      refine ⟨C, d, _, _, false, _, rfl, rfl, rfl, EI.cl, EI.ec, hd, (fun u r => r), EI.isN, ?_⟩
      walk_at "rd"
      refine ⟨d, _, _, rfl, hd, rfl, sz (by show 2 ≤ 100000; decide), fun r nr => ?_⟩
      exact q2 hk r _ (Same.trans s' (same_new nr)) (s'.free nr) upd_same
end
end K03
namespace K03
local macro_rules | `(tactic| walk_at "rd") => `(tactic| repeat (first | refine ⟨rfl, ?_⟩ | refine ⟨_, rfl, ?_⟩ | refine ⟨_, _, rfl, rfl, ?_⟩ | refine ⟨⟨_, rfl⟩, ?_⟩))
open PySem PySem.Spec PyProof.Rows L2 Bx TL Dx Sup Er NdefX
section
variable {P : Program} {w : World} {K : PySem.W.Frag} {mg : Str → Option Value} {base : Heap}
/-! ### the law's own reading of an integer -/
theorem cont_of {α : Type} {R X : α → Prop} {G : Prop} (first : (∀ a, R a → X a) → G) (rest : ∀ a, R a → X a) : G := first rest
theorem sign_eq {c d : Nat} {L : Str} (h : tl L = [d]) : (V.str ⟨#[c]⟩ = V.str L) ↔ c = d := by
  refine ⟨fun e => ?_, fun e => ?_⟩
  · have h2 := congrArg tl (V.str.inj e)
    rw [h] at h2
    exact (List.cons.inj (show [c] = [d] from h2)).1
  · rw [e]
    exact congrArg V.str (ext_tl (h.symm ▸ rfl))
theorem occ_digit {c : Nat} (h : c ∈ digs) : Builtin.Str.occurrences (Str.ofString "0123456789") ⟨#[c]⟩ 0 (Str.ofString "0123456789").length 1 = [c - 48] := by
  have key : ∀ c ∈ digs, Builtin.Str.occurrences (Str.ofString "0123456789") ⟨#[c]⟩ 0 (Str.ofString "0123456789").length 1 = [c - 48] := by decide +kernel
  exact key c h
theorem val_snoc (l : List Nat) (c : Nat) : NumText.digitsVal (l ++ [c]) = NumText.digitsVal l * 10 + (c - 48) := by
  unfold NumText.digitsVal
  rw [List.foldl_append]
  rfl
def spInteger : Sp := fun vs H Q _ => ∃ z : Str, vs = [.str z] ∧ z.length ≤ 1000 ∧ (okNum (tl z) = true → ∀ H', Same H H' → Q (.int (numOf (tl z))) H') ∧ (okNum (tl z) = false → ∀ H', Same H H' → Q .non H')
theorem ok_integer {f : Addr} {fd : FuncData} (F : Fun K "_law_integer" "_law_integer" s__law_integer f fd) : FnOk P w K mg base CX0 1 f fd ["_law_text"] spInteger := by
  refine F.ok sc__law_integer (fun vs H Q E h => ?_) (fun cdv A outer s H vs Q E hr h => ?_)
  · obtain ⟨z, rfl, _⟩ := h
    rfl
  · obtain ⟨z, rfl, hz, q1, q2⟩ := h
    have hz2 : z.length ≤ sizeLine := sz (by omega)
    have hlen : (tl z).length = z.length := (len_tl z).symm
    refine ⟨_, (pss_cons (ps_set (i := 1) sc__law_integer.nd rfl (Or.inl rfl) (pv 0))
    (pss_cons (ps_if (pt_cmpR op_eq (pe_slice sl_str (pv 0) po_none (po_some pe_int)) pe_str (nomark _))
      (pss_one (ps_set (i := 1) sc__law_integer.nd rfl (Or.inl rfl) (pe_slice sl_str (pv 0) (po_some pe_int) po_none)))
      pss_nil)
    (pss_cons (ps_if (pt_cmpR op_eq (pv 1) pe_str (nomark _))
      (pss_one (ps_ret pe_non))
      pss_nil)
    (pss_cons (ps_for PassesOwn.never rfl (pi_str (pv 1)) (pg_name (i := 2) sc__law_integer.nd rfl (Or.inl rfl))
      (pss_one (ps_if (pt_cmpR op_notIn_sign (pv 2) pe_str (by rfl))
      (pss_one (ps_ret pe_non))
      pss_nil)))
    (pss_cons (ps_if (PW.pt (pw_and (pt_cmpR op_eq (pe_ix ix_str (pv 1) pe_int (fun _ _ => rfl)) pe_str (nomark _)) (pw_and1 (pt_cmpR op_ne (pv 0) pe_str (nomark _)))))
      (pss_one (ps_ret pe_non))
      pss_nil)
    (pss_cons (ps_set (i := 3) sc__law_integer.nd rfl (Or.inl rfl) pe_int)
    (pss_cons (ps_for PassesOwn.never rfl (pi_str (pv 1)) (pg_name (i := 2) sc__law_integer.nd rfl (Or.inl rfl))
      (pss_one (ps_set (i := 3) sc__law_integer.nd rfl (Or.inl rfl) (pe_op op_add (pe_op op_mul pe_int (pv 3)) (pe_m1 PySem.F.slot_str_index PySem.F.type_str_index mt_sindex pe_str (pv 2))))))
    (pss_cons (ps_if (pt_cmpR op_eq (pe_ix ix_str (pv 0) pe_int (fun _ _ => rfl)) pe_str (nomark _))
      (pss_one (ps_ret (pe_un un_neg (pv 3))))
      pss_nil)
    (pss_one (ps_ret (pv 3))))))))))), ?_⟩
    walk_at "rd"
    refine ⟨hz2, ?_⟩
    walk_at "rd"
    have t1 : tl (cutS z none (some 1)) = (tl z).take 1 := by
      show (((tl z).drop (HT.sIx z.length 0 none)).take (HT.sIx z.length z.length (some ((1 : Nat) : Int)) - HT.sIx z.length 0 none)) = _
      rw [HT.sIx_none, HT.sIx_nat, List.drop_zero, Nat.sub_zero, List.take_eq_take_iff]
      omega
    have t2 : tl (cutS z (some 1) none) = (tl z).drop 1 := by
      show (((tl z).drop (HT.sIx z.length 0 (some ((1 : Nat) : Int)))).take (HT.sIx z.length z.length none - HT.sIx z.length 0 (some ((1 : Nat) : Int)))) = _
      rw [HT.sIx_none, HT.sIx_nat, ← hlen]
      cases e : tl z with
      | nil => rfl
      | cons c r =>
        rw [show min 1 (c :: r).length = 1 from Nat.min_eq_left (by simp), List.take_of_length_le (by simp)]
    apply cont_of (α := Str) (R := fun y => tl y = bare (tl z))
    · intro k
      refine ite2 (fun h1 => ?_) (fun h1 => ?_)
      · have e1 : tl (cutS z none (some 1)) = [45] := (congrArg tl (V.str.inj (of_decide_eq_true h1))).trans (by decide +kernel)
        rw [t1] at e1
        walk_at "rd"
        refine ⟨hz2, ?_⟩
        walk_at "rd"
        have hy : tl (cutS z (some 1) none) = bare (tl z) := by
          rw [t2]
          cases e : tl z with
          | nil =>
            rw [e] at e1
            cases e1
          | cons c r =>
            rw [e] at e1
            have hc : c = 45 := (List.cons.inj e1).1
            show r = if c = 45 then r else c :: r
            rw [if_pos hc]
        revert hy
        generalize cutS z (some 1) none = y
        exact fun hy => k y hy
      · walk_at "rd"
        refine k z ?_
        cases e : tl z with
        | nil => rfl
        | cons c r =>
          show c :: r = if c = 45 then r else c :: r
          rw [if_neg fun hc => h1 (decide_eq_true (congrArg V.str (ext_tl (t1.trans (by rw [e, hc]; show [45] = tl (Str.ofString "-"); decide +kernel)))))]
    intro y hy
    have hyl : y.length ≤ 1000 := by
      rw [len_tl, hy]
      refine Nat.le_trans ?_ (Nat.le_trans (Nat.le_of_eq hlen) hz)
      cases e : tl z with
      | nil => exact Nat.le_refl _
      | cons c r =>
        show (if c = 45 then r else c :: r).length ≤ _
        split
        · exact Nat.le_succ _
        · exact Nat.le_refl _
    have hy2 : y.length ≤ sizeLine := sz (by omega)
    have hyn : y.cps.size = (tl y).length := (Array.length_toList).symm
    have zero : tl z = [48] → tl y = [48] := fun e => by
      rw [hy, e]
      rfl
    refine ite2 (fun h1 => ?_) (fun h1 => ?_)
    · have e1 : tl y = [] := (congrArg tl (V.str.inj (of_decide_eq_true h1))).trans (by decide +kernel)
      walk_at "rd"
      refine q2 ?_ H (Same.refl H)
      unfold okNum
      rw [decide_eq_false (fun e => by rw [zero e] at e1; cases e1), ← hy, e1]
      rfl
    · obtain ⟨c0, l0, e0⟩ : ∃ c l, tl y = c :: l := by
        cases e : tl y with
        | nil => exact absurd (decide_eq_true (congrArg V.str (ext_tl (e.trans (by decide +kernel))))) h1
        | cons c l => exact ⟨c, l, rfl⟩
      have hc0 : atI y.cps.toList 0 = some c0 := by
        show atI (tl y) ((0 : Nat) : Int) = some c0
        exact atI_nat (by rw [e0]; rfl)
      walk_at "rd"
      refine for_it walk_str (fun i σ H' => ∃ y2 : Option V, σ = [some (.str z), some (.str y), y2, none] ∧ H' = H ∧ ∀ j c, j < i → (tl y)[j]? = some c → c ∈ digs) ⟨none, rfl, rfl, fun j c hj => absurd hj (Nat.not_lt_zero _)⟩ (fun _ _ _ _ _ => trivial) ?_ ?_
      · rintro i x σ H1 H2 hi ⟨y2, rfl, rfl, hall⟩ ⟨rfl, c, hc, rfl⟩
        have hc2 : (tl y)[i]? = some c := by
          rw [← Array.getElem?_toList] at hc
          exact hc
        walk_at "rd"
        refine ite2 (fun h2 => ?_) (fun h2 => ?_)
        · have h3 : c ∉ digs := fun z => by
            have h4 : (!decide (c ∈ (Str.ofString "0123456789").cps.toList)) = true := h2
            rw [show (Str.ofString "0123456789").cps.toList = digs from tl_digs, decide_eq_true z] at h4
            cases h4
          walk_at "rd"
          refine q2 ?_ _ (Same.refl _)
          have hm := List.mem_of_getElem? hc2
          unfold okNum
          rw [decide_eq_false (fun e => by rw [zero e, List.mem_singleton] at hm; rw [hm] at h3; exact h3 (by decide)), ← hy, e0]
          show (!decide (c0 = 48) && (c0 :: l0).all fun d => decide (d ∈ digs)) = false
          rw [Bool.and_eq_false_iff]
          refine .inr ?_
          rw [Bool.eq_false_iff]
          intro ha
          exact h3 (of_decide_eq_true (List.all_eq_true.mp ha c (e0 ▸ hm)))
        · have h3 : c ∈ digs := Decidable.byContradiction fun z => h2 (by
            show (!decide (c ∈ (Str.ofString "0123456789").cps.toList)) = true
            rw [show (Str.ofString "0123456789").cps.toList = digs from tl_digs, decide_eq_false z]
            rfl)
          refine ⟨_, rfl, rfl, fun j d hj hd => ?_⟩
          rcases Nat.lt_succ_iff_lt_or_eq.mp hj with h | h
          · exact hall j d h hd
          · rw [h, hc2] at hd
            cases hd
            exact h3
      · rintro σ H1 ⟨y2, rfl, rfl, hall⟩
        have hd : ∀ c ∈ tl y, c ∈ digs := fun c hc => by
          obtain ⟨j, hj⟩ := List.mem_iff_getElem?.mp hc
          exact hall j c (by rw [hyn]; exact (List.getElem?_eq_some_iff.mp hj).1) hj
        have hda : (tl y).all (fun d => decide (d ∈ digs)) = true := List.all_eq_true.mpr fun c hc => decide_eq_true (hd c hc)
        have hz0 : V.str z = V.str (Str.ofString "0") ↔ tl z = [48] := ⟨fun e => (congrArg tl (V.str.inj e)).trans (by decide +kernel), fun e => congrArg V.str (ext_tl (e.trans (by decide +kernel)))⟩
        -- what follows where it is a number
        apply cont_of (α := Nat) (R := fun _ => okNum (tl z) = true)
        · intro k
          obtain ⟨u, -⟩ : ∃ u : Nat, u = u := ⟨0, rfl⟩
          walk_at "rd"
          refine ⟨_, _, _, rfl, rfl, hy2, hc0, ?_⟩
          walk_at "rd"
          refine ite2 (fun h2 => ?_) (fun h2 => ?_)
          · have c48 : c0 = 48 := (sign_eq (by decide +kernel)).mp (of_decide_eq_true h2)
            walk_at "rd"
            refine ite2 (fun h3 => ?_) (fun h3 => ?_)
            · walk_at "rd"
              refine q2 ?_ _ (Same.refl _)
              have hn : ¬ tl z = [48] := fun e => by
                have h4 : (!decide (V.str z = V.str (Str.ofString "0"))) = true := h3
                rw [decide_eq_true (hz0.mpr e)] at h4
                cases h4
              unfold okNum
              rw [decide_eq_false hn, ← hy, e0]
              show (!decide (c0 = 48) && _) = false
              rw [decide_eq_true c48]
              rfl
            · have hn : tl z = [48] := Decidable.byContradiction fun e => h3 (by
                show (!decide (V.str z = V.str (Str.ofString "0"))) = true
                rw [decide_eq_false fun w => e (hz0.mp w)]
                rfl)
              exact k u (by unfold okNum; rw [decide_eq_true hn]; rfl)
          · have c48 : ¬ c0 = 48 := fun e => h2 (decide_eq_true ((sign_eq (by decide +kernel)).mpr e))
            refine k u ?_
            unfold okNum
            rw [← hy, e0]
            show (_ || (!decide (c0 = 48) && (c0 :: l0).all fun d => decide (d ∈ digs))) = true
            rw [decide_eq_false c48, ← e0, hda]
            exact Bool.or_true _
        · intro _ hok
          walk_at "rd"
          refine for_it walk_str (fun i σ H' => ∃ y2 : Option V, σ = [some (.str z), some (.str y), y2, some (.int ((NumText.digitsVal ((tl y).take i) : Nat) : Int))] ∧ H' = H1) ⟨y2, rfl, rfl⟩ (fun _ _ _ _ _ => trivial) ?_ ?_
          · rintro i x σ H2 H3 hi ⟨y3, rfl, rfl⟩ ⟨rfl, c, hc, rfl⟩
            have hc2 : (tl y)[i]? = some c := by
              rw [← Array.getElem?_toList] at hc
              exact hc
            have hcd := hd c (List.mem_of_getElem? hc2)
            walk_at "rd"
            refine ⟨.inl ⟨by decide, by decide⟩, ?_⟩
            walk_at "rd"
            refine ⟨_, _, c - 48, [], rfl, rfl, occ_digit hcd, ?_⟩
            walk_at "rd"
            have e9 : (10 : Int) * ((NumText.digitsVal ((tl y).take i) : Nat) : Int) + ((c - 48 : Nat) : Int) = ((NumText.digitsVal ((tl y).take (i + 1)) : Nat) : Int) := by
              rw [List.take_add_one, hc2, show (some c).toList = [c] from rfl, val_snoc]
              push_cast
              omega
            refine ⟨some (.str ⟨#[c]⟩), ?_, rfl⟩
            show [some (V.str z), some (V.str y), some (V.str ⟨#[c]⟩), some (V.int ((10 : Int) * ((NumText.digitsVal ((tl y).take i) : Nat) : Int) + ((c - 48 : Nat) : Int)))] = _
            rw [e9]
          · rintro σ H2 ⟨y3, rfl, rfl⟩
            rw [hyn, List.take_length]
            obtain ⟨d0, r0, ez⟩ : ∃ d r, tl z = d :: r := by
              cases e : tl z with
              | nil =>
                rw [e] at hy
                rw [hy] at e0
                cases e0
              | cons d r => exact ⟨d, r, rfl⟩
            have hd0 : atI z.cps.toList 0 = some d0 := by
              show atI (tl z) ((0 : Nat) : Int) = some d0
              exact atI_nat (by rw [ez]; rfl)
            walk_at "rd"
            refine ⟨_, _, _, rfl, rfl, hz2, hd0, ?_⟩
            walk_at "rd"
            have num : numOf (tl z) = if d0 = 45 then -((NumText.digitsVal (tl y) : Nat) : Int) else ((NumText.digitsVal (tl y) : Nat) : Int) := by
              rw [hy, ez]
              show (if d0 = 45 then _ else _) = _
              by_cases h : d0 = 45
              · rw [if_pos h, if_pos h]
                show _ = -((NumText.digitsVal (if d0 = 45 then r0 else d0 :: r0) : Nat) : Int)
                rw [if_pos h]
              · rw [if_neg h, if_neg h]
                show _ = ((NumText.digitsVal (if d0 = 45 then r0 else d0 :: r0) : Nat) : Int)
                rw [if_neg h]
            refine ite2 (fun h4 => ?_) (fun h4 => ?_)
            · have h5 : d0 = 45 := (sign_eq (by decide +kernel)).mp (of_decide_eq_true h4)
              walk_at "rd"
              rw [num, if_pos h5] at q1
              exact q1 hok _ (Same.refl _)
            · have h5 : ¬ d0 = 45 := fun e => h4 (decide_eq_true ((sign_eq (by decide +kernel)).mpr e))
              walk_at "rd"
              rw [num, if_neg h5] at q1
              exact q1 hok _ (Same.refl _)
end
end K03
namespace K03
local macro_rules | `(tactic| walk_at "rd") => `(tactic| repeat (first | refine ⟨rfl, ?_⟩ | refine ⟨_, rfl, ?_⟩ | refine ⟨_, _, rfl, rfl, ?_⟩ | refine ⟨⟨_, rfl⟩, ?_⟩))
open PySem PySem.Spec PyProof.Rows L2 Bx TL Dx Sup Er NdefX
section
variable {P : Program} {w : World} {K : PySem.W.Frag} {mg : Str → Option Value} {base : Heap}
/-! ### a string -/
theorem op_mul_str {X : Cx} : OpR X (binaryOp .Mult) (fun x y H Q => ∃ (z : Str) (i : Int), x = .str z ∧ y = .int i ∧ MulOk z i ∧ Q (.str (Txt.mul z i)) H) := by
  intro pins s σ H x y v u Q I rx ry h
  obtain ⟨i, j, rfl, rfl, hz, q⟩ := h
  obtain ⟨t, rfl⟩ := rx
  obtain ⟨t', rfl⟩ := ry
  exact SB.mul hz (fun t' tk => ⟨.str (Txt.mul i j), H, I.tok _, ⟨_, rfl⟩, q⟩)
theorem log_small {n : Nat} (h : n < 10 ^ 60) : n.log2 < 1920 := by
  by_cases h0 : n = 0
  · rw [h0]
    decide
  · exact (Nat.log2_lt h0).mpr (Nat.lt_trans h (by decide))
theorem cont_of2 {α β : Type} {R X : α → β → Prop} {G : Prop} (first : (∀ a b, R a b → X a b) → G) (rest : ∀ a b, R a b → X a b) : G := first rest
theorem but_new {a : Addr} {H H3 : Hp} {p : Addr} {o : HO} (h : H p = none) (s : SameBut a (upd H p o) H3) : SameBut a H H3 := fun b x n e => s b x n (by rw [upd_ne (ne_of_none e h)]; exact e)
theorem mul_dash {r : Int} (h0 : 0 ≤ r) (h1 : r < 2) : MulOk (Str.ofString "-") r ∧ (Txt.mul (Str.ofString "-") r).length ≤ 1 := by
  have h : r = 0 ∨ r = 1 := by omega
  rcases h with rfl | rfl
  · exact ⟨⟨by decide, fun h => absurd (by decide) h, fun h => absurd (by decide) h⟩, by decide +kernel⟩
  · exact ⟨⟨by decide, fun _ h => absurd h (by decide), fun _ h => absurd h (by decide)⟩, by decide +kernel⟩
theorem pick3 {a b c : Int} {r : Int} (h0 : 0 ≤ r) (h1 : r < 3) : ∃ m, atI [V.int a, V.int b, V.int c] r = some (V.int m) ∧ (m = a ∨ m = b ∨ m = c) := by
  have h : r = 0 ∨ r = 1 ∨ r = 2 := by omega
  rcases h with rfl | rfl | rfl
  · exact ⟨a, rfl, .inl rfl⟩
  · exact ⟨b, rfl, .inr (.inl rfl)⟩
  · exact ⟨c, rfl, .inr (.inr rfl)⟩
theorem big_bound {d m e : Int} (d0 : 0 ≤ d) (d1 : d < 1000000000) (m0 : 0 ≤ m) (m1 : m ≤ 10 ^ 50) (e0 : 0 ≤ e) (e1 : e < 1000000000) : 0 ≤ d * m + e ∧ d * m + e < 10 ^ 60 := by
  have h1 : 0 ≤ d * m := Int.mul_nonneg d0 m0
  have h2 : d * m ≤ 1000000000 * 10 ^ 50 := Int.mul_le_mul (by omega) m1 m0 (by omega)
  constructor
  · omega
  · have h3 : (1000000000 : Int) * 10 ^ 50 + 1000000000 < 10 ^ 60 := by decide
    omega
def spString : Sp := fun vs H Q _ => ∃ a : Addr, vs = [.ref a] ∧ Src H a ∧ ∀ z H', z.length ≤ 100 → SameBut a H H' → Src H' a → Q (.str z) H'
theorem ok_string {f : Addr} {fd : FuncData} (F : Fun K "_law_string" "_law_string" s__law_string f fd) (m_range : mg "range" = none) (m_str : mg "str" = none) (C__law_draw : Cal P w K mg base "_law_draw" 1 ["_law_source_here", "_law_limit"] spDraw) : FnOk P w K mg base CX0 2 f fd ["_law_source_here"] spString := by
  refine F.ok sc__law_string (fun vs H Q E h => ?_) (fun cdv A outer s H vs Q E hr h => ?_)
  · obtain ⟨a, rfl, _⟩ := h
    rfl
  · obtain ⟨a, rfl, hA, q⟩ := h
    refine ⟨_, (pss_cons (ps_set (i := 1) sc__law_string.nd rfl (Or.inl rfl) (pe_cal C__law_draw (hr.mono (by decide)) (pa_cons (pv 0) (pa_cons pe_int pa_nil))))
    (pss_cons (ps_if (pt_cmpR op_eq (pv 1) pe_int (nomark _))
      (pss_cons (ps_set (i := 4) sc__law_string.nd rfl (Or.inl rfl) (pe_op op_add (pe_op op_mul (pe_cal C__law_draw (hr.mono (by decide)) (pa_cons (pv 0) (pa_cons (pe_op op_pow pe_int pe_int) pa_nil))) (pe_ix ix_list (pe_lst (pa_cons pe_int (pa_cons pe_int (pa_cons (pe_op op_pow pe_int pe_int) pa_nil)))) (pe_cal C__law_draw (hr.mono (by decide)) (pa_cons (pv 0) (pa_cons pe_int pa_nil))) (fun _ _ => rfl))) (pe_cal C__law_draw (hr.mono (by decide)) (pa_cons (pv 0) (pa_cons (pe_op op_pow pe_int pe_int) pa_nil)))))
    (pss_one (ps_ret (pe_op op_add_str (pe_op op_mul_str pe_str (pe_cal C__law_draw (hr.mono (by decide)) (pa_cons (pv 0) (pa_cons pe_int pa_nil)))) (pe_callTy (T := "str") call_str_int (by rfl) m_str (by decide +kernel) (pa_cons (pv 4) pa_nil))))))
      pss_nil)
    (pss_cons (ps_set (i := 2) sc__law_string.nd rfl (Or.inl rfl) pe_str)
    (pss_cons (ps_if (pt_cmpR op_eq (pv 1) pe_int (nomark _))
      (pss_one (ps_set (i := 2) sc__law_string.nd rfl (Or.inl rfl) (pe_op op_mul_str pe_str (pe_cal C__law_draw (hr.mono (by decide)) (pa_cons (pv 0) (pa_cons pe_int pa_nil))))))
      pss_nil)
    (pss_cons (ps_for PassesOwn.never rfl (pi_range1 (by rfl) m_range (pa_cons (pe_ix ix_list (pe_lst (pa_cons pe_int (pa_cons pe_int (pa_cons (pe_cal C__law_draw (hr.mono (by decide)) (pa_cons (pv 0) (pa_cons pe_int pa_nil))) pa_nil)))) (pe_cal C__law_draw (hr.mono (by decide)) (pa_cons (pv 0) (pa_cons pe_int pa_nil))) (fun _ _ => rfl)) pa_nil)) (pg_name (i := 3) sc__law_string.nd rfl (Or.inl rfl))
      (pss_one (ps_if (pt_cmpR op_eq (pv 1) pe_int (nomark _))
      (pss_one (ps_set (i := 2) sc__law_string.nd rfl (Or.inl rfl) (pe_op op_add_str (pv 2) (pe_ix ix_str pe_str (pe_cal C__law_draw (hr.mono (by decide)) (pa_cons (pv 0) (pa_cons pe_int pa_nil))) (fun _ _ => rfl)))))
      (pss_one (ps_set (i := 2) sc__law_string.nd rfl (Or.inl rfl) (pe_op op_add_str (pv 2) (pe_ix ix_str pe_str (pe_cal C__law_draw (hr.mono (by decide)) (pa_cons (pv 0) (pa_cons pe_int pa_nil))) (fun _ _ => rfl))))))))
    (pss_one (ps_ret (pv 2)))))))), ?_⟩
    walk_at "rd"
    refine draw_of (lim := 4) hA (by decide) fun ch H1 hc0 hc1 b1 A1 => ?_
    walk_at "rd"
    refine ite2 (fun h1 => ?_) (fun h1 => ?_)
    · walk_at "rd"
      refine ⟨⟨by decide, by decide, by decide⟩, ?_⟩
      walk_at "rd"
      refine draw_of (lim := 1000000000) A1 (by decide) fun d1 H2 hd0 hd1 b2 A2 => ?_
      walk_at "rd"
      refine ⟨⟨by decide, by decide, by decide⟩, ?_⟩
      walk_at "rd"
      refine ⟨sz (by show 3 ≤ 100000; decide), fun l nl => ?_⟩
      have al := src_ne A2 nl
      walk_at "rd"
      refine draw_of (lim := 3) (src_upd A2 al) (by decide) fun r3 H3 hr0 hr1 b3 A3 => ?_
      obtain ⟨m, hm, hm3⟩ := pick3 (a := 0) (b := 1) (c := (10 : Int) ^ (50 : Int).toNat) hr0 hr1
      walk_at "rd"
      refine ⟨_, _, _, _, rfl, rfl, sq (b3 _ _ al.symm upd_same), hm, ?_⟩
      walk_at "rd"
      refine ⟨.inl ⟨by omega, by omega⟩, ?_⟩
      walk_at "rd"
      refine ⟨⟨by decide, by decide, by decide⟩, ?_⟩
      walk_at "rd"
      refine draw_of (lim := 1000000000) A3 (by decide) fun d2 H4 he0 he1 b4 A4 => ?_
      walk_at "rd"
      refine draw_of (lim := 2) A4 (by decide) fun r5 H5 hs0 hs1 b5 A5 => ?_
      obtain ⟨k1, k2⟩ := mul_dash hs0 hs1
      have m0 : 0 ≤ m := by
        rcases hm3 with e | e | e <;> rw [e] <;> decide
      have m1 : m ≤ 10 ^ 50 := by
        rcases hm3 with e | e | e <;> rw [e] <;> decide
      obtain ⟨n0, n1⟩ := big_bound hd0 hd1 m0 m1 he0 he1
      have nn : (d1 * m + d2).natAbs < 10 ^ 60 := by omega
      have nl2 : (Str.ofString (toString (d1 * m + d2))).length ≤ 61 := by
        rw [PySem.ofString_length]
        exact int_text_length_le10 (by decide) nn
      walk_at "rd"
      refine ⟨k1, ?_⟩
      walk_at "rd"
      refine ⟨log_small nn, ?_⟩
      refine ⟨_, _, rfl, rfl, sz (by show _ + (Str.ofString (toString (d1 * m + d2))).length ≤ 100000; omega), ?_⟩
      refine q _ _ ?_ (((b1.trans b2).trans (but_new nl b3)).trans (b4.trans b5)) A5
      rw [app_len]
      show _ + (Str.ofString (toString (d1 * m + d2))).length ≤ _
      omega
    · walk_at "rd"
      apply cont_of2 (R := fun (t : Str) H' => t.length ≤ 1 ∧ SameBut a H H' ∧ Src H' a)
      · intro k
        refine ite2 (fun h2 => ?_) (fun h2 => ?_)
        · walk_at "rd"
          refine draw_of (lim := 2) A1 (by decide) fun r5 H5 hs0 hs1 b5 A5 => ?_
          obtain ⟨k1, k2⟩ := mul_dash hs0 hs1
          walk_at "rd"
          refine ⟨k1, ?_⟩
          walk_at "rd"
          revert k2
          generalize Txt.mul (Str.ofString "-") r5 = t
          exact fun k2 => k t H5 ⟨k2, b1.trans b5, A5⟩
        · walk_at "rd"
          exact k (Str.ofString "") H1 ⟨by decide +kernel, b1, A1⟩
      · rintro t H2 ⟨ht, b2, A2⟩
        walk_at "rd"
        refine draw_of (lim := 8) A2 (by decide) fun r3 H3 hr0 hr1 b3 A3 => ?_
        walk_at "rd"
        refine ⟨sz (by show 3 ≤ 100000; decide), fun l nl => ?_⟩
        have al := src_ne A3 nl
        walk_at "rd"
        refine draw_of (lim := 3) (src_upd A3 al) (by decide) fun r4 H4 hs0 hs1 b4 A4 => ?_
        obtain ⟨m, hm, hm3⟩ := pick3 (a := 1) (b := 2) (c := r3) hs0 hs1
        have m0 : 0 ≤ m := by
          rcases hm3 with e | e | e <;> omega
        have m1 : m ≤ 7 := by
          rcases hm3 with e | e | e <;> omega
        have b24 : SameBut a H H4 := b2.trans (b3.trans (but_new nl b4))
        walk_at "rd"
        refine ⟨_, _, _, _, rfl, rfl, sq (b4 _ _ al.symm upd_same), hm, ?_⟩
        walk_at "rd"
        refine ⟨by omega, by omega, ?_⟩
        refine for_range (lo := 0) (n := m.toNat) (fun i σ H' => ∃ (t : Str) (y3 : Option V), σ = [some (.ref a), some (.int ch), some (.str t), y3, none] ∧ t.length ≤ 1 + i ∧ SameBut a H H' ∧ Src H' a) ⟨t, none, rfl, by omega, b24, A4⟩ ?_ ?_
        · rintro i σ H5 hi ⟨t, y3, rfl, ht, b5, A5⟩
          walk_at "rd"
          refine ite2 (fun h2 => ?_) (fun h2 => ?_)
          · walk_at "rd"
            refine draw_of (lim := 11) A5 (by decide) fun r6 H6 h6 h6' b6 A6 => ?_
            obtain ⟨c, hc, _⟩ := pick (L := Str.ofString "00123456789") h6 h6'
            refine ⟨_, _, _, rfl, rfl, (by decide), hc, ?_⟩
            walk_at "rd"
            refine ⟨sz (by show t.length + 1 ≤ 100000; omega), ?_⟩
            refine ⟨_, _, rfl, ?_, b5.trans b6, A6⟩
            rw [app_len]
            show t.length + 1 ≤ _
            omega
          · walk_at "rd"
            refine draw_of (lim := 17) A5 (by decide) fun r6 H6 h6 h6' b6 A6 => ?_
            obtain ⟨c, hc, _⟩ := pick (L := Str.ofString "0123456789-+ ._aA") h6 h6'
            refine ⟨_, _, _, rfl, rfl, (by decide), hc, ?_⟩
            walk_at "rd"
            refine ⟨sz (by show t.length + 1 ≤ 100000; omega), ?_⟩
            refine ⟨_, _, rfl, ?_, b5.trans b6, A6⟩
            rw [app_len]
            show t.length + 1 ≤ _
            omega
        · rintro σ H5 ⟨t, y3, rfl, ht, b5, A5⟩
          walk_at "rd"
          exact q t H5 (by omega) b5 A5
end
end K03
namespace K03
local macro_rules | `(tactic| walk_at "rd") => `(tactic| repeat (first | refine ⟨rfl, ?_⟩ | refine ⟨_, rfl, ?_⟩ | refine ⟨_, _, rfl, rfl, ?_⟩ | refine ⟨⟨_, rfl⟩, ?_⟩))
open PySem PySem.Spec PyProof.Rows L2 Bx TL Dx Sup Er NdefX
section
variable {P : Program} {w : World} {K : PySem.W.Frag} {mg : Str → Option Value} {base : Heap}
/-! ### a number is read right -/
def spRight : Sp := fun vs H Q _ => ∃ a : Addr, vs = [.ref a] ∧ Src H a ∧ ∀ H', SameBut a H H' → Q (.bl true) H'
theorem at_bound {x y : Int} (h0 : 0 ≤ x) (h1 : x < 3) (k0 : 0 ≤ y) (k1 : y < 1000000) : (1 + x * y).natAbs.log2 < 1920 := by
  refine log_small ?_
  have h2 : 0 ≤ x * y := Int.mul_nonneg h0 k0
  have h3 : x * y ≤ 3 * 1000000 := Int.mul_le_mul (by omega) (by omega) k0 (by omega)
  have h4 : (3000001 : Nat) < 10 ^ 60 := by decide
  omega
theorem lay_refused {i : Int} : Lay 1 (.list [.str (Str.ofString "refused"), .int i]) := lay_list (lays_cons (lay_str (by decide +kernel)) (lays_cons lay_int lays_nil))
theorem dp_refused {H : Hp} {r : Addr} {i : Int} (h : H r = some (.lst [.str (Str.ofString "refused"), .int i])) : Dp K H (.ref r) (.list [.str (Str.ofString "refused"), .int i]) := .lst (sq h) (.cons (.str _) (da_one (.int _)))
theorem ok_number_right {f : Addr} {fd : FuncData} (F : Fun K "_law_number_right" "_law_number_right" s__law_number_right f fd) (m_isinstance : mg "isinstance" = none) (m_bool : mg "bool" = none) (m_int : mg "int" = none) (C__law_draw : Cal P w K mg base "_law_draw" 1 ["_law_source_here", "_law_limit"] spDraw)
    (C__law_string : Cal P w K mg base "_law_string" 2 ["_law_source_here"] spString) (C__law_integer : Cal P w K mg base "_law_integer" 1 ["_law_text"] spInteger) (C_is_number : Cal P w K mg base "is_number" 1 ["text"] spIsNumber) (C__law_number : Cal P w K mg base "_law_number" 4 ["_law_text", "_law_at"] spLawNumber) :
    FnOk P w K mg base CX0 5 f fd ["_law_source_here"] spRight := by
  refine F.ok sc__law_number_right (fun vs H Q E h => ?_) (fun cdv A outer s H vs Q E hr h => ?_)
  · obtain ⟨a, rfl, _⟩ := h
    rfl
  · obtain ⟨a, rfl, hA, q⟩ := h
    refine ⟨_, (pss_cons (ps_set (i := 1) sc__law_number_right.nd rfl (Or.inl rfl) (pe_cal C__law_string (hr.mono (by decide)) (pa_cons (pv 0) pa_nil)))
    (pss_cons (ps_set (i := 2) sc__law_number_right.nd rfl (Or.inl rfl) (pe_op op_add pe_int (pe_op op_mul (pe_cal C__law_draw (hr.mono (by decide)) (pa_cons (pv 0) (pa_cons pe_int pa_nil))) (pe_cal C__law_draw (hr.mono (by decide)) (pa_cons (pv 0) (pa_cons (pe_op op_pow pe_int pe_int) pa_nil))))))
    (pss_cons (ps_set (i := 3) sc__law_number_right.nd rfl (Or.inl rfl) (pe_cal C__law_integer (hr.mono (by decide)) (pa_cons (pv 1) pa_nil)))
    (pss_cons (ps_set (i := 4) sc__law_number_right.nd rfl (Or.inl rfl) (pe_cal C_is_number (hr.mono (by decide)) (pa_cons (pv 1) pa_nil)))
    (pss_cons (ps_if (PW.pt (pw_or (pt_not (pt_val (pe_callB (id := "isinstance") call_isi (by rfl) m_isinstance (by decide +kernel) (pa_cons (pv 4) (pa_cons (pe_bltn (v := .ty "bool") (by rfl) m_bool (by decide +kernel) rfl) pa_nil))))) (pw_or1 (pt_cmpR op_ne (pv 4) (pe_cmpR op_notN (pv 3) pe_non (nomark _)) (nomark _)))))
      (pss_one (ps_ret pe_bl))
      pss_nil)
    (pss_cons (ps_set (i := 5) sc__law_number_right.nd rfl (Or.inl rfl) (pe_cal C__law_number (hr.mono (by decide)) (pa_cons (pv 1) (pa_cons (pv 2) pa_nil))))
    (pss_cons (ps_if (pt_cmpR op_isN (pv 3) pe_non (nomark _))
      (pss_one (ps_ret (pe_cmpR (op_eqD hr.units) (pv 5) (pe_lst (pa_cons pe_str (pa_cons (pv 2) pa_nil))) (nomark _))))
      pss_nil)
    (pss_one (ps_ret (pe_and (pe_callB (id := "isinstance") call_isi (by rfl) m_isinstance (by decide +kernel) (pa_cons (pv 5) (pa_cons (pe_bltn (v := .ty "int") (by rfl) m_int (by decide +kernel) rfl) pa_nil))) (pe_and (pe_not (pe_callB (id := "isinstance") call_isi (by rfl) m_isinstance (by decide +kernel) (pa_cons (pv 5) (pa_cons (pe_bltn (v := .ty "bool") (by rfl) m_bool (by decide +kernel) rfl) pa_nil)))) (pe_one (pe_cmpR (op_eqD hr.units) (pv 5) (pv 3) (nomark _)))))))))))))), ?_⟩
    walk_at "rd"
    refine ⟨hA, fun z H1 hz b1 A1 => ?_⟩
    walk_at "rd"
    refine draw_of (lim := 3) A1 (by decide) fun r2 H2 h20 h21 b2 A2 => ?_
    walk_at "rd"
    refine ⟨⟨by decide, by decide, by decide⟩, ?_⟩
    walk_at "rd"
    refine draw_of (lim := 1000000) A2 (by decide) fun r3 H3 h30 h31 b3 A3 => ?_
    walk_at "rd"
    refine ⟨.inl ⟨by omega, by omega⟩, ?_⟩
    have hat := at_bound h20 h21 h30 h31
    have b13 := b1.trans (b2.trans b3)
    generalize hi : 1 + r2 * r3 = i at hat
    walk_at "rd"
    refine ⟨by omega, fun hk H4 s4 => ?_, fun hk H4 s4 => ?_⟩
    · walk_at "rd"
      refine ⟨by omega, fun H5 s5 => ?_⟩
      rw [hk]
      walk_at "rd"
      refine ⟨_, _, _, _, _, rfl, .ty _, .base (.bl _), rfl, ?_⟩
      walk_at "rd"
      refine ⟨z, _, rfl, by omega, by rw [hi]; exact hat, fun _ H6 s6 => ?_, fun h => by rw [hk] at h; cases h⟩
      walk_at "rd"
      refine ⟨_, _, _, _, _, rfl, .ty _, .base (.int _), rfl, ?_⟩
      walk_at "rd"
      refine ⟨_, _, _, _, _, rfl, .ty _, .base (.int _), rfl, ?_⟩
      walk_at "rd"
      refine ⟨.int (numOf (tl z)), .int (numOf (tl z)), .int _, .int _, shape (n := 0) lay_int (by decide), shape (n := 0) lay_int (by decide), ?_⟩
      rw [eq_refl (n := 0) lay_int]
      exact q H6 (b13.trans (Same.but (Same.trans s4 (Same.trans s5 s6))))
    · walk_at "rd"
      refine ⟨by omega, fun H5 s5 => ?_⟩
      rw [hk]
      walk_at "rd"
      refine ⟨_, _, _, _, _, rfl, .ty _, .base (.bl _), rfl, ?_⟩
      walk_at "rd"
      refine ⟨z, _, rfl, by omega, by rw [hi]; exact hat, fun h => by (rw [hk] at h; cases h), fun _ r H6 s6 nr hr6 => ?_⟩
      walk_at "rd"
      refine ⟨sz (by show 2 ≤ 100000; decide), fun l nl => ?_⟩
      refine ⟨_, _, dp_refused (same_new nl _ _ hr6), dp_refused upd_same, shape lay_refused (by decide), shape lay_refused (by decide), ?_⟩
      rw [eq_refl lay_refused]
      exact q _ (b13.trans (Same.but (Same.trans (Same.trans s4 (Same.trans s5 s6)) (same_new nl))))
end
end K03
namespace K03
local macro_rules | `(tactic| walk_at "rd") => `(tactic| repeat (first | refine ⟨rfl, ?_⟩ | refine ⟨_, rfl, ?_⟩ | refine ⟨_, _, rfl, rfl, ?_⟩ | refine ⟨⟨_, rfl⟩, ?_⟩))
open PySem PySem.Spec PyProof.Rows L2 Bx TL Dx Sup Er NdefX
theorem okName_dot {l : List Nat} (h : 46 ∈ l) : okName l = false := by
  cases l with
  | nil => rfl
  | cons c l =>
    show (_ && List.all (c :: l) _) = false
    rw [Bool.and_eq_false_iff]
    refine .inr (Bool.eq_false_iff.mpr fun z => ?_)
    have z1 := of_decide_eq_true (List.all_eq_true.mp z 46 h)
    exact (show 46 ∉ lett ++ digs by decide) z1
theorem joinL_len (S : List Nat) : ∀ ps : List (List Nat), (joinL S ps).length ≤ (ps.map List.length).sum + ps.length * S.length
  | [] => Nat.zero_le _
  | [p] => by
    show p.length ≤ [p.length].sum + 1 * S.length
    simp
  | p :: q :: r => by
    have ih := joinL_len S (q :: r)
    show (p ++ (S ++ joinL S (q :: r))).length ≤ (p.length :: (q :: r).map List.length).sum + ((q :: r).length + 1) * S.length
    rw [List.length_append, List.length_append, List.sum_cons, Nat.add_mul]
    omega
theorem sum_le {ps : List Str} (h : ∀ p ∈ ps, p.length ≤ 9) : (ps.map (·.length)).sum ≤ 9 * ps.length := by
  induction ps with
  | nil => exact Nat.le_refl _
  | cons p ps ih =>
    have h1 := h p List.mem_cons_self
    have h2 := ih fun x hx => h x (List.mem_cons_of_mem _ hx)
    rw [List.map_cons, List.sum_cons, List.length_cons]
    omega
theorem tl_dot : tl (Str.ofString ".") = [46] := by decide +kernel
theorem tl_txt (ps : List Str) : tl (Txt.join "." ps) = joinL [46] (ps.map tl) := by
  rw [join_eq, tl_join, tl_dot]
theorem txt_len {ps : List Str} (h : ∀ p ∈ ps, p.length ≤ 9) : (Txt.join "." ps).length ≤ 10 * ps.length := by
  rw [len_tl, tl_txt]
  have a := joinL_len [46] (ps.map tl)
  have b := sum_le h
  have e : ((ps.map tl).map List.length) = ps.map (·.length) := by
    rw [List.map_map]
    exact List.map_congr_left fun p _ => (len_tl p).symm
  rw [e, List.length_map] at a
  simp only [List.length_singleton, Nat.mul_one] at a
  omega
theorem split_txt {ps : List Str} (hne : ps ≠ []) (h : ∀ p ∈ ps, 46 ∉ tl p) : Txt.split (Txt.join "." ps) "." = ps := split_join (s := 46) (S := []) tl_dot (by decide +kernel) hne h
section
variable {P : Program} {w : World} {K : PySem.W.Frag} {mg : Str → Option Value} {base : Heap}
/-! ### words drawn -/
theorem mem_joinL {S : List Nat} {c : Nat} : ∀ {ps : List (List Nat)}, c ∈ joinL S ps → c ∈ S ∨ ∃ p ∈ ps, c ∈ p
  | [], h => by cases h
  | [p], h => .inr ⟨p, List.mem_cons_self, h⟩
  | p :: q :: r, h => by
    have h2 : c ∈ p ++ (S ++ joinL S (q :: r)) := h
    rcases List.mem_append.mp h2 with h | h
    · exact .inr ⟨p, List.mem_cons_self, h⟩
    · rcases List.mem_append.mp h with h | h
      · exact .inl h
      · rcases mem_joinL h with h | ⟨x, hx, hc⟩
        · exact .inl h
        · exact .inr ⟨x, List.mem_cons_of_mem _ hx, hc⟩
def okP (p : Str) : Prop := ∀ c ∈ tl p, c < 1114112 ∧ c ≠ 46
theorem okP_app {p : Str} {c : Nat} {L : Str} (h : okP p) (hL : (tl L).all (fun d => decide (d < 1114112) && decide (d ≠ 46)) = true) (hc : c ∈ tl L) : okP (p ++ ⟨#[c]⟩) := fun d hd => by
  rw [tl_append] at hd
  rcases List.mem_append.mp hd with h1 | h1
  · exact h d h1
  · rw [show d = c from List.mem_singleton.mp h1]
    have z := List.all_eq_true.mp hL c hc
    rw [Bool.and_eq_true] at z
    exact ⟨of_decide_eq_true z.1, of_decide_eq_true z.2⟩
theorem small_join {ps : List Str} (hne : ps ≠ []) (hl : ps.length ≤ 3) (h : ∀ p ∈ ps, p.length ≤ 9 ∧ okP p) : smallS (Txt.join "." ps) := by
  have e := split_txt hne fun p hp hc => ((h p hp).2 46 hc).2 rfl
  refine ⟨?_, fun p hp => ?_, by rw [e]; omega, strOk_of fun c hc => ?_⟩
  · have := txt_len fun p hp => (h p hp).1
    omega
  · rw [e] at hp
    have := (h p hp).1
    omega
  · rw [tl_txt] at hc
    rcases mem_joinL hc with h1 | ⟨x, hx, h1⟩
    · rw [List.mem_singleton.mp h1]
      decide
    · obtain ⟨p, hp, rfl⟩ := List.mem_map.mp hx
      exact ((h p hp).2 c h1).1
def badS : List Str := [Str.ofString "", Str.ofString "0", Str.ofString "-a", Str.ofString "A", Str.ofString "a.", Str.ofString ".a", Str.ofString "a..b", Str.ofString "abcdefghi", Str.ofString "9a", Str.ofString "a_b", Str.ofString "a b"]
theorem bad_small : ∀ z ∈ badS, smallS z := by
  have key : badS.all (fun z => decide (z.length ≤ 1000) && (Txt.split z ".").all (fun p => decide (p.length ≤ 1000)) && decide ((Txt.split z ".").length ≤ 1000) && PyData.strOk z) = true := by decide +kernel
  intro z hz
  have k := List.all_eq_true.mp key z hz
  simp only [Bool.and_eq_true, decide_eq_true_iff, List.all_eq_true] at k
  exact ⟨k.1.1.1, k.1.1.2, k.1.2, k.2⟩
def spWords : Sp := fun vs H Q _ => ∃ a : Addr, vs = [.ref a] ∧ Src H a ∧ ∀ (r : Addr) (ns : List Str) (H' : Hp), ns.length ≤ 5 → (∀ x ∈ ns, smallS x) → a ≠ r → H' r = some (.lst (ns.map V.str)) → SameBut a H H' → Src H' a → Q (.ref r) H'
theorem ok_words {f : Addr} {fd : FuncData} (F : Fun K "_law_words" "_law_words" s__law_words f fd) (m_range : mg "range" = none) (m_sorted : mg "sorted" = none) (C__law_draw : Cal P w K mg base "_law_draw" 1 ["_law_source_here", "_law_limit"] spDraw) : FnOk P w K mg base CX0 2 f fd ["_law_source_here"] spWords := by
  refine F.ok sc__law_words (fun vs H Q E h => ?_) (fun cdv A outer s H vs Q E hr h => ?_)
  · obtain ⟨a, rfl, _⟩ := h
    rfl
  · obtain ⟨a, rfl, hA, q⟩ := h
    refine ⟨_, (pss_cons (ps_set (i := 1) sc__law_words.nd rfl (Or.inl rfl) (pe_lst pa_nil))
    (pss_cons (ps_for PassesOwn.never rfl (pi_range1 (by rfl) m_range (pa_cons (pe_cal C__law_draw (hr.mono (by decide)) (pa_cons (pv 0) (pa_cons pe_int pa_nil))) pa_nil)) (pg_name (i := 2) sc__law_words.nd rfl (Or.inl rfl))
      (pss_cons (ps_set (i := 3) sc__law_words.nd rfl (Or.inl rfl) (pe_lst pa_nil))
    (pss_cons (ps_for PassesOwn.never rfl (pi_range1 (by rfl) m_range (pa_cons (pe_op op_add pe_int (pe_op op_mul (pe_cal C__law_draw (hr.mono (by decide)) (pa_cons (pv 0) (pa_cons pe_int pa_nil))) (pe_cal C__law_draw (hr.mono (by decide)) (pa_cons (pv 0) (pa_cons pe_int pa_nil))))) pa_nil)) (pg_name (i := 4) sc__law_words.nd rfl (Or.inl rfl))
      (pss_cons (ps_set (i := 6) sc__law_words.nd rfl (Or.inl rfl) (pe_ix ix_str pe_str (pe_cal C__law_draw (hr.mono (by decide)) (pa_cons (pv 0) (pa_cons pe_int pa_nil))) (fun _ _ => rfl)))
    (pss_cons (ps_for PassesOwn.never rfl (pi_range1 (by rfl) m_range (pa_cons (pe_ix ix_list (pe_lst (pa_cons pe_int (pa_cons pe_int (pa_cons pe_int pa_nil)))) (pe_cal C__law_draw (hr.mono (by decide)) (pa_cons (pv 0) (pa_cons pe_int pa_nil))) (fun _ _ => rfl)) pa_nil)) (pg_name (i := 7) sc__law_words.nd rfl (Or.inl rfl))
      (pss_one (ps_set (i := 6) sc__law_words.nd rfl (Or.inl rfl) (pe_op op_add_str (pv 6) (pe_ix ix_str pe_str (pe_cal C__law_draw (hr.mono (by decide)) (pa_cons (pv 0) (pa_cons pe_int pa_nil))) (fun _ _ => rfl))))))
    (pss_one (ps_expr (pe_bm PySem.F.plainAttrs_list PySem.F.slot_list_append PySem.F.type_list_append mt_append (pv 3) (pa_cons (pv 6) pa_nil)))))))
    (pss_cons (ps_set (i := 5) sc__law_words.nd rfl (Or.inl rfl) (pe_join pe_str (pv 3)))
    (pss_cons (ps_if (pt_cmpR op_eq (pe_cal C__law_draw (hr.mono (by decide)) (pa_cons (pv 0) (pa_cons pe_int pa_nil))) pe_int (nomark _))
      (pss_one (ps_set (i := 5) sc__law_words.nd rfl (Or.inl rfl) (pe_ix ix_list (pe_lst (pa_cons pe_str (pa_cons pe_str (pa_cons pe_str (pa_cons pe_str (pa_cons pe_str (pa_cons pe_str (pa_cons pe_str (pa_cons pe_str (pa_cons pe_str (pa_cons pe_str (pa_cons pe_str pa_nil)))))))))))) (pe_cal C__law_draw (hr.mono (by decide)) (pa_cons (pv 0) (pa_cons pe_int pa_nil))) (fun _ _ => rfl))))
      pss_nil)
    (pss_cons (ps_if (PW.pt (pw_and (pt_cmpR op_gt (pv 2) pe_int (nomark _)) (pw_and1 (pt_cmpR op_eq (pe_cal C__law_draw (hr.mono (by decide)) (pa_cons (pv 0) (pa_cons pe_int pa_nil))) pe_int (nomark _)))))
      (pss_one (ps_set (i := 5) sc__law_words.nd rfl (Or.inl rfl) (pe_ix ix_list (pv 1) pe_int (fun _ _ => rfl))))
      pss_nil)
    (pss_one (ps_expr (pe_bm PySem.F.plainAttrs_list PySem.F.slot_list_append PySem.F.type_list_append mt_append (pv 1) (pa_cons (pv 5) pa_nil))))))))))
    (pss_cons (ps_if (pt_cmpR op_gt (pe_cal C__law_draw (hr.mono (by decide)) (pa_cons (pv 0) (pa_cons pe_int pa_nil))) pe_int (nomark _))
      (pss_one (ps_set (i := 1) sc__law_words.nd rfl (Or.inl rfl) (pe_callB (id := "sorted") cr_sortedS (by rfl) m_sorted (by decide +kernel) (pa_cons (pv 1) pa_nil))))
      pss_nil)
    (pss_one (ps_ret (pv 1)))))), ?_⟩
    walk_at "rd"
    refine ⟨sz (by show 0 ≤ 100000; decide), fun W nW => ?_⟩
    have aW := src_ne hA nW
    walk_at "rd"
    refine draw_of (lim := 6) (src_upd hA aW) (by decide) fun n H1 hn0 hn1 b1 A1 => ?_
    walk_at "rd"
    refine ⟨by omega, by omega, ?_⟩
    refine for_range (lo := 0) (n := n.toNat) (fun i σ H' => ∃ (y2 y3 y4 y5 y6 y7 : Option V) (ns : List Str), σ = [some (.ref a), some (.ref W), y2, y3, y4, y5, y6, y7] ∧ H' W = some (.lst (ns.map V.str)) ∧ ns.length = i ∧ (∀ x ∈ ns, smallS x) ∧ SameBut a H H' ∧ Src H' a)
      ⟨none, none, none, none, none, none, [], rfl, b1 _ _ aW.symm upd_same, rfl, (fun _ h => by cases h), but_new nW b1, A1⟩ ?_ ?_
    · rintro i σ H2 hi ⟨y2, y3, y4, y5, y6, y7, ns, rfl, hW, hnl, hok, b2, A2⟩
      walk_at "rd"
      refine ⟨sz (by show 0 ≤ 100000; decide), fun L nL => ?_⟩
      have aL := src_ne A2 nL
      have nWL : W ≠ L := ne_of_none hW nL
      walk_at "rd"
      refine draw_of (lim := 2) (src_upd A2 aL) (by decide) fun r3 H3 h30 h31 b3 A3 => ?_
      walk_at "rd"
      refine draw_of (lim := 3) A3 (by decide) fun r4 H4 h40 h41 b4 A4 => ?_
      walk_at "rd"
      refine ⟨.inl ⟨by omega, by omega⟩, ?_⟩
      have hm0 : 0 ≤ r3 * r4 := Int.mul_nonneg h30 h40
      have hm1 : r3 * r4 ≤ 1 * 2 := Int.mul_le_mul (by omega) (by omega) h40 (by omega)
      walk_at "rd"
      refine ⟨by omega, by omega, ?_⟩
      refine for_range (lo := 0) (n := (1 + r3 * r4).toNat) (fun j σ H' => ∃ (y4 y5 y6 y7 : Option V) (ps : List Str), σ = [some (.ref a), some (.ref W), some (.int (0 + (i : Nat))), some (.ref L), y4, y5, y6, y7] ∧ H' L = some (.lst (ps.map V.str)) ∧ ps.length = j ∧ (∀ p ∈ ps, p.length ≤ 9 ∧ okP p) ∧ SameBut a H2 H' ∧ Src H' a)
        ⟨y4, y5, y6, y7, [], rfl, (b3.trans b4) _ _ aL.symm upd_same, rfl, (fun _ h => by cases h), but_new nL (b3.trans b4), A4⟩ ?_ ?_
      · rintro j σ H5 hj ⟨y4, y5, y6, y7, ps, rfl, hL, hpl, hps, b5, A5⟩
        walk_at "rd"
        refine draw_of (lim := 26) A5 (by decide) fun r6 H6 h60 h61 b6 A6 => ?_
        obtain ⟨c, hc, hcm⟩ := pick (L := Str.ofString "abcdefghijklmnopqrstuvwxyz") h60 h61
        refine ⟨_, _, _, rfl, rfl, (by decide), hc, ?_⟩
        walk_at "rd"
        refine ⟨sz (by show 3 ≤ 100000; decide), fun l nl => ?_⟩
        have al := src_ne A6 nl
        walk_at "rd"
        refine draw_of (lim := 3) (src_upd A6 al) (by decide) fun r7 H7 h70 h71 b7 A7 => ?_
        obtain ⟨m, hm, hm3⟩ := pick3 (a := 0) (b := 1) (c := 7) h70 h71
        have m0 : 0 ≤ m := by
          rcases hm3 with e | e | e <;> omega
        have m1 : m ≤ 7 := by
          rcases hm3 with e | e | e <;> omega
        walk_at "rd"
        refine ⟨_, _, _, _, rfl, rfl, sq (b7 _ _ al.symm upd_same), hm, ?_⟩
        walk_at "rd"
        refine ⟨by omega, by omega, ?_⟩
        have b57 : SameBut a H5 H7 := b6.trans (but_new nl b7)
        have e0 : (⟨#[c]⟩ : Str) = Str.empty ++ ⟨#[c]⟩ := ext_tl (by rw [tl_append]; rfl)
        refine for_range (lo := 0) (n := m.toNat) (fun i2 σ H' => ∃ (y7 : Option V) (p : Str), σ = [some (.ref a), some (.ref W), some (.int (0 + (i : Nat))), some (.ref L), some (.int (0 + (j : Nat))), y5, some (.str p), y7] ∧ p.length ≤ 1 + i2 ∧ okP p ∧ SameBut a H5 H' ∧ Src H' a)
          ⟨y7, _, rfl, Nat.le_refl _, (by rw [e0]; exact okP_app (fun d hd => by cases hd) (by decide +kernel) hcm), b57, A7⟩ ?_ ?_
        · rintro i2 σ H8 hi2 ⟨y7, p, rfl, hp, hpo, b8, A8⟩
          walk_at "rd"
          refine draw_of (lim := 10) A8 (by decide) fun r9 H9 h90 h91 b9 A9 => ?_
          obtain ⟨c, hc, hcm⟩ := pick (L := Str.ofString "abcxyz0189") h90 h91
          refine ⟨_, _, _, rfl, rfl, (by decide), hc, ?_⟩
          walk_at "rd"
          refine ⟨sz (by show p.length + 1 ≤ 100000; omega), ?_⟩
          refine ⟨_, _, rfl, ?_, okP_app hpo (by decide +kernel) hcm, b8.trans b9, A9⟩
          rw [app_len]
          show p.length + 1 ≤ _
          omega
        · rintro σ H8 ⟨y7, p, rfl, hp, hpo, b8, A8⟩
          have hL8 := b8 _ _ aL.symm hL
          walk_at "rd"
          refine ⟨.inl ⟨rfl, _, sq hL8⟩, ?_⟩
          walk_at "rd"
          refine ⟨_, _, _, rfl, rfl, hL8, ?_, ?_⟩
          · rw [List.length_map]
            exact szl (by omega)
          refine ⟨_, _, _, _, ps ++ [p], rfl, by rw [upd_same, List.map_append]; rfl, by rw [List.length_append, hpl]; rfl, fun x hx => ?_, but_at nL (b5.trans b8), src_upd A8 aL⟩
          rcases List.mem_append.mp hx with h | h
          · exact hps x h
          · rw [List.mem_singleton.mp h]
            exact ⟨by omega, hpo⟩
      · rintro σ H5 ⟨y4, y5, y6, y7, ps, rfl, hL, hpl, hps, b5, A5⟩
        have hW5 := b5 _ _ aW.symm hW
        have hpne : ps ≠ [] := fun e => by
          rw [e] at hpl
          have : (0 : Nat) = (1 + r3 * r4).toNat := hpl
          omega
        have hsum := sum_le fun p hp => (hps p hp).1
        walk_at "rd"
        refine ⟨_, _, ps, rfl, rfl, .inl (sq hL), ?_, ?_⟩
        · show (ps.map (·.length)).sum + ps.length * 1 ≤ _
          omega
        have hsm := small_join hpne (by omega) hps
        walk_at "rd"
        refine draw_of (lim := 10) A5 (by decide) fun r6 H6 _ _ b6 A6 => ?_
        walk_at "rd"
        apply cont_of2 (R := fun (t : Str) H' => smallS t ∧ SameBut a H5 H' ∧ Src H' a)
        · intro k
          refine ite2 (fun h2 => ?_) (fun h2 => ?_)
          · walk_at "rd"
            refine ⟨sz (by show 11 ≤ 100000; decide), fun l nl => ?_⟩
            have al := src_ne A6 nl
            walk_at "rd"
            refine draw_of (lim := 11) (src_upd A6 al) (by decide) fun r7 H7 h70 h71 b7 A7 => ?_
            have hb : ∃ z, atI (badS.map V.str) r7 = some (V.str z) ∧ z ∈ badS := by
              obtain ⟨n7, rfl⟩ := Int.eq_ofNat_of_zero_le h70
              have h8 : n7 < badS.length := by
                show n7 < 11
                omega
              exact ⟨badS[n7], atI_nat (by rw [List.getElem?_map, List.getElem?_eq_getElem h8]; rfl), List.getElem_mem h8⟩
            obtain ⟨z, hz, hzb⟩ := hb
            walk_at "rd"
            refine ⟨_, _, _, _, rfl, rfl, sq (b7 _ _ al.symm upd_same), hz, ?_⟩
            walk_at "rd"
            exact k z H7 ⟨bad_small z hzb, b6.trans (but_new nl b7), A7⟩
          · walk_at "rd"
            exact k _ H6 ⟨hsm, b6, A6⟩
        · rintro t H7 ⟨ht, b7, A7⟩
          have hW7 := b7 _ _ aW.symm hW5
          have b27 := b2.trans (b5.trans b7)
          walk_at "rd"
          apply cont_of2 (R := fun (t : Str) H' => smallS t ∧ SameBut a H7 H' ∧ Src H' a)
          · intro k
            refine ite2 (fun h3 => ?_) (fun h3 => ?_)
            · have hi0 : 0 < i := by
                have h4 : (0 : Int) < 0 + (i : Nat) := of_decide_eq_true h3
                omega
              obtain ⟨n0, nr, hn0⟩ : ∃ x r, ns = x :: r := by
                cases ns with
                | nil =>
                  have : (0 : Nat) = i := hnl
                  omega
                | cons x r => exact ⟨x, r, rfl⟩
              walk_at "rd"
              refine draw_of (lim := 8) A7 (by decide) fun r8 H8 _ _ b8 A8 => ?_
              walk_at "rd"
              refine ite2 (fun h4 => ?_) (fun h4 => ?_)
              · walk_at "rd"
                refine ⟨_, _, _, _, rfl, rfl, sq (b8 _ _ aW.symm hW7), (by rw [hn0]; exact atI_nat (j := 0) rfl : atI (ns.map V.str) 0 = some (V.str n0)), ?_⟩
                walk_at "rd"
                exact k n0 H8 ⟨hok n0 (by rw [hn0]; exact List.mem_cons_self), b8, A8⟩
              · walk_at "rd"
                exact k t H8 ⟨ht, b8, A8⟩
            · walk_at "rd"
              exact k t H7 ⟨ht, SameBut.refl a H7, A7⟩
          · rintro t2 H8 ⟨ht2, b8, A8⟩
            have hW8 := b8 _ _ aW.symm hW7
            walk_at "rd"
            refine ⟨.inl ⟨rfl, _, sq hW8⟩, ?_⟩
            walk_at "rd"
            refine ⟨_, _, _, rfl, rfl, hW8, ?_, ?_⟩
            · rw [List.length_map]
              exact szl (by omega)
            refine ⟨_, _, _, _, _, _, ns ++ [t2], rfl, by rw [upd_same, List.map_append]; rfl, by rw [List.length_append, hnl]; rfl, fun x hx => ?_, but_at nW (b27.trans b8), src_upd A8 aW⟩
            rcases List.mem_append.mp hx with h | h
            · exact hok x h
            · rw [List.mem_singleton.mp h]
              exact ht2
    · rintro σ H2 ⟨y2, y3, y4, y5, y6, y7, ns, rfl, hW, hnl, hok, b2, A2⟩
      walk_at "rd"
      refine draw_of (lim := 3) A2 (by decide) fun r3 H3 _ _ b3 A3 => ?_
      have hW3 := b3 _ _ aW.symm hW
      walk_at "rd"
      refine ite2 (fun h3 => ?_) (fun h3 => ?_)
      · walk_at "rd"
        refine ⟨_, ns, rfl, sq hW3, by omega, fun ys p pm _ np => ?_⟩
        walk_at "rd"
        refine q p ys _ (by rw [pm.length_eq]; omega) (fun x hx => hok x (pm.mem_iff.mp hx)) (src_ne A3 np) upd_same (but_at (but_free (b2.trans b3) (src_ne A3 np).symm np) (b2.trans b3)) (src_upd A3 (src_ne A3 np))
      · walk_at "rd"
        exact q W ns H3 (by omega) hok aW hW3 (b2.trans b3) A3
end
end K03
namespace K03
local macro_rules | `(tactic| walk_at "rd") => `(tactic| repeat (first | refine ⟨rfl, ?_⟩ | refine ⟨_, rfl, ?_⟩ | refine ⟨_, _, rfl, rfl, ?_⟩ | refine ⟨⟨_, rfl⟩, ?_⟩))
open PySem PySem.Spec PyProof.Rows L2 Bx TL Dx Sup Er NdefX
section
variable {P : Program} {w : World} {K : PySem.W.Frag} {mg : Str → Option Value} {base : Heap}
/-! ### the law's own test of a full name -/
def spLawIsName : Sp := fun vs H Q _ => ∃ z : Str, vs = [.str z] ∧ smallS z ∧ ∀ H', Same H H' → Q (.bl (fullB z)) H'
theorem full_false {z p : Str} (hp : p ∈ Txt.split z ".") (h : okName (tl p) = false) : fullB z = false := by
  unfold fullB
  rw [Bool.eq_false_iff]
  intro ha
  rw [List.all_eq_true.mp ha p hp] at h
  cases h
theorem ok_law_is_name {f : Addr} {fd : FuncData} (F : Fun K "_law_is_name" "_law_is_name" s__law_is_name f fd) (m_len : mg "len" = none) : FnOk P w K mg base CX0 1 f fd ["_law_word"] spLawIsName := by
  refine F.ok sc__law_is_name (fun vs H Q E h => ?_) (fun cdv A outer s H vs Q E hr h => ?_)
  · obtain ⟨z, rfl, _⟩ := h
    rfl
  · obtain ⟨z, rfl, ⟨hz, hp, hn, hok⟩, q⟩ := h
    refine ⟨_, (pss_cons (ps_for PassesOwn.never rfl (pi_list (pe_split (pv 0) pe_str)) (pg_name (i := 1) sc__law_is_name.nd rfl (Or.inl rfl))
      (pss_cons (ps_if (PW.pt (pw_or (pt_cmpR op_eq (pv 1) pe_str (nomark _)) (pw_or (pt_cmpR op_gt (pe_callB call_len_str (by rfl) m_len PySem.boot_len (pa_cons (pv 1) pa_nil)) pe_int (nomark _)) (pw_or1 (pt_cmpR op_notIn_sign (pe_ix ix_str (pv 1) pe_int (fun _ _ => rfl)) pe_str (by rfl))))))
      (pss_one (ps_ret pe_bl))
      pss_nil)
    (pss_one (ps_for PassesOwn.never rfl (pi_str (pv 1)) (pg_name (i := 2) sc__law_is_name.nd rfl (Or.inl rfl))
      (pss_one (ps_if (pt_cmpR op_notIn_sign (pv 2) pe_str (by rfl))
      (pss_one (ps_ret pe_bl))
      pss_nil))))))
    (pss_one (ps_ret pe_bl))), ?_⟩
    walk_at "rd"
    refine ⟨sz (by omega), fun L nL => ?_⟩
    refine ⟨L, rfl, ⟨_, sq upd_same⟩, for_list (K := K) (a := L) (xs := (Txt.split z ".").map V.str) (fun i σ H' => ∃ (y1 y2 : Option V), σ = [some (.str z), y1, y2] ∧ H' = upd H L (.lst ((Txt.split z ".").map V.str)) ∧ ∀ j p, j < i → (Txt.split z ".")[j]? = some p → okName (tl p) = true)
      ⟨none, none, rfl, rfl, fun j p hj => absurd hj (Nat.not_lt_zero _)⟩ (fun i σ H' _ ⟨_, _, _, e, _⟩ => e ▸ sq upd_same) ?_ ?_⟩
    · rintro i x σ H1 hx ⟨y1, y2, rfl, rfl, hall⟩
      obtain ⟨p, hpi, rfl⟩ := at_map hx
      have hpm := List.mem_of_getElem? hpi
      have hpl := hp p hpm
      have hp2 : p.length ≤ sizeLine := sz (by omega)
      have hlen : (tl p).length = p.length := (len_tl p).symm
      have fin : okName (tl p) = false → Q (.bl false) (upd H L (.lst ((Txt.split z ".").map V.str))) := fun h => by
        have e := full_false hpm h
        rw [e] at q
        exact q _ (same_new nL)
      walk_at "rd"
      refine ite2 (fun h0 => ?_) (fun h0 => ?_)
      · have e : p = Str.ofString "" := V.str.inj (of_decide_eq_true h0)
        walk_at "rd"
        exact fin (by rw [e]; rfl)
      · obtain ⟨c, l, e⟩ : ∃ c l, tl p = c :: l := by
          cases e : tl p with
          | nil => exact absurd (decide_eq_true (congrArg V.str (ext_tl (e.trans rfl)))) h0
          | cons c l => exact ⟨c, l, rfl⟩
        walk_at "rd"
        refine ⟨hp2, ?_⟩
        walk_at "rd"
        refine ite2 (fun h1 => ?_) (fun h1 => ?_)
        · have h2 : (8 : Int) < p.length := of_decide_eq_true h1
          walk_at "rd"
          refine fin ?_
          rw [e] at hlen ⊢
          show (decide ((c :: l).length ≤ 8) && _ && _) = false
          rw [decide_eq_false (by omega)]
          rfl
        · have h2 : ¬ (8 : Int) < p.length := fun c => h1 (decide_eq_true c)
          have hc : atI p.cps.toList 0 = some c := by
            show atI (tl p) ((0 : Nat) : Int) = some c
            exact atI_nat (by rw [e]; rfl)
          walk_at "rd"
          refine ⟨_, _, _, rfl, rfl, hp2, hc, ?_⟩
          walk_at "rd"
          refine ite2 (fun h3 => ?_) (fun h3 => ?_)
          · have h4 : c ∉ lett := fun z => by
              have h4 : (!decide (c ∈ (Str.ofString "abcdefghijklmnopqrstuvwxyz").cps.toList)) = true := h3
              rw [show (Str.ofString "abcdefghijklmnopqrstuvwxyz").cps.toList = lett from tl_lett, decide_eq_true z] at h4
              cases h4
            walk_at "rd"
            refine fin ?_
            rw [e]
            show (_ && decide (c ∈ lett) && _) = false
            rw [decide_eq_false h4, Bool.and_false]
            rfl
          · have h4 : c ∈ lett := Decidable.byContradiction fun z => h3 (by
              show (!decide (c ∈ (Str.ofString "abcdefghijklmnopqrstuvwxyz").cps.toList)) = true
              rw [show (Str.ofString "abcdefghijklmnopqrstuvwxyz").cps.toList = lett from tl_lett, decide_eq_false z]
              rfl)
            have hpn : p.cps.size = (tl p).length := (Array.length_toList).symm
            walk_at "rd"
            refine for_it walk_str (fun k σ H' => ∃ y2 : Option V, σ = [some (.str z), some (.str p), y2] ∧ H' = upd H L (.lst ((Txt.split z ".").map V.str)) ∧ ∀ j d, j < k → (tl p)[j]? = some d → d ∈ lett ++ digs) ⟨y2, rfl, rfl, fun j d hj => absurd hj (Nat.not_lt_zero _)⟩ (fun _ _ _ _ _ => trivial) ?_ ?_
            · rintro k x σ H2 H3 hk ⟨y3, rfl, rfl, hd⟩ ⟨rfl, d, hdk, rfl⟩
              have hd2 : (tl p)[k]? = some d := by
                rw [← Array.getElem?_toList] at hdk
                exact hdk
              walk_at "rd"
              refine ite2 (fun h5 => ?_) (fun h5 => ?_)
              · have h6 : d ∉ lett ++ digs := fun z => by
                  have h4 : (!decide (d ∈ (Str.ofString "abcdefghijklmnopqrstuvwxyz0123456789").cps.toList)) = true := h5
                  rw [show (Str.ofString "abcdefghijklmnopqrstuvwxyz0123456789").cps.toList = lett ++ digs from tl_ld, decide_eq_true z] at h4
                  cases h4
                walk_at "rd"
                refine fin ?_
                have hm := List.mem_of_getElem? hd2
                rw [e] at hm ⊢
                show (_ && List.all (c :: l) _) = false
                rw [Bool.and_eq_false_iff]
                refine .inr (Bool.eq_false_iff.mpr fun w => h6 (of_decide_eq_true (List.all_eq_true.mp w d hm)))
              · have h6 : d ∈ lett ++ digs := Decidable.byContradiction fun z => h5 (by
                  show (!decide (d ∈ (Str.ofString "abcdefghijklmnopqrstuvwxyz0123456789").cps.toList)) = true
                  rw [show (Str.ofString "abcdefghijklmnopqrstuvwxyz0123456789").cps.toList = lett ++ digs from tl_ld, decide_eq_false z]
                  rfl)
                refine ⟨_, rfl, rfl, fun j d2 hj hd3 => ?_⟩
                rcases Nat.lt_succ_iff_lt_or_eq.mp hj with h | h
                · exact hd j d2 h hd3
                · rw [h, hd2] at hd3
                  cases hd3
                  exact h6
            · rintro σ H2 ⟨y3, rfl, rfl, hd⟩
              refine ⟨_, _, rfl, rfl, fun j p2 hj hp3 => ?_⟩
              rcases Nat.lt_succ_iff_lt_or_eq.mp hj with h | h
              · exact hall j p2 h hp3
              · rw [h, hpi] at hp3
                cases hp3
                rw [e]
                show (decide ((c :: l).length ≤ 8) && decide (c ∈ lett) && (c :: l).all fun d => decide (d ∈ lett ++ digs)) = true
                rw [e] at hlen
                rw [decide_eq_true (show (c :: l).length ≤ 8 by omega), decide_eq_true h4, Bool.true_and, Bool.true_and]
                refine List.all_eq_true.mpr fun d hd4 => ?_
                obtain ⟨j2, hj2⟩ := List.mem_iff_getElem?.mp (show d ∈ tl p by rw [e]; exact hd4)
                exact decide_eq_true (hd j2 d (by rw [hpn]; exact (List.getElem?_eq_some_iff.mp hj2).1) hj2)
    · rintro σ H1 ⟨y1, y2, rfl, rfl, hall⟩
      walk_at "rd"
      have e : fullB z = true := List.all_eq_true.mpr fun p hpm => by
        obtain ⟨j, hj⟩ := List.mem_iff_getElem?.mp hpm
        exact hall j p (by rw [List.length_map]; exact (List.getElem?_eq_some_iff.mp hj).1) hj
      rw [e] at q
      exact q _ (same_new nL)
end
end K03
namespace K03
local macro_rules | `(tactic| walk_at "rd") => `(tactic| repeat (first | refine ⟨rfl, ?_⟩ | refine ⟨_, rfl, ?_⟩ | refine ⟨_, _, rfl, rfl, ?_⟩ | refine ⟨⟨_, rfl⟩, ?_⟩))
open PySem PySem.Spec PyProof.Rows L2 Bx TL Dx Sup Er NdefX
theorem asc_snoc {l : List Str} {p n : Str} : ascB ((l ++ [p]) ++ [n]) = (ascB (l ++ [p]) && decide (p.cps.toList < n.cps.toList)) := by
  rw [Bool.eq_iff_iff, Bool.and_eq_true, ascB_iff, ascB_iff, decide_eq_true_iff]
  constructor
  · intro h
    obtain ⟨h1, _, h3⟩ := List.pairwise_append.mp h
    exact ⟨h1, h3 p (by simp) n (by simp)⟩
  · rintro ⟨h1, h2⟩
    refine List.pairwise_append.mpr ⟨h1, List.pairwise_singleton _ _, fun x hx y hy => ?_⟩
    rw [List.mem_singleton.mp hy]
    rcases List.mem_append.mp hx with h | h
    · exact List.lt_trans ((List.pairwise_append.mp h1).2.2 x h p (by simp)) h2
    · rw [List.mem_singleton.mp h]
      exact h2
theorem names_snoc {l : List Str} {p n : Str} : namesB ((l ++ [p]) ++ [n]) = (namesB (l ++ [p]) && (fullB n && decide (p.cps.toList < n.cps.toList))) := by
  unfold namesB
  rw [asc_snoc, List.all_append (ys := [n]), List.all_cons, List.all_nil, Bool.and_true]
  cases (l ++ [p]).all fullB <;> cases fullB n <;> cases ascB (l ++ [p]) <;> rfl
theorem names_one {n : Str} : namesB [n] = fullB n := by
  unfold namesB
  rw [show ascB [n] = true from ascB_iff.mpr (List.pairwise_singleton _ _), List.all_cons, List.all_nil, Bool.and_true, Bool.and_true]
theorem names_false {l : List Str} {n : Str} (h : fullB n = false) : namesB (l ++ [n]) = false := by
  unfold namesB
  rw [List.all_append, List.all_cons, h, Bool.false_and, Bool.and_false, Bool.false_and]
section
variable {P : Program} {w : World} {K : PySem.W.Frag} {mg : Str → Option Value} {base : Heap}
theorem ty_tup {H : Hp} {a : Addr} {xs : List V} (h : SqT K H a xs) : TyX K H (.ref a) (.type "tuple") := by
  rcases h with (h | ⟨o, h⟩) | h
  · exact .base (.tup h)
  · exact .fTuple h
  · obtain ⟨o, its, n, h1, h2, _⟩ := h
    exact .kTuple h1 h2
theorem lay_names {ns : List Str} (h : ∀ x ∈ ns, smallS x) : Lay 1 (.tuple (ns.map PyData.str)) ∧ Lay 1 (.list (ns.map PyData.str)) :=
  ⟨lay_tuple (lays_strs fun x hx => (h x hx).2.2.2), lay_list (lays_strs fun x hx => (h x hx).2.2.2)⟩
/-! ### names are read right -/
theorem ok_names_right {f : Addr} {fd : FuncData} (F : Fun K "_law_names_right" "_law_names_right" s__law_names_right f fd) (m_isinstance : mg "isinstance" = none) (m_len : mg "len" = none) (m_range : mg "range" = none) (m_list : mg "list" = none) (m_tuple : mg "tuple" = none)
    (C__law_draw : Cal P w K mg base "_law_draw" 1 ["_law_source_here", "_law_limit"] spDraw) (C__law_words : Cal P w K mg base "_law_words" 2 ["_law_source_here"] spWords) (C__law_is_name : Cal P w K mg base "_law_is_name" 1 ["_law_word"] spLawIsName) (C__law_names : Cal P w K mg base "_law_names" 5 ["_law_words_here", "_law_at"] (spLawNames K)) :
    FnOk P w K mg base CX0 6 f fd ["_law_source_here"] spRight := by
  refine F.ok sc__law_names_right (fun vs H Q E h => ?_) (fun cdv A outer s H vs Q E hr h => ?_)
  · obtain ⟨a, rfl, _⟩ := h
    rfl
  · obtain ⟨a, rfl, hA, q⟩ := h
    refine ⟨_, (pss_cons (ps_set (i := 1) sc__law_names_right.nd rfl (Or.inl rfl) (pe_cal C__law_words (hr.mono (by decide)) (pa_cons (pv 0) pa_nil)))
    (pss_cons (ps_set (i := 2) sc__law_names_right.nd rfl (Or.inl rfl) (pe_op op_add pe_int (pe_op op_mul (pe_cal C__law_draw (hr.mono (by decide)) (pa_cons (pv 0) (pa_cons pe_int pa_nil))) (pe_cal C__law_draw (hr.mono (by decide)) (pa_cons (pv 0) (pa_cons (pe_op op_pow pe_int pe_int) pa_nil))))))
    (pss_cons (ps_set (i := 3) sc__law_names_right.nd rfl (Or.inl rfl) pe_bl)
    (pss_cons (ps_for PassesOwn.never rfl (pi_range1 (by rfl) m_range (pa_cons (pe_callB call_len_seq (by rfl) m_len PySem.boot_len (pa_cons (pv 1) pa_nil)) pa_nil)) (pg_name (i := 4) sc__law_names_right.nd rfl (Or.inl rfl))
      (pss_one (ps_if (PW.pt (pw_or (pt_not (pt_val (pe_cal C__law_is_name (hr.mono (by decide)) (pa_cons (pe_ix ix_list (pv 1) (pv 4) (fun _ _ => rfl)) pa_nil)))) (pw_or1 (PW.pt (pw_and (pt_cmpR op_gt (pv 4) pe_int (nomark _)) (pw_and1 (pt_cmpR op_ge_str (pe_ix ix_list (pv 1) (pe_op op_sub (pv 4) pe_int) (fun _ _ => rfl)) (pe_ix ix_list (pv 1) (pv 4) (fun _ _ => rfl)) (nomark _))))))))
      (pss_one (ps_set (i := 3) sc__law_names_right.nd rfl (Or.inl rfl) pe_bl))
      pss_nil)))
    (pss_cons (ps_set (i := 5) sc__law_names_right.nd rfl (Or.inl rfl) (pe_callTy (T := "list") call_list_of (by rfl) m_list (by decide +kernel) (pa_cons (pv 1) pa_nil)))
    (pss_cons (ps_set (i := 6) sc__law_names_right.nd rfl (Or.inl rfl) (pe_cal C__law_names (hr.mono (by decide)) (pa_cons (pv 5) (pa_cons (pv 2) pa_nil))))
    (pss_cons (ps_if (PW.pt (pw_or (pt_cmpR (op_neD hr.units) (pv 5) (pv 1) (nomark _)) (pw_or1 (pt_cmpR (op_neD hr.units) (pe_cal C__law_names (hr.mono (by decide)) (pa_cons (pe_callTy (T := "tuple") call_tuple_of (by rfl) m_tuple (by decide +kernel) (pa_cons (pv 1) pa_nil)) (pa_cons (pv 2) pa_nil))) (pv 6) (nomark _)))))
      (pss_one (ps_ret pe_bl))
      pss_nil)
    (pss_cons (ps_if (pt_not (pt_val (pv 3)))
      (pss_one (ps_ret (pe_cmpR (op_eqD hr.units) (pv 6) (pe_lst (pa_cons pe_str (pa_cons (pv 2) pa_nil))) (nomark _))))
      pss_nil)
    (pss_one (ps_ret (pe_and (pe_callB (id := "isinstance") call_isi (by rfl) m_isinstance (by decide +kernel) (pa_cons (pv 6) (pa_cons (pe_bltn (v := .ty "tuple") (by rfl) m_tuple (by decide +kernel) rfl) pa_nil))) (pe_one (pe_cmpR (op_eqD hr.units) (pe_callTy (T := "list") call_list_of (by rfl) m_list (by decide +kernel) (pa_cons (pv 6) pa_nil)) (pv 1) (nomark _)))))))))))))), ?_⟩
    walk_at "rd"
    refine ⟨hA, fun r ns H1 hnl hok ar hr1 b1 A1 => ?_⟩
    walk_at "rd"
    refine draw_of (lim := 3) A1 (by decide) fun r2 H2 h20 h21 b2 A2 => ?_
    walk_at "rd"
    refine ⟨⟨by decide, by decide, by decide⟩, ?_⟩
    walk_at "rd"
    refine draw_of (lim := 1000000) A2 (by decide) fun r3 H3 h30 h31 b3 A3 => ?_
    walk_at "rd"
    refine ⟨.inl ⟨by omega, by omega⟩, ?_⟩
    have hat := at_bound h20 h21 h30 h31
    have b13 := b1.trans (b2.trans b3)
    have hr3 := (b2.trans b3) _ _ ar.symm hr1
    generalize hi : 1 + r2 * r3 = i at hat
    walk_at "rd"
    refine ⟨_, _, rfl, .inl (sq hr3), ?_⟩
    walk_at "rd"
    refine ⟨by omega, by rw [List.length_map]; omega, ?_⟩
    refine for_range (lo := 0) (n := (((ns.map V.str).length : Nat) : Int).toNat) (fun k σ H' => ∃ y4 : Option V, σ = [some (.ref a), some (.ref r), some (.int (1 + r2 * r3)), some (.bl (namesB (ns.take k))), y4, none, none] ∧ Same H3 H') ⟨none, rfl, Same.refl _⟩ ?_ ?_
    · rintro k σ H4 hk ⟨y4, rfl, s4⟩
      rw [Int.toNat_natCast, List.length_map] at hk
      obtain ⟨n, hn⟩ : ∃ n, ns[k]? = some n := ⟨_, List.getElem?_eq_getElem hk⟩
      have hnm := List.mem_of_getElem? hn
      have hix : atI (ns.map V.str) (0 + (k : Nat) : Int) = some (V.str n) := by
        rw [Int.zero_add]
        exact atI_nat (by rw [List.getElem?_map, hn]; rfl)
      have htk : ns.take (k + 1) = ns.take k ++ [n] := by rw [List.take_add_one, hn]; rfl
      walk_at "rd"
      refine ⟨_, _, _, _, rfl, rfl, sq (s4 _ _ hr3), hix, ?_⟩
      walk_at "rd"
      refine ⟨hok n hnm, fun H5 s5 => ?_⟩
      walk_at "rd"
      cases hf : fullB n with
      | false =>
        walk_at "rd"
        refine ⟨some (.int (0 + (k : Nat))), ?_, Same.trans s4 s5⟩
        rw [htk, names_false hf]
        rfl
      | true =>
        walk_at "rd"
        refine ite2 (fun h1 => ?_) (fun h1 => ?_)
        · have hk0 : 0 < k := by
            have h4 : (0 : Int) < 0 + (k : Nat) := of_decide_eq_true h1
            omega
          obtain ⟨k1, rfl⟩ : ∃ k1, k = k1 + 1 := ⟨k - 1, by omega⟩
          obtain ⟨p, hp⟩ : ∃ p, ns[k1]? = some p := ⟨_, List.getElem?_eq_getElem (by omega)⟩
          have hip : atI (ns.map V.str) (0 + ((k1 + 1 : Nat) : Int) - 1) = some (V.str p) := by
            rw [show (0 + ((k1 + 1 : Nat) : Int) - 1) = ((k1 : Nat) : Int) by omega]
            exact atI_nat (by rw [List.getElem?_map, hp]; rfl)
          have htk1 : ns.take (k1 + 1) = ns.take k1 ++ [p] := by rw [List.take_add_one, hp]; rfl
          have hr5 := (Same.trans s4 s5) _ _ hr3
          walk_at "rd"
          refine ⟨_, _, _, _, rfl, rfl, sq hr5, hip, ?_⟩
          walk_at "rd"
          refine ⟨_, _, _, _, rfl, rfl, sq hr5, hix, ?_⟩
          walk_at "rd"
          have e9 : namesB (ns.take (k1 + 1 + 1)) = (namesB (ns.take (k1 + 1)) && decide (p.cps.toList < n.cps.toList)) := by
            rw [htk, htk1, names_snoc, hf, Bool.true_and]
          refine ite2 (fun h2 => ?_) (fun h2 => ?_)
          · have h3 : (!decide (p.cps.toList < n.cps.toList)) = true := h2
            walk_at "rd"
            refine ⟨some (.int (0 + ((k1 + 1 : Nat) : Int))), ?_, Same.trans s4 s5⟩
            have h6 : decide (p.cps.toList < n.cps.toList) = false := by
              cases h5 : decide (p.cps.toList < n.cps.toList) with
              | true =>
                rw [h5] at h3
                cases h3
              | false => rfl
            rw [e9, h6, Bool.and_false]
            rfl
          · have h3 : decide (p.cps.toList < n.cps.toList) = true := by
              cases h5 : decide (p.cps.toList < n.cps.toList) with
              | true => rfl
              | false => exact absurd (show (!decide (p.cps.toList < n.cps.toList)) = true by rw [h5]; rfl) h2
            refine ⟨some (.int (0 + ((k1 + 1 : Nat) : Int))), ?_, Same.trans s4 s5⟩
            rw [e9, h3, Bool.and_true]
            rfl
        · have hk0 : k = 0 := by
            refine Decidable.byContradiction fun z => h1 (decide_eq_true ?_)
            show (0 : Int) < 0 + (k : Nat)
            omega
          subst hk0
          refine ⟨some (.int (0 + ((0 : Nat) : Int))), ?_, Same.trans s4 s5⟩
          rw [htk, List.take_zero, List.nil_append, names_one, hf]
          rfl
    · rintro σ H4 ⟨y4, rfl, s4⟩
      rw [Int.toNat_natCast, List.length_map, List.take_length]
      have hr4 := s4 _ _ hr3
      obtain ⟨lt, ll⟩ := lay_names hok
      walk_at "rd"
      refine ⟨_, _, rfl, .inl (sq hr4), fun p np => ?_⟩
      have s5 := Same.trans s4 (same_new np (o := .lst (ns.map V.str)))
      walk_at "rd"
      refine ⟨p, ns, _, rfl, .inl (sq upd_same), by omega, hok, by rw [hi]; exact hat, fun hk r1 H6 s6 hr6 => ?_, fun hk r1 H6 s6 nr6 hr6 => ?_⟩
      · have s46 := Same.trans (same_new np) s6
        have hp6 := s6 p _ upd_same
        walk_at "rd"
        refine ⟨_, _, namesL_dp (sq hp6), namesL_dp (sq (s46 _ _ hr4)), shape ll (by decide), shape ll (by decide), ?_⟩
        rw [eq_refl ll]
        walk_at "rd"
        refine ⟨_, _, rfl, .inl ⟨sq (s46 _ _ hr4), fun t nt => ?_⟩⟩
        have sT := same_new nt (o := .tup (ns.map V.str))
        walk_at "rd"
        refine ⟨t, ns, _, rfl, .inr (sqt upd_same), by omega, hok, by rw [hi]; exact hat, fun _ rr2 H7 s7 hr7 => ?_, fun h => by rw [hk] at h; cases h⟩
        have s67 := Same.trans sT s7
        have hr67 := Bx.Same.tup s67 hr6
        walk_at "rd"
        refine ⟨_, _, names_dp hr7, names_dp hr67, shape lt (by decide), shape lt (by decide), ?_⟩
        rw [eq_refl lt, hk]
        walk_at "rd"
        refine ⟨_, _, _, _, _, rfl, .ty _, ty_tup hr67, rfl, ?_⟩
        walk_at "rd"
        refine ⟨_, _, rfl, .inr hr67, fun l nl => ?_⟩
        walk_at "rd"
        have sL := same_new nl (o := .lst (ns.map V.str))
        refine ⟨_, _, namesL_dp (sq upd_same), namesL_dp (sq ((Same.trans (Same.trans s46 s67) sL) _ _ hr4)), shape ll (by decide), shape ll (by decide), ?_⟩
        rw [eq_refl ll]
        exact q _ (b13.trans (Same.but (Same.trans s4 (Same.trans (Same.trans s46 s67) sL))))
      · have s46 := Same.trans (same_new np) s6
        have hp6 := s6 p _ upd_same
        walk_at "rd"
        refine ⟨_, _, namesL_dp (sq hp6), namesL_dp (sq (s46 _ _ hr4)), shape ll (by decide), shape ll (by decide), ?_⟩
        rw [eq_refl ll]
        walk_at "rd"
        refine ⟨_, _, rfl, .inl ⟨sq (s46 _ _ hr4), fun t nt => ?_⟩⟩
        have sT := same_new nt (o := .tup (ns.map V.str))
        walk_at "rd"
        refine ⟨t, ns, _, rfl, .inr (sqt upd_same), by omega, hok, by rw [hi]; exact hat, fun h => by (rw [hk] at h; cases h), fun _ rr2 H7 s7 nr7 hr7 => ?_⟩
        have s67 := Same.trans sT s7
        walk_at "rd"
        refine ⟨_, _, dp_refused hr7, dp_refused (s67 _ _ hr6), shape lay_refused (by decide), shape lay_refused (by decide), ?_⟩
        rw [eq_refl lay_refused, hk]
        walk_at "rd"
        refine ⟨sz (by show 2 ≤ 100000; decide), fun l nl => ?_⟩
        have sL := same_new nl (o := .lst [.str (Str.ofString "refused"), .int (1 + r2 * r3)])
        refine ⟨_, _, dp_refused ((Same.trans s67 sL) _ _ hr6), dp_refused upd_same, shape lay_refused (by decide), shape lay_refused (by decide), ?_⟩
        rw [eq_refl lay_refused]
        exact q _ (b13.trans (Same.but (Same.trans s4 (Same.trans (Same.trans s46 s67) sL))))
end
end K03
namespace K03
local macro_rules | `(tactic| walk_at "rd") => `(tactic| repeat (first | refine ⟨rfl, ?_⟩ | refine ⟨_, rfl, ?_⟩ | refine ⟨_, _, rfl, rfl, ?_⟩ | refine ⟨⟨_, rfl⟩, ?_⟩))
open PySem PySem.Spec PyProof.Rows L2 Bx TL Dx Sup Er NdefX
section
variable {P : Program} {w : World} {K : PySem.W.Frag} {mg : Str → Option Value} {base : Heap}
/-! ### number_lines -/
def numS (i : Int) : Str := Str.ofString (toString i)
/-- a line with its number, in a field of the width w -/
def lineT (w : Nat) (i : Int) (z : Str) : List Nat := List.replicate (w - (numS i).length) 32 ++ tl (numS i) ++ [58, 32] ++ tl z
def spNumberLines (K : PySem.W.Frag) : Sp := fun vs H Q _ => ∃ (a : Addr) (zs : List Str) (k : Nat), vs = [.ref a, .int (k : Int)] ∧ (SqL K H a (zs.map V.str) ∨ SqT K H a (zs.map V.str)) ∧ zs.length ≤ 100 ∧ k ≤ 20000 ∧ (∀ z ∈ zs, z.length ≤ 100) ∧
  ∀ (r : Addr) (H' : Hp) (os : List Str), Same H H' → H' r = some (.tup (os.map V.str)) → os.length = zs.length → (∀ i o z, os[i]? = some o → zs[i]? = some z → tl o = lineT (numS ((k : Int) + zs.length - 1)).length ((k : Int) + (i : Nat)) z) → Q (.ref r) H'
theorem num_len {i : Int} (h0 : 0 ≤ i) (h1 : i < 100000) : 1 ≤ (numS i).length ∧ (numS i).length ≤ 5 := by
  obtain ⟨m, rfl⟩ := Int.eq_ofNat_of_zero_le h0
  have e : (numS (m : Int)).length = (Nat.toDigits 10 m).length := by
    show (Str.ofString (toString (Int.ofNat m))).length = _
    rw [text_ofNat]
    simp [Str.length]
  rw [e]
  refine ⟨tDigits_len_ge 10 m, ?_⟩
  have e2 := (Nat.length_repr_le_iff (n := m) (by decide : 0 < 5)).mpr (by omega)
  rwa [← String.length_toList, Nat.toList_repr] at e2
theorem ok_number_lines {f : Addr} {fd : FuncData} (F : FunD K "number_lines" "number_lines" (defArgs s_number_lines) (defBody s_number_lines) (defScope s_number_lines) [] [(("first" : Str), V.int 1)] f fd) (hnd : base.NoDigits) (m_len : mg "len" = none) (m_str : mg "str" = none) (m_tuple : mg "tuple" = none) (m_enumerate : mg "enumerate" = none) :
    FnOk P w K mg base (L2.CX P w) 1 f fd ["lines", "first"] (spNumberLines K) := by
  refine F.ok sc_number_lines (fun vs H Q E h => ?_) (fun cdv A outer s H vs Q E hr h => ?_)
  · obtain ⟨a, zs, k, rfl, _⟩ := h
    rfl
  · obtain ⟨a, zs, k, rfl, hs, hzl, hk, hz, q⟩ := h
    refine ⟨_, (pss_cons (ps_set (i := 2) sc_number_lines.nd rfl (Or.inr rfl) (pe_callB call_len_str (by rfl) m_len PySem.boot_len (pa_cons (pe_callTy (T := "str") call_str_int (by rfl) m_str (by decide +kernel) (pa_cons (pe_op op_sub (pe_op op_add (pv 1) (pe_callB call_len_seq (by rfl) m_len PySem.boot_len (pa_cons (pv 0) pa_nil))) pe_int) pa_nil)) pa_nil)))
    (pss_one (ps_ret (pe_callTy (T := "tuple") call_tuple_of (by rfl) m_tuple (by decide +kernel) (pa_cons (pe_lc (own := [("number", 3), ("line", 4)]) (tt := tYes) rfl sc_number_lines.nd (En.pi_enS (by rfl) m_enumerate (pa_cons (pv 0) pa_nil) (pk_cons (pv 1) pk_nil)) (blkOk_by (N := n_number_lines) (sc := defScope s_number_lines) (by decide +kernel)) (fun _ _ _ _ _ => pg_tupK (K := K) (n := 2) rfl rfl (pgs_cons (pg_name (i := 3) sc_number_lines.nd rfl (Or.inl rfl)) (pgs_cons (pg_name (i := 4) sc_number_lines.nd rfl (Or.inl rfl)) pgs_nil))) (fun _ _ _ _ _ => pts_nil) (fun _ _ _ _ _ => (pe_joined (.cons (Fm.pe_fmtW hnd (pv 3) (pe_joined (.cons pe_str (.cons (pe_fmt (pv 2)) .nil)))) (.cons pe_str (.cons (pe_fmt (pv 4)) .nil)))))) pa_nil))))), ?_⟩
    walk_at "rd"
    refine ⟨_, _, rfl, hs, ?_⟩
    rw [List.length_map]
    have hlast : ((k : Int) + (zs.length : Nat) - 1).natAbs.log2 < 1920 := log_small (by
      have h4 : (30000 : Nat) < 10 ^ 60 := by decide
      omega)
    have hlen := toI_len hlast
    walk_at "rd"
    refine ⟨hlast, ?_⟩
    walk_at "rd"
    refine ⟨sz (by omega), ?_⟩
    walk_at "rd"
    refine ⟨by omega, by omega, En.en_case hs fun J G wk hG => ?_⟩
    intro D hD
    refine walk_any wk (fun i H' => ∃ os : List Str, H' D = some (.lst (os.map V.str)) ∧ os.length = i ∧ Same H H' ∧ ∀ j o z, os[j]? = some o → zs[j]? = some z → tl o = lineT (numS ((k : Int) + zs.length - 1)).length ((k : Int) + (j : Nat)) z) ⟨[], upd_same, rfl, same_new hD, fun j o z h => by cases h⟩ (fun i H' _ ⟨_, _, _, s, _⟩ => hG H' s) ?_ ?_
    · rintro i x H1 H2 hi ⟨os, hd, hol, s1, hos⟩ ⟨T, v, rfl, nT, rfl, hx⟩
      obtain ⟨z, hzi, rfl⟩ := at_map hx
      have hi2 := (List.getElem?_eq_some_iff.mp hzi).1
      have sT : Same H1 (upd H1 T (.tup [.int ((k : Int) + (i : Nat)), .str z])) := same_new nT
      obtain ⟨w0, w1⟩ := num_len (i := (k : Int) + zs.length - 1) (by omega) (by omega)
      obtain ⟨n0, n1⟩ := num_len (i := (k : Int) + (i : Nat)) (by omega) (by omega)
      have hz1 := hz z (List.mem_of_getElem? hzi)
      have hwl : ((numS ((k : Int) + zs.length - 1)).length : Int).natAbs.log2 < 1920 := log_small (by
        have h4 : (30000 : Nat) < 10 ^ 60 := by decide
        omega)
      have htx := Fm.wid_text (w := (numS ((k : Int) + zs.length - 1)).length) (a := (k : Int) + (i : Nat)) w0 w1 (by omega)
      have hsl : (Fm.widS (numS ((k : Int) + zs.length - 1)).length).length ≤ 100000 := by
        unfold Fm.widS
        rw [app_len, app_len, show Str.empty.length = 0 from rfl, show (Str.ofString ">").length = 1 by decide +kernel]
        have := toI_len hwl
        omega
      have hfl : (intSpecTextOf (Fm.widS (numS ((k : Int) + zs.length - 1)).length) ((k : Int) + (i : Nat))).length ≤ 10 := by
        rw [len_tl, htx, List.length_append, List.length_replicate, ← len_tl]
        show _ + (numS ((k : Int) + (i : Nat))).length ≤ 10
        omega
      refine ⟨_, _, rfl, sqt upd_same, rfl, _, _, rfl, _, _, rfl, rfl, ?_⟩
      refine ⟨rfl, ?_⟩
      walk_at "rd"
      refine ⟨sz (by decide +kernel), ?_⟩
      walk_at "rd"
      refine .inr ⟨_, rfl, hwl, ?_⟩
      refine ⟨_, rfl, sz hsl, ?_⟩
      refine ⟨_, Fm.widS (numS ((k : Int) + zs.length - 1)).length, rfl, rfl, Fm.wid_ok w0 w1, ?_, sz hsl, ?_⟩
      · have h4 : (30000 : Nat) < 10 ^ 4300 := Nat.lt_of_lt_of_le (show (30000 : Nat) < 10 ^ 5 by decide) (Nat.pow_le_pow_right (by decide) (by decide))
        omega
      have l0 : (Str.empty ++ intSpecTextOf (Fm.widS (numS ((k : Int) + zs.length - 1)).length) ((k : Int) + (i : Nat))).length ≤ 10 := by
        rw [app_len, show Str.empty.length = 0 from rfl]
        omega
      refine ⟨_, rfl, sz (by omega), ?_⟩
      have l1 : (Str.empty ++ intSpecTextOf (Fm.widS (numS ((k : Int) + zs.length - 1)).length) ((k : Int) + (i : Nat)) ++ Str.ofString ": ").length ≤ 12 := by
        rw [app_len, show (Str.ofString ": ").length = 2 by decide +kernel]
        omega
      refine ⟨_, rfl, sz (by omega), ?_⟩
      refine ⟨_, rfl, .inl ⟨z, rfl, sz (by omega), ?_⟩⟩
      refine ⟨_, rfl, sz (by rw [app_len]; omega), ?_⟩
      refine ⟨_, sT _ _ hd, ?_, os ++ [_], by rw [upd_same, List.map_append]; rfl, by rw [List.length_append, hol]; rfl, same_at hD (Same.trans s1 sT), fun j o z2 ho hz2 => ?_⟩
      · rw [List.length_map]
        exact szl (by omega)
      · by_cases hj : j < os.length
        · rw [List.getElem?_append_left hj] at ho
          exact hos j o z2 ho hz2
        · rw [List.getElem?_append_right (by omega)] at ho
          have hj0 : j - os.length = 0 := by
            refine Decidable.byContradiction fun w => ?_
            rw [List.getElem?_eq_none (by simp; omega)] at ho
            cases ho
          have hji : j = i := by omega
          subst hji
          rw [hj0] at ho
          rw [hzi] at hz2
          cases hz2
          cases ho
          rw [tl_append, tl_append, tl_append, htx]
          show [] ++ _ ++ tl (Str.ofString ": ") ++ tl z = _
          rw [List.nil_append, show tl (Str.ofString ": ") = [58, 32] by decide +kernel]
          rfl
    · rintro H1 ⟨os, hd, hol, s1, hos⟩
      rw [List.length_map] at hol
      walk_at "rd"
      refine ⟨_, _, rfl, .inl ⟨sq hd, fun r nr => ?_⟩⟩
      exact q r _ os (Same.trans s1 (same_new nr)) upd_same hol hos
end
end K03
namespace K03
local macro_rules | `(tactic| walk_at "rd") => `(tactic| repeat (first | refine ⟨rfl, ?_⟩ | refine ⟨_, rfl, ?_⟩ | refine ⟨_, _, rfl, rfl, ?_⟩ | refine ⟨⟨_, rfl⟩, ?_⟩))
open PySem PySem.Spec PyProof.Rows L2 Bx TL Dx Sup Er NdefX
theorem chr_lt (c : Char) : c.toNat < 0x110000 := by
  have h := c.valid
  have h2 : c.toNat < 0xD800 ∨ (0xDFFF < c.toNat ∧ c.toNat < 0x110000) := h
  omega
theorem say_ok {r : Int} (h0 : 0 ≤ r) (h1 : r < 6) : (cutS (Str.ofString "say a") none (some r)).length ≤ 100 ∧ ∀ c ∈ tl (cutS (Str.ofString "say a") none (some r)), c < 0x110000 := by
  have h : r = 0 ∨ r = 1 ∨ r = 2 ∨ r = 3 ∨ r = 4 ∨ r = 5 := by omega
  rcases h with rfl | rfl | rfl | rfl | rfl | rfl <;> decide +kernel
theorem pick6 {r : Int} (h0 : 0 ≤ r) (h1 : r < 6) : ∃ m : Nat, atI [V.int 1, V.int 0, V.int 1, V.int 5, V.int 93, V.int 9991] r = some (V.int (m : Int)) ∧ m ≤ 9991 := by
  have h : r = 0 ∨ r = 1 ∨ r = 2 ∨ r = 3 ∨ r = 4 ∨ r = 5 := by omega
  rcases h with rfl | rfl | rfl | rfl | rfl | rfl
  · exact ⟨1, rfl, by decide⟩
  · exact ⟨0, rfl, by decide⟩
  · exact ⟨1, rfl, by decide⟩
  · exact ⟨5, rfl, by decide⟩
  · exact ⟨93, rfl, by decide⟩
  · exact ⟨9991, rfl, by decide⟩
theorem mul_sp {m : Int} (h0 : -5 ≤ m) (h1 : m ≤ 5) : MulOk (Str.ofString " ") m ∧ tl (Txt.mul (Str.ofString " ") m) = List.replicate m.toNat 32 := by
  have h : m < 1 ∨ m = 1 ∨ m = 2 ∨ m = 3 ∨ m = 4 ∨ m = 5 := by omega
  rcases h with h | rfl | rfl | rfl | rfl | rfl
  · have h2 : m = -5 ∨ m = -4 ∨ m = -3 ∨ m = -2 ∨ m = -1 ∨ m = 0 := by omega
    rcases h2 with rfl | rfl | rfl | rfl | rfl | rfl <;> exact ⟨⟨by decide, fun h => absurd (by decide) h, fun h => absurd (by decide) h⟩, by decide +kernel⟩
  all_goals exact ⟨⟨by decide, fun _ _ => by decide +kernel, fun _ _ => by decide +kernel⟩, by decide +kernel⟩
theorem num_ok {i : Int} (h0 : 0 ≤ i) : ∀ c ∈ tl (numS i), c < 0x110000 := by
  obtain ⟨m, rfl⟩ := Int.eq_ofNat_of_zero_le h0
  intro c hc
  have e : tl (numS (m : Int)) = (Nat.toDigits 10 m).map Char.toNat := by
    show tl (Str.ofString (toString (Int.ofNat m))) = _
    rw [text_ofNat]
  rw [e] at hc
  obtain ⟨d, _, rfl⟩ := List.mem_map.mp hc
  exact chr_lt d
section
variable {P : Program} {w : World} {K : PySem.W.Frag} {mg : Str → Option Value} {base : Heap}
/-! ### lines are numbered right -/
theorem ok_numbered_right {f : Addr} {fd : FuncData} (F : Fun K "_law_numbered_right" "_law_numbered_right" s__law_numbered_right f fd) (m_isinstance : mg "isinstance" = none) (m_len : mg "len" = none) (m_range : mg "range" = none) (m_list : mg "list" = none) (m_tuple : mg "tuple" = none) (m_str : mg "str" = none)
    (C__law_draw : Cal P w K mg base "_law_draw" 1 ["_law_source_here", "_law_limit"] spDraw) (CX_number_lines : CalX P w K mg base "number_lines" "first" 1 ["lines", "first"] (.int 1) (spNumberLines K)) :
    FnOk P w K mg base CX0 2 f fd ["_law_source_here"] spRight := by
  refine F.ok sc__law_numbered_right (fun vs H Q E h => ?_) (fun cdv A outer s H vs Q E hr h => ?_)
  · obtain ⟨a, rfl, _⟩ := h
    rfl
  · obtain ⟨a, rfl, hA, q⟩ := h
    refine ⟨_, (pss_cons (ps_setLc (i := 1) (own := [("_law_k", 5)]) (tt := tYes) rfl sc__law_numbered_right.nd rfl rfl (sw_true rfl rfl rfl (by decide +kernel)) (pi_range1 (by rfl) m_range (pa_cons (pe_cal C__law_draw (hr.mono (by decide)) (pa_cons (pv 0) (pa_cons pe_int pa_nil))) pa_nil)) (blkOk_by (N := n__law_numbered_right) (sc := defScope s__law_numbered_right) (by decide +kernel)) (fun _ _ _ _ _ => pg_name (i := 5) sc__law_numbered_right.nd rfl (Or.inl rfl)) (fun _ _ _ _ _ => pts_nil) (fun _ _ _ _ _ => (pe_slice sl_str pe_str po_none (po_some (pe_cal C__law_draw (hr.mono (by decide)) (pa_cons (pv 0) (pa_cons pe_int pa_nil)))))))
    (pss_cons (ps_set (i := 2) sc__law_numbered_right.nd rfl (Or.inl rfl) (pe_op op_add (pe_ix ix_list (pe_lst (pa_cons pe_int (pa_cons pe_int (pa_cons pe_int (pa_cons pe_int (pa_cons pe_int (pa_cons pe_int pa_nil))))))) (pe_cal C__law_draw (hr.mono (by decide)) (pa_cons (pv 0) (pa_cons pe_int pa_nil))) (fun _ _ => rfl)) (pe_op op_mul (pe_cal C__law_draw (hr.mono (by decide)) (pa_cons (pv 0) (pa_cons pe_int pa_nil))) (pe_cal C__law_draw (hr.mono (by decide)) (pa_cons (pv 0) (pa_cons pe_int pa_nil))))))
    (pss_cons (ps_set (i := 3) sc__law_numbered_right.nd rfl (Or.inl rfl) (pe_callTy (T := "str") call_str_int (by rfl) m_str (by decide +kernel) (pa_cons (pe_op op_sub (pe_op op_add (pv 2) (pe_callB call_len_seq (by rfl) m_len PySem.boot_len (pa_cons (pv 1) pa_nil))) pe_int) pa_nil)))
    (pss_cons (ps_set (i := 4) sc__law_numbered_right.nd rfl (Or.inl rfl) (pe_lst pa_nil))
    (pss_cons (ps_for PassesOwn.never rfl (pi_range1 (by rfl) m_range (pa_cons (pe_callB call_len_seq (by rfl) m_len PySem.boot_len (pa_cons (pv 1) pa_nil)) pa_nil)) (pg_name (i := 5) sc__law_numbered_right.nd rfl (Or.inl rfl))
      (pss_cons (ps_set (i := 8) sc__law_numbered_right.nd rfl (Or.inl rfl) (pe_callTy (T := "str") call_str_int (by rfl) m_str (by decide +kernel) (pa_cons (pe_op op_add (pv 2) (pv 5)) pa_nil)))
    (pss_one (ps_expr (pe_bm PySem.F.plainAttrs_list PySem.F.slot_list_append PySem.F.type_list_append mt_append (pv 4) (pa_cons (pe_op op_add_str (pe_op op_add_str (pe_op op_add_str (pe_op op_mul_str pe_str (pe_op op_sub (pe_callB call_len_str (by rfl) m_len PySem.boot_len (pa_cons (pv 3) pa_nil)) (pe_callB call_len_str (by rfl) m_len PySem.boot_len (pa_cons (pv 8) pa_nil)))) (pv 8)) pe_str) (pe_ix ix_list (pv 1) (pv 5) (fun _ _ => rfl))) pa_nil))))))
    (pss_cons (ps_set (i := 6) sc__law_numbered_right.nd rfl (Or.inl rfl) (pe_callTy (T := "list") call_list_of (by rfl) m_list (by decide +kernel) (pa_cons (pv 1) pa_nil)))
    (pss_cons (ps_set (i := 7) sc__law_numbered_right.nd rfl (Or.inl rfl) (pe_calXK CX_number_lines takes0 (hr.mono (by decide)) (pa_cons (pv 6) pa_nil) (pk_cons (pv 2) pk_nil)))
    (pss_cons (ps_if (PW.pt (pw_and (pt_cmpR op_eq (pv 2) pe_int (nomark _)) (pw_and1 (pt_cmpR (op_neD hr.units) (pe_calX CX_number_lines takes0 (hr.mono (by decide)) (pa_cons (pe_callTy (T := "tuple") call_tuple_of (by rfl) m_tuple (by decide +kernel) (pa_cons (pv 1) pa_nil)) pa_nil)) (pe_callTy (T := "tuple") call_tuple_of (by rfl) m_tuple (by decide +kernel) (pa_cons (pv 4) pa_nil)) (nomark _)))))
      (pss_one (ps_ret pe_bl))
      pss_nil)
    (pss_one (ps_ret (pe_and (pe_cmpR (op_eqD hr.units) (pv 6) (pv 1) (nomark _)) (pe_and (pe_callB (id := "isinstance") call_isi (by rfl) m_isinstance (by decide +kernel) (pa_cons (pv 7) (pa_cons (pe_bltn (v := .ty "tuple") (by rfl) m_tuple (by decide +kernel) rfl) pa_nil))) (pe_one (pe_cmpR (op_eqD hr.units) (pe_callTy (T := "list") call_list_of (by rfl) m_list (by decide +kernel) (pa_cons (pv 7) pa_nil)) (pv 4) (nomark _))))))))))))))), ?_⟩
    walk_at "rd"
    refine draw_of (lim := 13) hA (by decide) fun n H1 hn0 hn1 b1 A1 => ?_
    walk_at "rd"
    refine ⟨by omega, by omega, ?_⟩
    intro D hD
    have aD : a ≠ D := src_ne A1 hD
    refine lc_range (lo := 0) (n := n.toNat) (fun i H' => ∃ zs : List Str, H' D = some (.lst (zs.map V.str)) ∧ zs.length = i ∧ (∀ z ∈ zs, z.length ≤ 100 ∧ ∀ c ∈ tl z, c < 0x110000) ∧ SameBut a H1 H' ∧ Src H' a) ⟨[], upd_same, rfl, (fun _ h => by cases h), but_at hD (SameBut.refl a H1), src_upd A1 aD⟩ ?_ ?_
    · rintro i H2 hi ⟨zs, hd, hl, hz, b2, A2⟩
      refine ⟨rfl, ?_⟩
      walk_at "rd"
      refine draw_of (lim := 6) A2 (by decide) fun r3 H3 h30 h31 b3 A3 => ?_
      walk_at "rd"
      refine ⟨sz (by decide +kernel), ?_⟩
      refine ⟨_, b3 _ _ aD.symm hd, ?_, zs ++ [_], by rw [upd_same, List.map_append]; rfl, by rw [List.length_append, hl]; rfl, fun x hx => ?_, but_at hD (b2.trans b3), src_upd A3 aD⟩
      · rw [List.length_map]
        exact szl (by omega)
      · rcases List.mem_append.mp hx with h | h
        · exact hz x h
        · rw [List.mem_singleton.mp h]
          exact say_ok h30 h31
    · rintro H2 ⟨zs, hd, hl, hz, b2, A2⟩
      walk_at "rd"
      refine ⟨sz (by show 6 ≤ 100000; decide), fun l nl => ?_⟩
      have al := src_ne A2 nl
      walk_at "rd"
      refine draw_of (lim := 6) (src_upd A2 al) (by decide) fun r3 H3 h30 h31 b3 A3 => ?_
      obtain ⟨m, hm, hm1⟩ := pick6 h30 h31
      walk_at "rd"
      refine ⟨_, _, _, _, rfl, rfl, sq (b3 _ _ al.symm upd_same), hm, ?_⟩
      walk_at "rd"
      refine draw_of (lim := 2) A3 (by decide) fun r4 H4 h40 h41 b4 A4 => ?_
      walk_at "rd"
      refine draw_of (lim := 9) A4 (by decide) fun r5 H5 h50 h51 b5 A5 => ?_
      walk_at "rd"
      refine ⟨.inl ⟨by omega, by omega⟩, ?_⟩
      have hm0 : 0 ≤ r4 * r5 := Int.mul_nonneg h40 h50
      have hm2 : r4 * r5 ≤ 1 * 8 := Int.mul_le_mul (by omega) (by omega) h50 (by omega)
      obtain ⟨k, hk⟩ : ∃ k : Nat, (m : Int) + r4 * r5 = (k : Int) := ⟨((m : Int) + r4 * r5).toNat, by omega⟩
      have hkl : k ≤ 10000 := by omega
      have b25 : SameBut a H2 H5 := (but_new nl b3).trans (b4.trans b5)
      have hd5 := b25 _ _ aD.symm hd
      have c5 : SameBut a H H5 := b1.trans (b2.trans b25)
      have hlast : ((k : Int) + (zs.length : Nat) - 1).natAbs.log2 < 1920 := log_small (by
        have h4 : (30000 : Nat) < 10 ^ 60 := by decide
        omega)
      walk_at "rd"
      dsimp only
      rw [hk]
      walk_at "rd"
      refine ⟨_, _, rfl, .inl (sq hd5), ?_⟩
      rw [List.length_map]
      walk_at "rd"
      refine ⟨hlast, ?_⟩
      walk_at "rd"
      refine ⟨sz (by show 0 ≤ 100000; decide), fun E nE => ?_⟩
      have s6 := same_new nE (o := .lst [])
      have nE6 := nE
      have nDE : D ≠ E := ne_of_none hd5 nE
      walk_at "rd"
      refine ⟨_, _, rfl, .inl (sq (s6 _ _ hd5)), ?_⟩
      walk_at "rd"
      refine ⟨by omega, by rw [List.length_map]; omega, ?_⟩
      refine for_range (lo := 0) (n := (((zs.map V.str).length : Nat) : Int).toNat) (fun i σ H' => ∃ (y5 y8 : Option V) (es : List Str), σ = [some (.ref a), some (.ref D), some (.int (k : Int)), some (.str (numS ((k : Int) + zs.length - 1))), some (.ref E), y5, none, none, y8] ∧ H' E = some (.lst (es.map V.str)) ∧ es.length = i ∧ Same H5 H' ∧
        ∀ j o z, es[j]? = some o → zs[j]? = some z → tl o = lineT (numS ((k : Int) + zs.length - 1)).length ((k : Int) + (j : Nat)) z) ⟨none, none, [], rfl, upd_same, rfl, s6, fun j o z h => by cases h⟩ ?_ ?_
      · rintro i σ H6 hi ⟨y5, y8, es, rfl, hE, hel, s6, hes⟩
        rw [Int.toNat_natCast, List.length_map] at hi
        obtain ⟨z, hzi⟩ : ∃ z, zs[i]? = some z := ⟨_, List.getElem?_eq_getElem hi⟩
        have hix : atI (zs.map V.str) (0 + (i : Nat) : Int) = some (V.str z) := by
          rw [Int.zero_add]
          exact atI_nat (by rw [List.getElem?_map, hzi]; rfl)
        have hz1 := (hz z (List.mem_of_getElem? hzi)).1
        obtain ⟨w0, w1⟩ := num_len (i := (k : Int) + zs.length - 1) (by omega) (by omega)
        obtain ⟨n0, n1⟩ := num_len (i := (k : Int) + (0 + (i : Nat))) (by omega) (by omega)
        obtain ⟨k1, k2⟩ := mul_sp (m := ((numS ((k : Int) + zs.length - 1)).length : Int) - ((numS ((k : Int) + (0 + (i : Nat)))).length : Int)) (by omega) (by omega)
        have hnl : ((k : Int) + (0 + (i : Nat))).natAbs.log2 < 1920 := log_small (by
          have h4 : (30000 : Nat) < 10 ^ 60 := by decide
          omega)
        walk_at "rd"
        refine ⟨hnl, ?_⟩
        walk_at "rd"
        refine ⟨.inl ⟨rfl, _, sq hE⟩, ?_⟩
        walk_at "rd"
        refine ⟨sz (by omega), ?_⟩
        walk_at "rd"
        refine ⟨sz (by show (numS ((k : Int) + (0 + (i : Nat)))).length ≤ 100000; omega), ?_⟩
        walk_at "rd"
        refine ⟨k1, ?_⟩
        walk_at "rd"
        have x0 : (Txt.mul (Str.ofString " ") (((numS ((k : Int) + zs.length - 1)).length : Int) - ((numS ((k : Int) + (0 + (i : Nat)))).length : Int))).length ≤ 5 := by
          rw [len_tl, k2, List.length_replicate]
          omega
        have x1 : (Txt.mul (Str.ofString " ") (((numS ((k : Int) + zs.length - 1)).length : Int) - ((numS ((k : Int) + (0 + (i : Nat)))).length : Int)) ++ numS ((k : Int) + (0 + (i : Nat)))).length ≤ 10 := by
          rw [app_len]
          omega
        have x2 : (Txt.mul (Str.ofString " ") (((numS ((k : Int) + zs.length - 1)).length : Int) - ((numS ((k : Int) + (0 + (i : Nat)))).length : Int)) ++ numS ((k : Int) + (0 + (i : Nat))) ++ Str.ofString ": ").length ≤ 12 := by
          rw [app_len, show (Str.ofString ": ").length = 2 by decide +kernel]
          omega
        refine ⟨sz (Nat.le_trans (Nat.add_le_add x0 n1) (by decide)), ?_⟩
        walk_at "rd"
        refine ⟨sz (Nat.le_trans (Nat.add_le_add x1 (show (Str.ofString ": ").length ≤ 2 by decide +kernel)) (by decide)), ?_⟩
        walk_at "rd"
        refine ⟨_, _, _, _, rfl, rfl, sq (s6 _ _ hd5), hix, ?_⟩
        walk_at "rd"
        refine ⟨sz (Nat.le_trans (Nat.add_le_add x2 hz1) (by decide)), ?_⟩
        walk_at "rd"
        refine ⟨_, _, _, rfl, rfl, hE, ?_, ?_⟩
        · rw [List.length_map]
          exact szl (by omega)
        refine ⟨_, _, es ++ [_], rfl, by rw [upd_same, List.map_append]; rfl, by rw [List.length_append, hel]; rfl, same_at nE6 s6, fun j o z2 ho hz2 => ?_⟩
        by_cases hj : j < es.length
        · rw [List.getElem?_append_left hj] at ho
          exact hes j o z2 ho hz2
        · rw [List.getElem?_append_right (by omega)] at ho
          have hj0 : j - es.length = 0 := by
            refine Decidable.byContradiction fun w => ?_
            rw [List.getElem?_eq_none (by simp; omega)] at ho
            cases ho
          have hji : j = i := by omega
          subst hji
          rw [hj0] at ho
          rw [hzi] at hz2
          cases hz2
          cases ho
          rw [tl_append, tl_append, tl_append]
          show tl (Txt.mul (Str.ofString " ") (((numS ((k : Int) + zs.length - 1)).length : Int) - ((numS ((k : Int) + (0 + (j : Nat)))).length : Int))) ++ tl (numS ((k : Int) + (0 + (j : Nat)))) ++ tl (Str.ofString ": ") ++ tl z = _
          rw [k2, show tl (Str.ofString ": ") = [58, 32] by decide +kernel]
          unfold lineT
          rw [Int.zero_add, Int.toNat_sub]
      · rintro σ H6 ⟨y5, y8, es, rfl, hE, hel, s6, hes⟩
        rw [Int.toNat_natCast, List.length_map] at hel
        have hd6 := s6 _ _ hd5
        have uniq : ∀ os : List Str, os.length = zs.length → (∀ i o z, os[i]? = some o → zs[i]? = some z → tl o = lineT (numS ((k : Int) + zs.length - 1)).length ((k : Int) + (i : Nat)) z) → os = es := fun os hol hos => by
          refine List.ext_getElem (hol.trans hel.symm) fun j h1 h2 => ?_
          have h3 : j < zs.length := by omega
          exact ext_tl ((hos j _ _ (List.getElem?_eq_getElem h1) (List.getElem?_eq_getElem h3)).trans (hes j _ _ (List.getElem?_eq_getElem h2) (List.getElem?_eq_getElem h3)).symm)
        have eok : ∀ x ∈ es, PyData.strOk x = true := fun x hx => by
          obtain ⟨j, hj⟩ := List.mem_iff_getElem?.mp hx
          have hjl := (List.getElem?_eq_some_iff.mp hj).1
          have h3 : j < zs.length := by omega
          refine strOk_of fun c hc => ?_
          rw [hes j x _ hj (List.getElem?_eq_getElem h3)] at hc
          unfold lineT at hc
          rcases List.mem_append.mp hc with hc | hc
          · rcases List.mem_append.mp hc with hc | hc
            · rcases List.mem_append.mp hc with hc | hc
              · rw [(List.mem_replicate.mp hc).2]
                decide
              · exact num_ok (by omega) c hc
            · rcases List.mem_cons.mp hc with e | hc
              · rw [e]
                decide
              · rw [List.mem_singleton.mp hc]
                decide
          · exact (hz _ (List.getElem_mem h3)).2 c hc
        have le : Lay 1 (.tuple (es.map PyData.str)) ∧ Lay 1 (.list (es.map PyData.str)) := ⟨lay_tuple (lays_strs eok), lay_list (lays_strs eok)⟩
        have lz : Lay 1 (.list (zs.map PyData.str)) := lay_list (lays_strs fun x hx => strOk_of (hz x hx).2)
        walk_at "rd"
        refine ⟨_, _, rfl, .inl (sq hd6), fun p np => ?_⟩
        have s7 := same_new np (o := .lst (zs.map V.str))
        walk_at "rd"
        refine ⟨p, zs, k, rfl, .inl (sq upd_same), by omega, by omega, fun z hz0 => (hz z hz0).1, fun r H8 os s8 hr8 hol hos => ?_⟩
        have eo := uniq os hol hos
        subst eo
        have s68 := Same.trans s7 s8
        have hp8 := s8 p _ upd_same
        walk_at "rd"
        apply cont_of (α := Hp) (R := fun H9 => Same H8 H9)
        · intro kk
          refine ite2 (fun h1 => ?_) (fun h1 => ?_)
          · have ek : k = 1 := by
              have := V.int.inj (of_decide_eq_true h1)
              omega
            walk_at "rd"
            refine ⟨_, _, rfl, .inl ⟨sq (s68 _ _ hd6), fun t nt => ?_⟩⟩
            have sT := same_new nt (o := .tup (zs.map V.str))
            walk_at "rd"
            refine ⟨t, zs, 1, rfl, .inr (sqt upd_same), by omega, by omega, fun z hz0 => (hz z hz0).1, fun r2 H9 os2 s9 hr9 hol2 hos2 => ?_⟩
            have eo2 := uniq os2 hol2 (by rw [ek]; exact hos2)
            have hr9' : H9 r2 = some (.tup (os.map V.str)) := by
              rw [← eo2]
              exact hr9
            have s89 := Same.trans sT s9
            walk_at "rd"
            refine ⟨_, _, rfl, .inl ⟨sq ((Same.trans s68 s89) _ _ hE), fun u nu => ?_⟩⟩
            have sU := same_new nu (o := .tup (os.map V.str))
            refine ⟨_, _, names_dp (sqt (sU _ _ hr9')), names_dp (sqt upd_same), shape le.1 (by decide), shape le.1 (by decide), ?_⟩
            rw [eq_refl le.1]
            walk_at "rd"
            have s10 := Same.trans s89 sU
            revert s10
            generalize upd H9 u (.tup (os.map V.str)) = H10
            exact fun s10 => kk H10 s10
          · walk_at "rd"
            exact kk H8 (Same.refl H8)
        · intro H9 s9
          have s79 := Same.trans s68 s9
          have hr9 := s9 _ _ hr8
          refine ⟨_, _, namesL_dp (sq (s9 _ _ hp8)), namesL_dp (sq (s79 _ _ hd6)), shape lz (by decide), shape lz (by decide), ?_⟩
          rw [eq_refl lz]
          walk_at "rd"
          refine ⟨_, _, _, _, _, rfl, .ty _, ty_tup (sqt hr9), rfl, ?_⟩
          walk_at "rd"
          refine ⟨_, _, rfl, .inr (sqt hr9), fun x nx => ?_⟩
          walk_at "rd"
          have sX := same_new nx (o := .lst (os.map V.str))
          refine ⟨_, _, namesL_dp (sq upd_same), namesL_dp (sq ((Same.trans s79 sX) _ _ hE)), shape le.2 (by decide), shape le.2 (by decide), ?_⟩
          rw [eq_refl le.2]
          exact q _ (c5.trans (Same.but (Same.trans s6 (Same.trans s79 sX))))
end
end K03
namespace K03
local macro_rules | `(tactic| walk_at "rd") => `(tactic| repeat (first | refine ⟨rfl, ?_⟩ | refine ⟨_, rfl, ?_⟩ | refine ⟨_, _, rfl, rfl, ?_⟩ | refine ⟨⟨_, rfl⟩, ?_⟩))
open PySem PySem.Spec PyProof.Rows L2 Bx TL Dx Sup Er NdefX
section
variable {P : Program} {w : World} {K : PySem.W.Frag} {mg : Str → Option Value} {base : Heap}
/-! ### the law -/
def spLaw (K : PySem.W.Frag) : Sp := fun vs H Q _ => ∃ (a : Addr) (ns : List Int), vs = [.ref a] ∧ SqL K H a (ns.map V.int) ∧ ns.length ≤ 63 ∧ ∀ H', Q (.bl true) H'
theorem ok_law {f : Addr} {fd : FuncData} (F : Fun K "law" "law" s_law f fd) (m_range : mg "range" = none)
    (C__law_source : Cal P w K mg base "_law_source" 1 ["_law_script", "_law_k"] (spSource K)) (C__law_number_right : Cal P w K mg base "_law_number_right" 5 ["_law_source_here"] spRight) (C__law_names_right : Cal P w K mg base "_law_names_right" 6 ["_law_source_here"] spRight)
    (C__law_numbered_right : Cal P w K mg base "_law_numbered_right" 2 ["_law_source_here"] spRight) : FnOk P w K mg base CX0 7 f fd ["_law_script"] (spLaw K) := by
  refine F.ok sc_law (fun vs H Q E h => ?_) (fun cdv A outer s H vs Q E hr h => ?_)
  · obtain ⟨a, ns, rfl, _⟩ := h
    rfl
  · obtain ⟨a, ns, rfl, hS, hlen, q⟩ := h
    have keep : ∀ {H' H'' : Hp} {b : Addr} {o : HO}, Same H H' → H' b = none → SameBut b (upd H' b o) H'' → Same H H'' := fun s n b3 => SameBut.same s (s.free n) (SameBut.trans SameBut.upd b3)
    refine ⟨_, (pss_cons (ps_for PassesOwn.never rfl (pi_range1 (by rfl) m_range (pa_cons pe_int pa_nil)) (pg_name (i := 1) sc_law.nd rfl (Or.inl rfl))
      (pss_one (ps_if (pt_not (pt_val (pe_cal C__law_number_right (hr.mono (by decide)) (pa_cons (pe_cal C__law_source (hr.mono (by decide)) (pa_cons (pv 0) (pa_cons (pv 1) pa_nil))) pa_nil))))
      (pss_one (ps_ret pe_bl))
      pss_nil)))
    (pss_cons (ps_for PassesOwn.never rfl (pi_range2 (by rfl) m_range (pa_cons pe_int (pa_cons pe_int pa_nil))) (pg_name (i := 1) sc_law.nd rfl (Or.inl rfl))
      (pss_one (ps_if (pt_not (pt_val (pe_cal C__law_names_right (hr.mono (by decide)) (pa_cons (pe_cal C__law_source (hr.mono (by decide)) (pa_cons (pv 0) (pa_cons (pv 1) pa_nil))) pa_nil))))
      (pss_one (ps_ret pe_bl))
      pss_nil)))
    (pss_one (ps_ret (pe_cal C__law_numbered_right (hr.mono (by decide)) (pa_cons (pe_cal C__law_source (hr.mono (by decide)) (pa_cons (pv 0) (pa_cons pe_int pa_nil))) pa_nil)))))), ?_⟩
    walk_at "rd"
    refine ⟨by decide, by decide, ?_⟩
    refine for_range (lo := 0) (n := 4) (fun i σ H' => ∃ y1 : Option V, σ = [some (.ref a), y1] ∧ Same H H') ⟨none, rfl, Same.refl H⟩ ?_ ?_
    · rintro i σ H1 hi ⟨y1, rfl, s1⟩
      walk_at "rd"
      refine ⟨_, _, 0 + i, rfl, s1.seq hS, by omega, fun b n c nb => ?_⟩
      walk_at "rd"
      refine ⟨⟨n, c, upd_same⟩, fun H2 b2 => ?_⟩
      walk_at "rd"
      exact keep s1 nb b2
    · rintro σ H1 ⟨y1, rfl, s1⟩
      walk_at "rd"
      refine ⟨_, _, rfl, ⟨by decide, by decide, by decide, by decide⟩, for_range (lo := 4) (n := ((7 : Int) - 4).toNat) (fun i σ H' => ∃ y1 : Option V, σ = [some (.ref a), y1] ∧ Same H H') ⟨y1, rfl, s1⟩ ?_ ?_⟩
      · rintro i σ H2 hi ⟨y1, rfl, s2⟩
        have hi3 : i < 3 := hi
        walk_at "rd"
        refine ⟨_, _, 4 + i, rfl, s2.seq hS, by omega, fun b n c nb => ?_⟩
        walk_at "rd"
        refine ⟨⟨n, c, upd_same⟩, fun H3 b3 => ?_⟩
        walk_at "rd"
        exact keep s2 nb b3
      · rintro σ H2 ⟨y1, rfl, s2⟩
        walk_at "rd"
        refine ⟨_, _, 7, rfl, s2.seq hS, by decide, fun b n c nb => ?_⟩
        walk_at "rd"
        exact ⟨⟨n, c, upd_same⟩, fun H3 b3 => q H3⟩
end
end K03
namespace K03
open PySem PySem.Spec PyProof.Rows L2 Bx TL Dx Sup Er NdefX
theorem kit_t {K : PySem.W.Frag} {C D : Addr} {cd : ClassData} (c : PySem.W.clsIn K D = some cd) (t : PySem.W.typeIn K (.ref D) = some (.type "type")) (s : PySem.W.subIn K (.ref C) (.ref D) = some true) : PySem.W.kitOne K (.ref C) (.ref D) = some true := by
  unfold PySem.W.kitOne PySem.W.kitCls
  split
  · rfl
  · show (if ((PySem.W.clsIn K D).isSome && PySem.W.typeIn K (.ref D) == some (.type "type")) = true then PySem.W.subIn K (.ref C) (.ref D) else none) = _
    rw [if_pos (by rw [c, t]; rfl)]
    exact s
theorem kit_f {K : PySem.W.Frag} {C D : Addr} {cd : ClassData} (ss : PySem.W.subIn K (.ref C) (.ref C) = some true) (c : PySem.W.clsIn K D = some cd) (t : PySem.W.typeIn K (.ref D) = some (.type "type")) (s : PySem.W.subIn K (.ref C) (.ref D) = some false) : PySem.W.kitOne K (.ref C) (.ref D) = some false := by
  unfold PySem.W.kitOne PySem.W.kitCls
  split
  · rename_i h
    have e : Value.ref C = Value.ref D := eq_of_beq h
    rw [← e, ss] at s
    cases s
  · show (if ((PySem.W.clsIn K D).isSome && PySem.W.typeIn K (.ref D) == some (.type "type")) = true then PySem.W.subIn K (.ref C) (.ref D) else none) = _
    rw [if_pos (by rw [c, t]; rfl)]
    exact s
theorem kit_exm {K : PySem.W.Frag} {C : Addr} {cd : ClassData} (b : PySem.W.subIn K (.ref C) (.type "BaseException") = some true) (c : PySem.W.clsIn K C = some cd) (t : PySem.W.typeIn K (.ref C) = some (.type "type")) (s : PySem.W.subIn K (.ref C) (.ref C) = some true) : PySem.W.exmOne K (.ref C) (.ref C) = some true := by
  show (if (PySem.W.subIn K (.ref C) (.type "BaseException") == some true) = true then (if ((PySem.W.clsIn K C).isSome && PySem.W.typeIn K (.ref C) == some (.type "type")) = true then PySem.W.subIn K (.ref C) (.ref C) else none) else none) = _
  rw [if_pos (by rw [b]; rfl), if_pos (by rw [c, t]; rfl)]
  exact s
theorem err_mk {l : PySem.W.OpenLaw} {w : World} {K : PySem.W.Frag} {h : Heap} {mg : Str → Option Value} (X : K.In h) (G : h.Ns mainGlobals mg)
    {C SE NE fI cc cda : Addr} {oc kV dc pm ct cl ccl : Value} {od an cld cdd : Option Addr} {osl csl ccs : Array (Option Value)} {vs : Array Value} {file : Str} {tf : Tok}
    {nm q : Str} {N : Addr} {bs bm : List Value} {sn : List Str} {sub : List Value} {ab : Bool} {col : Option Bool} {dd : Option Addr} {k0 k1 k2 k3 k5 : Option Value} {cd : ClassData}
    (a_C : PySem.W.nsIn K mainGlobals "InvalidText" = some (some (.ref C))) (a_SE : PySem.W.nsIn K mainGlobals "ShadowError" = some (some (.ref SE))) (a_NE : PySem.W.nsIn K mainGlobals "InvalidName" = some (some (.ref NE)))
    (l_C : K.lookup C = some (excClassObj nm q C N bs bm true sn sub ab col dd k0 k1 k2 k3 k5 "ValueError.__new__")) (r_C : PySem.HandSPX.refsVE bm = true) (cd_C : PySem.W.clsIn K C = some cd)
    (sa_C : PySem.W.findIn K (.ref C) "__setattr__" = some (some (.builtin "object.__setattr__"))) (ex_C : PySem.W.subIn K (.ref C) (.type "BaseException") = some true) (ty_C : PySem.W.typeIn K (.ref C) = some (.type "type")) (kp_C : PySem.W.keepIn K (.ref C) = true)
    (i_C : PySem.W.findIn K (.ref C) "__init__" = some (some (.ref fI))) (t_fI : PySem.W.typeIn K (.ref fI) = some (.type "function"))
    (l_fI : K.lookup fI = some ⟨oc, od, .func (PySem.W.fnX "__init__" "InvalidText.__init__" (defArgs s_InvalidText___init__) (defBody s_InvalidText___init__) (defScope s_InvalidText___init__) [(("__class__" : Str), cc)] .none kV dc pm an (.ref cda) ct), osl⟩)
    (c_fI : PySem.W.codeIn K (.ref cda) "InvalidText.__init__" = true) (l_cc : K.lookup cc = some ⟨cl, cld, .cell (some (.ref C)), csl⟩) (l_cda : K.lookup cda = some ⟨ccl, cdd, .fields vs, ccs⟩) (v_cda : vs[2]? = some (.str file tf)) (p_file : ((l.prog.main.file : Str) == file) = true)
    (p_top : (l.prog.main.scope.names.lookup ("super" : Str)).isSome = false) (z_super : PySem.W.nsIn K mainGlobals "super" = some none) (any_ : PySem.W.nsIn K cStatics "thirdparty.any" = some none)
    (m_C : PySem.W.mroIn K C (.ref C) = some true) (s_C : PySem.W.ks_superIn K C C "__init__" = some (some (.builtin "ValueError.__init__"))) (v_C : PySem.W.subIn K (.ref C) (.type "ValueError") = some true)
    (no_C : PySem.W.findIn K (.ref C) "line" = some none) (ss_C : PySem.W.subIn K (.ref C) (.ref C) = some true) (ga_C : PySem.W.findIn K (.ref C) "__getattribute__" = some (some (.builtin "BaseException.__getattribute__"))) (gg_C : PySem.W.findIn K (.ref C) "__getattr__" = some none)
    (hd_C : PySem.W.hasDictIn K C = true) (gc_C : PySem.W.findIn K (.ref C) "__class__" = some (some (.builtin "object.__class__"))) (sp_ : PySem.W.specialIn K (.builtin "object.__class__") "__get__" = some (some (.builtin "getset_descriptor.__get__")))
    (tk_ : PySem.W.takesIn K (.builtin "object.__class__") = some true) (mo_C : PySem.W.mroIn K C (.type "object") = some true) {cd2 cd3 : ClassData} (cd_SE : PySem.W.clsIn K SE = some cd2) (cd_NE : PySem.W.clsIn K NE = some cd3) (ty_SE : PySem.W.typeIn K (.ref SE) = some (.type "type")) (ty_NE : PySem.W.typeIn K (.ref NE) = some (.type "type"))
    (su_S : PySem.W.subIn K (.ref C) (.ref SE) = some true) (su_N : PySem.W.subIn K (.ref C) (.ref NE) = some false) :
    (∀ base, Err l.prog w K mg base "InvalidText" C "line" "line" okI 1) ∧ ErrIs K mg C SE NE := by
  have te_C := kit_exm ex_C cd_C ty_C ss_C
  have is_S := kit_t cd_SE ty_SE su_S
  have is_N := kit_f ss_C cd_NE ty_NE su_N
  have exc : OexC K C := ⟨⟨nm, q, N, bs, bm, sn, sub, ab, col, dd, k0, k1, k2, k3, k5, l_C, r_C⟩, sa_C, ex_C, ty_C, kp_C⟩
  have T : SupC K C C := ⟨⟨cd, cd_C⟩, m_C, s_C, v_C, exc⟩
  refine ⟨fun base => ⟨⟨fI, _, i_C, t_fI, ok_init l_fI c_fI ⟨cl, cld, csl, l_cc⟩ ⟨ccl, cdd, vs, ccs, file, tf, l_cda, v_cda, p_file⟩ p_top (PySem.W.mg_none_of X G z_super) any_ T no_C, ?_⟩, exc, PySem.W.mg_of X G a_C, te_C, ⟨ga_C, gg_C, ex_C, hd_C⟩, no_C⟩,
    ⟨by rw [cd_C]; rfl, ⟨ga_C, gg_C, ex_C, hd_C, gc_C, sp_, tk_, mo_C⟩, is_S, is_N, PySem.W.mg_of X G a_SE, PySem.W.mg_of X G a_NE⟩⟩
  exact Binds.all fun us hl => match us, hl with | [_, _], _ => rfl
end K03
namespace K03
open PySem PySem.Spec PyProof.Rows L2 Bx TL Dx Sup Er NdefX
theorem all_mk {l : PySem.W.OpenLaw} {w : World} {K : PySem.W.Frag} {h : Heap} {mg : Str → Option Value} {fa : Addr} (X : K.In h) (G : h.Ns mainGlobals mg) (hfa : mg "law" = some (.ref fa))
    {f_is_number : Addr} {oc_is_number kV_is_number dc_is_number pm_is_number cd_is_number ct_is_number : Value} {od_is_number an_is_number : Option Addr} {sl_is_number : Array (Option Value)}
    {f_parse_number : Addr} {oc_parse_number  dc_parse_number pm_parse_number cd_parse_number ct_parse_number : Value} {od_parse_number an_parse_number : Option Addr} {sl_parse_number : Array (Option Value)} {kd_parse_number : Addr} {tk_parse_number : Tok}
    {f_number_lines : Addr} {oc_number_lines  dc_number_lines pm_number_lines cd_number_lines ct_number_lines : Value} {od_number_lines an_number_lines : Option Addr} {sl_number_lines : Array (Option Value)} {kd_number_lines : Addr} {tk_number_lines : Tok}
    {f_is_name : Addr} {oc_is_name kV_is_name dc_is_name pm_is_name cd_is_name ct_is_name : Value} {od_is_name an_is_name : Option Addr} {sl_is_name : Array (Option Value)}
    {f_is_full_name : Addr} {oc_is_full_name kV_is_full_name dc_is_full_name pm_is_full_name cd_is_full_name ct_is_full_name : Value} {od_is_full_name an_is_full_name : Option Addr} {sl_is_full_name : Array (Option Value)}
    {f_is_ascending : Addr} {oc_is_ascending kV_is_ascending dc_is_ascending pm_is_ascending cd_is_ascending ct_is_ascending : Value} {od_is_ascending an_is_ascending : Option Addr} {sl_is_ascending : Array (Option Value)}
    {f_are_full_names : Addr} {oc_are_full_names kV_are_full_names dc_are_full_names pm_are_full_names cd_are_full_names ct_are_full_names : Value} {od_are_full_names an_are_full_names : Option Addr} {sl_are_full_names : Array (Option Value)}
    {f_parse_names : Addr} {oc_parse_names  dc_parse_names pm_parse_names cd_parse_names ct_parse_names : Value} {od_parse_names an_parse_names : Option Addr} {sl_parse_names : Array (Option Value)} {kd_parse_names : Addr} {tk_parse_names : Tok}
    {f__law_source : Addr} {oc__law_source kV__law_source dc__law_source pm__law_source cd__law_source ct__law_source : Value} {od__law_source an__law_source : Option Addr} {sl__law_source : Array (Option Value)}
    {f__law_draw : Addr} {oc__law_draw kV__law_draw dc__law_draw pm__law_draw cd__law_draw ct__law_draw : Value} {od__law_draw an__law_draw : Option Addr} {sl__law_draw : Array (Option Value)}
    {f__law_string : Addr} {oc__law_string kV__law_string dc__law_string pm__law_string cd__law_string ct__law_string : Value} {od__law_string an__law_string : Option Addr} {sl__law_string : Array (Option Value)}
    {f__law_integer : Addr} {oc__law_integer kV__law_integer dc__law_integer pm__law_integer cd__law_integer ct__law_integer : Value} {od__law_integer an__law_integer : Option Addr} {sl__law_integer : Array (Option Value)}
    {f__law_number : Addr} {oc__law_number kV__law_number dc__law_number pm__law_number cd__law_number ct__law_number : Value} {od__law_number an__law_number : Option Addr} {sl__law_number : Array (Option Value)}
    {f__law_number_right : Addr} {oc__law_number_right kV__law_number_right dc__law_number_right pm__law_number_right cd__law_number_right ct__law_number_right : Value} {od__law_number_right an__law_number_right : Option Addr} {sl__law_number_right : Array (Option Value)}
    {f__law_words : Addr} {oc__law_words kV__law_words dc__law_words pm__law_words cd__law_words ct__law_words : Value} {od__law_words an__law_words : Option Addr} {sl__law_words : Array (Option Value)}
    {f__law_is_name : Addr} {oc__law_is_name kV__law_is_name dc__law_is_name pm__law_is_name cd__law_is_name ct__law_is_name : Value} {od__law_is_name an__law_is_name : Option Addr} {sl__law_is_name : Array (Option Value)}
    {f__law_names : Addr} {oc__law_names kV__law_names dc__law_names pm__law_names cd__law_names ct__law_names : Value} {od__law_names an__law_names : Option Addr} {sl__law_names : Array (Option Value)}
    {f__law_names_right : Addr} {oc__law_names_right kV__law_names_right dc__law_names_right pm__law_names_right cd__law_names_right ct__law_names_right : Value} {od__law_names_right an__law_names_right : Option Addr} {sl__law_names_right : Array (Option Value)}
    {f__law_numbered_right : Addr} {oc__law_numbered_right kV__law_numbered_right dc__law_numbered_right pm__law_numbered_right cd__law_numbered_right ct__law_numbered_right : Value} {od__law_numbered_right an__law_numbered_right : Option Addr} {sl__law_numbered_right : Array (Option Value)}
    {f_law : Addr} {oc_law kV_law dc_law pm_law cd_law ct_law : Value} {od_law an_law : Option Addr} {sl_law : Array (Option Value)}
    {t_DIGITS : Tok}
    {t_LONGEST : Tok}
    {t_LETTERS : Tok}
    {t_LETTERS_AND_DIGITS : Tok}
    (a_is_number : PySem.W.nsIn K mainGlobals "is_number" = some (some (.ref f_is_number))) (l_is_number : K.lookup f_is_number = some ⟨oc_is_number, od_is_number, .func (PySem.W.fnOf "is_number" "is_number" (defArgs s_is_number) (defBody s_is_number) (defScope s_is_number) .none kV_is_number dc_is_number pm_is_number an_is_number cd_is_number ct_is_number), sl_is_number⟩) (c_is_number : PySem.W.codeIn K cd_is_number "is_number" = true) (k_is_number : PySem.W.keepIn K (.ref f_is_number) = true)
    (a_parse_number : PySem.W.nsIn K mainGlobals "parse_number" = some (some (.ref f_parse_number))) (l_parse_number : K.lookup f_parse_number = some ⟨oc_parse_number, od_parse_number, .func (PySem.W.fnOf "parse_number" "parse_number" (defArgs s_parse_number) (defBody s_parse_number) (defScope s_parse_number) .none (.ref kd_parse_number) dc_parse_number pm_parse_number an_parse_number cd_parse_number ct_parse_number), sl_parse_number⟩) (c_parse_number : PySem.W.codeIn K cd_parse_number "parse_number" = true) (k_parse_number : PySem.W.keepIn K (.ref f_parse_number) = true)
    (kw_parse_number : PySem.W.nsIn K kd_parse_number "line" = some (some (.int 1 tk_parse_number)))
    (a_number_lines : PySem.W.nsIn K mainGlobals "number_lines" = some (some (.ref f_number_lines))) (l_number_lines : K.lookup f_number_lines = some ⟨oc_number_lines, od_number_lines, .func (PySem.W.fnOf "number_lines" "number_lines" (defArgs s_number_lines) (defBody s_number_lines) (defScope s_number_lines) .none (.ref kd_number_lines) dc_number_lines pm_number_lines an_number_lines cd_number_lines ct_number_lines), sl_number_lines⟩) (c_number_lines : PySem.W.codeIn K cd_number_lines "number_lines" = true) (k_number_lines : PySem.W.keepIn K (.ref f_number_lines) = true)
    (kw_number_lines : PySem.W.nsIn K kd_number_lines "first" = some (some (.int 1 tk_number_lines)))
    (a_is_name : PySem.W.nsIn K mainGlobals "is_name" = some (some (.ref f_is_name))) (l_is_name : K.lookup f_is_name = some ⟨oc_is_name, od_is_name, .func (PySem.W.fnOf "is_name" "is_name" (defArgs s_is_name) (defBody s_is_name) (defScope s_is_name) .none kV_is_name dc_is_name pm_is_name an_is_name cd_is_name ct_is_name), sl_is_name⟩) (c_is_name : PySem.W.codeIn K cd_is_name "is_name" = true) (k_is_name : PySem.W.keepIn K (.ref f_is_name) = true)
    (a_is_full_name : PySem.W.nsIn K mainGlobals "is_full_name" = some (some (.ref f_is_full_name))) (l_is_full_name : K.lookup f_is_full_name = some ⟨oc_is_full_name, od_is_full_name, .func (PySem.W.fnOf "is_full_name" "is_full_name" (defArgs s_is_full_name) (defBody s_is_full_name) (defScope s_is_full_name) .none kV_is_full_name dc_is_full_name pm_is_full_name an_is_full_name cd_is_full_name ct_is_full_name), sl_is_full_name⟩) (c_is_full_name : PySem.W.codeIn K cd_is_full_name "is_full_name" = true) (k_is_full_name : PySem.W.keepIn K (.ref f_is_full_name) = true)
    (a_is_ascending : PySem.W.nsIn K mainGlobals "is_ascending" = some (some (.ref f_is_ascending))) (l_is_ascending : K.lookup f_is_ascending = some ⟨oc_is_ascending, od_is_ascending, .func (PySem.W.fnOf "is_ascending" "is_ascending" (defArgs s_is_ascending) (defBody s_is_ascending) (defScope s_is_ascending) .none kV_is_ascending dc_is_ascending pm_is_ascending an_is_ascending cd_is_ascending ct_is_ascending), sl_is_ascending⟩) (c_is_ascending : PySem.W.codeIn K cd_is_ascending "is_ascending" = true) (k_is_ascending : PySem.W.keepIn K (.ref f_is_ascending) = true)
    (a_are_full_names : PySem.W.nsIn K mainGlobals "are_full_names" = some (some (.ref f_are_full_names))) (l_are_full_names : K.lookup f_are_full_names = some ⟨oc_are_full_names, od_are_full_names, .func (PySem.W.fnOf "are_full_names" "are_full_names" (defArgs s_are_full_names) (defBody s_are_full_names) (defScope s_are_full_names) .none kV_are_full_names dc_are_full_names pm_are_full_names an_are_full_names cd_are_full_names ct_are_full_names), sl_are_full_names⟩) (c_are_full_names : PySem.W.codeIn K cd_are_full_names "are_full_names" = true) (k_are_full_names : PySem.W.keepIn K (.ref f_are_full_names) = true)
    (a_parse_names : PySem.W.nsIn K mainGlobals "parse_names" = some (some (.ref f_parse_names))) (l_parse_names : K.lookup f_parse_names = some ⟨oc_parse_names, od_parse_names, .func (PySem.W.fnOf "parse_names" "parse_names" (defArgs s_parse_names) (defBody s_parse_names) (defScope s_parse_names) .none (.ref kd_parse_names) dc_parse_names pm_parse_names an_parse_names cd_parse_names ct_parse_names), sl_parse_names⟩) (c_parse_names : PySem.W.codeIn K cd_parse_names "parse_names" = true) (k_parse_names : PySem.W.keepIn K (.ref f_parse_names) = true)
    (kw_parse_names : PySem.W.nsIn K kd_parse_names "line" = some (some (.int 1 tk_parse_names)))
    (a__law_source : PySem.W.nsIn K mainGlobals "_law_source" = some (some (.ref f__law_source))) (l__law_source : K.lookup f__law_source = some ⟨oc__law_source, od__law_source, .func (PySem.W.fnOf "_law_source" "_law_source" (defArgs s__law_source) (defBody s__law_source) (defScope s__law_source) .none kV__law_source dc__law_source pm__law_source an__law_source cd__law_source ct__law_source), sl__law_source⟩) (c__law_source : PySem.W.codeIn K cd__law_source "_law_source" = true) (k__law_source : PySem.W.keepIn K (.ref f__law_source) = true)
    (a__law_draw : PySem.W.nsIn K mainGlobals "_law_draw" = some (some (.ref f__law_draw))) (l__law_draw : K.lookup f__law_draw = some ⟨oc__law_draw, od__law_draw, .func (PySem.W.fnOf "_law_draw" "_law_draw" (defArgs s__law_draw) (defBody s__law_draw) (defScope s__law_draw) .none kV__law_draw dc__law_draw pm__law_draw an__law_draw cd__law_draw ct__law_draw), sl__law_draw⟩) (c__law_draw : PySem.W.codeIn K cd__law_draw "_law_draw" = true) (k__law_draw : PySem.W.keepIn K (.ref f__law_draw) = true)
    (a__law_string : PySem.W.nsIn K mainGlobals "_law_string" = some (some (.ref f__law_string))) (l__law_string : K.lookup f__law_string = some ⟨oc__law_string, od__law_string, .func (PySem.W.fnOf "_law_string" "_law_string" (defArgs s__law_string) (defBody s__law_string) (defScope s__law_string) .none kV__law_string dc__law_string pm__law_string an__law_string cd__law_string ct__law_string), sl__law_string⟩) (c__law_string : PySem.W.codeIn K cd__law_string "_law_string" = true) (k__law_string : PySem.W.keepIn K (.ref f__law_string) = true)
    (a__law_integer : PySem.W.nsIn K mainGlobals "_law_integer" = some (some (.ref f__law_integer))) (l__law_integer : K.lookup f__law_integer = some ⟨oc__law_integer, od__law_integer, .func (PySem.W.fnOf "_law_integer" "_law_integer" (defArgs s__law_integer) (defBody s__law_integer) (defScope s__law_integer) .none kV__law_integer dc__law_integer pm__law_integer an__law_integer cd__law_integer ct__law_integer), sl__law_integer⟩) (c__law_integer : PySem.W.codeIn K cd__law_integer "_law_integer" = true) (k__law_integer : PySem.W.keepIn K (.ref f__law_integer) = true)
    (a__law_number : PySem.W.nsIn K mainGlobals "_law_number" = some (some (.ref f__law_number))) (l__law_number : K.lookup f__law_number = some ⟨oc__law_number, od__law_number, .func (PySem.W.fnOf "_law_number" "_law_number" (defArgs s__law_number) (defBody s__law_number) (defScope s__law_number) .none kV__law_number dc__law_number pm__law_number an__law_number cd__law_number ct__law_number), sl__law_number⟩) (c__law_number : PySem.W.codeIn K cd__law_number "_law_number" = true) (k__law_number : PySem.W.keepIn K (.ref f__law_number) = true)
    (a__law_number_right : PySem.W.nsIn K mainGlobals "_law_number_right" = some (some (.ref f__law_number_right))) (l__law_number_right : K.lookup f__law_number_right = some ⟨oc__law_number_right, od__law_number_right, .func (PySem.W.fnOf "_law_number_right" "_law_number_right" (defArgs s__law_number_right) (defBody s__law_number_right) (defScope s__law_number_right) .none kV__law_number_right dc__law_number_right pm__law_number_right an__law_number_right cd__law_number_right ct__law_number_right), sl__law_number_right⟩) (c__law_number_right : PySem.W.codeIn K cd__law_number_right "_law_number_right" = true) (k__law_number_right : PySem.W.keepIn K (.ref f__law_number_right) = true)
    (a__law_words : PySem.W.nsIn K mainGlobals "_law_words" = some (some (.ref f__law_words))) (l__law_words : K.lookup f__law_words = some ⟨oc__law_words, od__law_words, .func (PySem.W.fnOf "_law_words" "_law_words" (defArgs s__law_words) (defBody s__law_words) (defScope s__law_words) .none kV__law_words dc__law_words pm__law_words an__law_words cd__law_words ct__law_words), sl__law_words⟩) (c__law_words : PySem.W.codeIn K cd__law_words "_law_words" = true) (k__law_words : PySem.W.keepIn K (.ref f__law_words) = true)
    (a__law_is_name : PySem.W.nsIn K mainGlobals "_law_is_name" = some (some (.ref f__law_is_name))) (l__law_is_name : K.lookup f__law_is_name = some ⟨oc__law_is_name, od__law_is_name, .func (PySem.W.fnOf "_law_is_name" "_law_is_name" (defArgs s__law_is_name) (defBody s__law_is_name) (defScope s__law_is_name) .none kV__law_is_name dc__law_is_name pm__law_is_name an__law_is_name cd__law_is_name ct__law_is_name), sl__law_is_name⟩) (c__law_is_name : PySem.W.codeIn K cd__law_is_name "_law_is_name" = true) (k__law_is_name : PySem.W.keepIn K (.ref f__law_is_name) = true)
    (a__law_names : PySem.W.nsIn K mainGlobals "_law_names" = some (some (.ref f__law_names))) (l__law_names : K.lookup f__law_names = some ⟨oc__law_names, od__law_names, .func (PySem.W.fnOf "_law_names" "_law_names" (defArgs s__law_names) (defBody s__law_names) (defScope s__law_names) .none kV__law_names dc__law_names pm__law_names an__law_names cd__law_names ct__law_names), sl__law_names⟩) (c__law_names : PySem.W.codeIn K cd__law_names "_law_names" = true) (k__law_names : PySem.W.keepIn K (.ref f__law_names) = true)
    (a__law_names_right : PySem.W.nsIn K mainGlobals "_law_names_right" = some (some (.ref f__law_names_right))) (l__law_names_right : K.lookup f__law_names_right = some ⟨oc__law_names_right, od__law_names_right, .func (PySem.W.fnOf "_law_names_right" "_law_names_right" (defArgs s__law_names_right) (defBody s__law_names_right) (defScope s__law_names_right) .none kV__law_names_right dc__law_names_right pm__law_names_right an__law_names_right cd__law_names_right ct__law_names_right), sl__law_names_right⟩) (c__law_names_right : PySem.W.codeIn K cd__law_names_right "_law_names_right" = true) (k__law_names_right : PySem.W.keepIn K (.ref f__law_names_right) = true)
    (a__law_numbered_right : PySem.W.nsIn K mainGlobals "_law_numbered_right" = some (some (.ref f__law_numbered_right))) (l__law_numbered_right : K.lookup f__law_numbered_right = some ⟨oc__law_numbered_right, od__law_numbered_right, .func (PySem.W.fnOf "_law_numbered_right" "_law_numbered_right" (defArgs s__law_numbered_right) (defBody s__law_numbered_right) (defScope s__law_numbered_right) .none kV__law_numbered_right dc__law_numbered_right pm__law_numbered_right an__law_numbered_right cd__law_numbered_right ct__law_numbered_right), sl__law_numbered_right⟩) (c__law_numbered_right : PySem.W.codeIn K cd__law_numbered_right "_law_numbered_right" = true) (k__law_numbered_right : PySem.W.keepIn K (.ref f__law_numbered_right) = true)
    (a_law : PySem.W.nsIn K mainGlobals "law" = some (some (.ref f_law))) (l_law : K.lookup f_law = some ⟨oc_law, od_law, .func (PySem.W.fnOf "law" "law" (defArgs s_law) (defBody s_law) (defScope s_law) .none kV_law dc_law pm_law an_law cd_law ct_law), sl_law⟩) (c_law : PySem.W.codeIn K cd_law "law" = true) (k_law : PySem.W.keepIn K (.ref f_law) = true)
    (z_DIGITS : PySem.W.nsIn K mainGlobals "DIGITS" = some (some (.str (Str.ofString "0123456789") t_DIGITS)))
    (z_LONGEST : PySem.W.nsIn K mainGlobals "LONGEST" = some (some (.int 8 t_LONGEST)))
    (z_LETTERS : PySem.W.nsIn K mainGlobals "LETTERS" = some (some (.str (Str.ofString "abcdefghijklmnopqrstuvwxyz") t_LETTERS)))
    (z_LETTERS_AND_DIGITS : PySem.W.nsIn K mainGlobals "LETTERS_AND_DIGITS" = some (some (.str (Str.ofString "abcdefghijklmnopqrstuvwxyz0123456789") t_LETTERS_AND_DIGITS)))
    (z_all : PySem.W.nsIn K mainGlobals "all" = some none)
    (z_int : PySem.W.nsIn K mainGlobals "int" = some none)
    (z_len : PySem.W.nsIn K mainGlobals "len" = some none)
    (z_str : PySem.W.nsIn K mainGlobals "str" = some none)
    (z_tuple : PySem.W.nsIn K mainGlobals "tuple" = some none)
    (z_enumerate : PySem.W.nsIn K mainGlobals "enumerate" = some none)
    (z_list : PySem.W.nsIn K mainGlobals "list" = some none)
    (z_set : PySem.W.nsIn K mainGlobals "set" = some none)
    (z_sorted : PySem.W.nsIn K mainGlobals "sorted" = some none)
    (z_range : PySem.W.nsIn K mainGlobals "range" = some none)
    (z_isinstance : PySem.W.nsIn K mainGlobals "isinstance" = some none)
    (z_bool : PySem.W.nsIn K mainGlobals "bool" = some none)
    {C SE NE fI cc cda : Addr} {oc kV dc pm ct cl ccl : Value} {od an cld cdd : Option Addr} {osl csl ccs : Array (Option Value)} {vs : Array Value} {file : Str} {tf : Tok}
    {nm q : Str} {N : Addr} {bs bm : List Value} {sn : List Str} {sub : List Value} {ab : Bool} {col : Option Bool} {dd : Option Addr} {k0 k1 k2 k3 k5 : Option Value} {cd : ClassData}
    (a_C : PySem.W.nsIn K mainGlobals "InvalidText" = some (some (.ref C))) (a_SE : PySem.W.nsIn K mainGlobals "ShadowError" = some (some (.ref SE))) (a_NE : PySem.W.nsIn K mainGlobals "InvalidName" = some (some (.ref NE)))
    (l_C : K.lookup C = some (excClassObj nm q C N bs bm true sn sub ab col dd k0 k1 k2 k3 k5 "ValueError.__new__")) (r_C : PySem.HandSPX.refsVE bm = true) (cd_C : PySem.W.clsIn K C = some cd)
    (sa_C : PySem.W.findIn K (.ref C) "__setattr__" = some (some (.builtin "object.__setattr__"))) (ex_C : PySem.W.subIn K (.ref C) (.type "BaseException") = some true) (ty_C : PySem.W.typeIn K (.ref C) = some (.type "type")) (kp_C : PySem.W.keepIn K (.ref C) = true)
    (i_C : PySem.W.findIn K (.ref C) "__init__" = some (some (.ref fI))) (t_fI : PySem.W.typeIn K (.ref fI) = some (.type "function"))
    (l_fI : K.lookup fI = some ⟨oc, od, .func (PySem.W.fnX "__init__" "InvalidText.__init__" (defArgs s_InvalidText___init__) (defBody s_InvalidText___init__) (defScope s_InvalidText___init__) [(("__class__" : Str), cc)] .none kV dc pm an (.ref cda) ct), osl⟩)
    (c_fI : PySem.W.codeIn K (.ref cda) "InvalidText.__init__" = true) (l_cc : K.lookup cc = some ⟨cl, cld, .cell (some (.ref C)), csl⟩) (l_cda : K.lookup cda = some ⟨ccl, cdd, .fields vs, ccs⟩) (v_cda : vs[2]? = some (.str file tf)) (p_file : ((l.prog.main.file : Str) == file) = true)
    (p_top : (l.prog.main.scope.names.lookup ("super" : Str)).isSome = false) (z_super : PySem.W.nsIn K mainGlobals "super" = some none) (any_ : PySem.W.nsIn K cStatics "thirdparty.any" = some none)
    (m_C : PySem.W.mroIn K C (.ref C) = some true) (s_C : PySem.W.ks_superIn K C C "__init__" = some (some (.builtin "ValueError.__init__"))) (v_C : PySem.W.subIn K (.ref C) (.type "ValueError") = some true)
    (no_C : PySem.W.findIn K (.ref C) "line" = some none) (ss_C : PySem.W.subIn K (.ref C) (.ref C) = some true) (ga_C : PySem.W.findIn K (.ref C) "__getattribute__" = some (some (.builtin "BaseException.__getattribute__"))) (gg_C : PySem.W.findIn K (.ref C) "__getattr__" = some none)
    (hd_C : PySem.W.hasDictIn K C = true) (gc_C : PySem.W.findIn K (.ref C) "__class__" = some (some (.builtin "object.__class__"))) (sp_ : PySem.W.specialIn K (.builtin "object.__class__") "__get__" = some (some (.builtin "getset_descriptor.__get__")))
    (tk_ : PySem.W.takesIn K (.builtin "object.__class__") = some true) (mo_C : PySem.W.mroIn K C (.type "object") = some true) {cd2 cd3 : ClassData} (cd_SE : PySem.W.clsIn K SE = some cd2) (cd_NE : PySem.W.clsIn K NE = some cd3) (ty_SE : PySem.W.typeIn K (.ref SE) = some (.type "type")) (ty_NE : PySem.W.typeIn K (.ref NE) = some (.type "type"))
    (su_S : PySem.W.subIn K (.ref C) (.ref SE) = some true) (su_N : PySem.W.subIn K (.ref C) (.ref NE) = some false)
    (l_st : ∃ oc od es ep sl, K.lookup cStatics = some ⟨oc, od, .dict es ep, sl⟩ ∧ StrKeys es ∧ nsFind es "sys.int_max_str_digits" = none)
    : ∃ fd : FuncData, (∀ (s : Shared) (v : Value), BindsTo s fd ⟨[v], []⟩ [("_law_script", v)]) ∧ ∀ base : Heap, K.In base → base.Ns mainGlobals mg → FnOk l.prog w K mg base CX0 7 fa fd ["_law_script"] (spLaw K) := by
  have e := hfa.symm.trans (PySem.W.mg_of X G a_law)
  cases e
  have F_is_number := fun_mk (st := s_is_number) l_is_number c_is_number k_is_number
  have b_is_number := F_is_number.binds (ps := ["text"]) fun _ _ _ _ _ _ us hl => match us, hl with | [_], _ => rfl
  have F_parse_number : FunD K "parse_number" "parse_number" (defArgs s_parse_number) (defBody s_parse_number) (defScope s_parse_number) [] [(("line" : Str), V.int 1)] f_parse_number _ := ⟨⟨_, _, _, _, _, _, _, _, _, _, rfl, l_parse_number, c_parse_number, .inl ⟨rfl, rfl⟩, .inr ⟨kd_parse_number, rfl, fun q hq => by rw [List.mem_singleton.mp hq]; exact ⟨_, kw_parse_number, ⟨_, rfl⟩⟩⟩⟩, k_parse_number⟩
  have F_number_lines : FunD K "number_lines" "number_lines" (defArgs s_number_lines) (defBody s_number_lines) (defScope s_number_lines) [] [(("first" : Str), V.int 1)] f_number_lines _ := ⟨⟨_, _, _, _, _, _, _, _, _, _, rfl, l_number_lines, c_number_lines, .inl ⟨rfl, rfl⟩, .inr ⟨kd_number_lines, rfl, fun q hq => by rw [List.mem_singleton.mp hq]; exact ⟨_, kw_number_lines, ⟨_, rfl⟩⟩⟩⟩, k_number_lines⟩
  have F_is_name := fun_mk (st := s_is_name) l_is_name c_is_name k_is_name
  have b_is_name := F_is_name.binds (ps := ["text"]) fun _ _ _ _ _ _ us hl => match us, hl with | [_], _ => rfl
  have F_is_full_name := fun_mk (st := s_is_full_name) l_is_full_name c_is_full_name k_is_full_name
  have b_is_full_name := F_is_full_name.binds (ps := ["text"]) fun _ _ _ _ _ _ us hl => match us, hl with | [_], _ => rfl
  have F_is_ascending := fun_mk (st := s_is_ascending) l_is_ascending c_is_ascending k_is_ascending
  have b_is_ascending := F_is_ascending.binds (ps := ["values"]) fun _ _ _ _ _ _ us hl => match us, hl with | [_], _ => rfl
  have F_are_full_names := fun_mk (st := s_are_full_names) l_are_full_names c_are_full_names k_are_full_names
  have b_are_full_names := F_are_full_names.binds (ps := ["names"]) fun _ _ _ _ _ _ us hl => match us, hl with | [_], _ => rfl
  have F_parse_names : FunD K "parse_names" "parse_names" (defArgs s_parse_names) (defBody s_parse_names) (defScope s_parse_names) [] [(("line" : Str), V.int 1)] f_parse_names _ := ⟨⟨_, _, _, _, _, _, _, _, _, _, rfl, l_parse_names, c_parse_names, .inl ⟨rfl, rfl⟩, .inr ⟨kd_parse_names, rfl, fun q hq => by rw [List.mem_singleton.mp hq]; exact ⟨_, kw_parse_names, ⟨_, rfl⟩⟩⟩⟩, k_parse_names⟩
  have F__law_source := fun_mk (st := s__law_source) l__law_source c__law_source k__law_source
  have b__law_source := F__law_source.binds (ps := ["_law_script", "_law_k"]) fun _ _ _ _ _ _ us hl => match us, hl with | [_, _], _ => rfl
  have F__law_draw := fun_mk (st := s__law_draw) l__law_draw c__law_draw k__law_draw
  have b__law_draw := F__law_draw.binds (ps := ["_law_source_here", "_law_limit"]) fun _ _ _ _ _ _ us hl => match us, hl with | [_, _], _ => rfl
  have F__law_string := fun_mk (st := s__law_string) l__law_string c__law_string k__law_string
  have b__law_string := F__law_string.binds (ps := ["_law_source_here"]) fun _ _ _ _ _ _ us hl => match us, hl with | [_], _ => rfl
  have F__law_integer := fun_mk (st := s__law_integer) l__law_integer c__law_integer k__law_integer
  have b__law_integer := F__law_integer.binds (ps := ["_law_text"]) fun _ _ _ _ _ _ us hl => match us, hl with | [_], _ => rfl
  have F__law_number := fun_mk (st := s__law_number) l__law_number c__law_number k__law_number
  have b__law_number := F__law_number.binds (ps := ["_law_text", "_law_at"]) fun _ _ _ _ _ _ us hl => match us, hl with | [_, _], _ => rfl
  have F__law_number_right := fun_mk (st := s__law_number_right) l__law_number_right c__law_number_right k__law_number_right
  have b__law_number_right := F__law_number_right.binds (ps := ["_law_source_here"]) fun _ _ _ _ _ _ us hl => match us, hl with | [_], _ => rfl
  have F__law_words := fun_mk (st := s__law_words) l__law_words c__law_words k__law_words
  have b__law_words := F__law_words.binds (ps := ["_law_source_here"]) fun _ _ _ _ _ _ us hl => match us, hl with | [_], _ => rfl
  have F__law_is_name := fun_mk (st := s__law_is_name) l__law_is_name c__law_is_name k__law_is_name
  have b__law_is_name := F__law_is_name.binds (ps := ["_law_word"]) fun _ _ _ _ _ _ us hl => match us, hl with | [_], _ => rfl
  have F__law_names := fun_mk (st := s__law_names) l__law_names c__law_names k__law_names
  have b__law_names := F__law_names.binds (ps := ["_law_words_here", "_law_at"]) fun _ _ _ _ _ _ us hl => match us, hl with | [_, _], _ => rfl
  have F__law_names_right := fun_mk (st := s__law_names_right) l__law_names_right c__law_names_right k__law_names_right
  have b__law_names_right := F__law_names_right.binds (ps := ["_law_source_here"]) fun _ _ _ _ _ _ us hl => match us, hl with | [_], _ => rfl
  have F__law_numbered_right := fun_mk (st := s__law_numbered_right) l__law_numbered_right c__law_numbered_right k__law_numbered_right
  have b__law_numbered_right := F__law_numbered_right.binds (ps := ["_law_source_here"]) fun _ _ _ _ _ _ us hl => match us, hl with | [_], _ => rfl
  have F_law := fun_mk (st := s_law) l_law c_law k_law
  have m_DIGITS := PySem.W.mg_of X G z_DIGITS
  have m_LONGEST := PySem.W.mg_of X G z_LONGEST
  have m_LETTERS := PySem.W.mg_of X G z_LETTERS
  have m_LETTERS_AND_DIGITS := PySem.W.mg_of X G z_LETTERS_AND_DIGITS
  have m_all := PySem.W.mg_none_of X G z_all
  have m_int := PySem.W.mg_none_of X G z_int
  have m_len := PySem.W.mg_none_of X G z_len
  have m_str := PySem.W.mg_none_of X G z_str
  have m_tuple := PySem.W.mg_none_of X G z_tuple
  have m_enumerate := PySem.W.mg_none_of X G z_enumerate
  have m_list := PySem.W.mg_none_of X G z_list
  have m_set := PySem.W.mg_none_of X G z_set
  have m_sorted := PySem.W.mg_none_of X G z_sorted
  have m_range := PySem.W.mg_none_of X G z_range
  have m_isinstance := PySem.W.mg_none_of X G z_isinstance
  have m_bool := PySem.W.mg_none_of X G z_bool
  have er := err_mk (l := l) (w := w) X G a_C a_SE a_NE l_C r_C cd_C sa_C ex_C ty_C kp_C i_C t_fI l_fI c_fI l_cc l_cda v_cda p_file p_top z_super any_ m_C s_C v_C no_C ss_C ga_C gg_C hd_C gc_C sp_ tk_ mo_C cd_SE cd_NE ty_SE ty_NE su_S su_N
  have EI := er.2
  refine ⟨PySem.W.fnOf "law" "law" (defArgs s_law) (defBody s_law) (defScope s_law) .none kV_law dc_law pm_law an_law cd_law ct_law, fun s v => .of_eq rfl, fun base Xb _ => ?_⟩
  have E_InvalidText := er.1 base
  have hnd : base.NoDigits := by
    obtain ⟨oc, od, es, ep, sl, e1, e2, e3⟩ := l_st
    exact ⟨fun name => nsFind es name, ⟨_, es, ep, Xb _ _ e1, rfl, e2, fun _ => rfl⟩, e3⟩
  have C_is_number : Cal l.prog w K mg base "is_number" 1 ["text"] spIsNumber := ⟨_, _, ok_is_number F_is_number (m_all := m_all) (m_DIGITS := m_DIGITS), PySem.W.mg_of X G a_is_number, F_is_number.kp, b_is_number⟩
  have CX_parse_number : CalX l.prog w K mg base "parse_number" "line" 3 ["text", "line"] (.int 1) (spParseNumber C) := ⟨_, _, ok_parse_number F_parse_number (m_int := m_int) (C_is_number := C_is_number) (E_InvalidText := E_InvalidText), PySem.W.mg_of X G a_parse_number, F_parse_number.kp, F_parse_number.binds0 (ps := ["text", "line"]) 1 (by simp) rfl (fun D doc pm an cdv ct us ks h1 h2 => match us, ks, h1, h2 with | [_], [_], _, _ => ⟨_, _, _, _, _, _, rfl, rfl, rfl⟩), ⟨fun s us ws _ h1 h2 => match us, ws, h1, h2 with | [_], [_], _, _ => .of_eq rfl, fun r rz => r.append rz⟩⟩
  have CX_number_lines : CalX l.prog w K mg base "number_lines" "first" 1 ["lines", "first"] (.int 1) (spNumberLines K) := ⟨_, _, ok_number_lines F_number_lines (hnd := hnd) (m_len := m_len) (m_str := m_str) (m_tuple := m_tuple) (m_enumerate := m_enumerate), PySem.W.mg_of X G a_number_lines, F_number_lines.kp, F_number_lines.binds0 (ps := ["lines", "first"]) 1 (by simp) rfl (fun D doc pm an cdv ct us ks h1 h2 => match us, ks, h1, h2 with | [_], [_], _, _ => ⟨_, _, _, _, _, _, rfl, rfl, rfl⟩), ⟨fun s us ws _ h1 h2 => match us, ws, h1, h2 with | [_], [_], _, _ => .of_eq rfl, fun r rz => r.append rz⟩⟩
  have C_is_name : Cal l.prog w K mg base "is_name" 1 ["text"] spIsName := ⟨_, _, ok_is_name F_is_name (m_len := m_len) (m_all := m_all) (m_LONGEST := m_LONGEST) (m_LETTERS := m_LETTERS) (m_LETTERS_AND_DIGITS := m_LETTERS_AND_DIGITS), PySem.W.mg_of X G a_is_name, F_is_name.kp, b_is_name⟩
  have C_is_full_name : Cal l.prog w K mg base "is_full_name" 2 ["text"] spFull := ⟨_, _, ok_is_full_name F_is_full_name (m_all := m_all) (C_is_name := C_is_name), PySem.W.mg_of X G a_is_full_name, F_is_full_name.kp, b_is_full_name⟩
  have C_is_ascending : Cal l.prog w K mg base "is_ascending" 1 ["values"] (spAsc K) := ⟨_, _, ok_is_ascending F_is_ascending (m_list := m_list) (m_set := m_set) (m_sorted := m_sorted), PySem.W.mg_of X G a_is_ascending, F_is_ascending.kp, b_is_ascending⟩
  have C_are_full_names : Cal l.prog w K mg base "are_full_names" 3 ["names"] (spAre K) := ⟨_, _, ok_are_full_names F_are_full_names (m_all := m_all) (C_is_full_name := C_is_full_name) (C_is_ascending := C_is_ascending), PySem.W.mg_of X G a_are_full_names, F_are_full_names.kp, b_are_full_names⟩
  have CX_parse_names : CalX l.prog w K mg base "parse_names" "line" 4 ["words", "line"] (.int 1) (spParseNames K C) := ⟨_, _, ok_parse_names F_parse_names (m_tuple := m_tuple) (C_are_full_names := C_are_full_names) (E_InvalidText := E_InvalidText), PySem.W.mg_of X G a_parse_names, F_parse_names.kp, F_parse_names.binds0 (ps := ["words", "line"]) 1 (by simp) rfl (fun D doc pm an cdv ct us ks h1 h2 => match us, ks, h1, h2 with | [_], [_], _, _ => ⟨_, _, _, _, _, _, rfl, rfl, rfl⟩), ⟨fun s us ws _ h1 h2 => match us, ws, h1, h2 with | [_], [_], _, _ => .of_eq rfl, fun r rz => r.append rz⟩⟩
  have C__law_source : Cal l.prog w K mg base "_law_source" 1 ["_law_script", "_law_k"] (spSource K) := ⟨_, _, ok_source F__law_source (m_len := m_len) (m_int := m_int), PySem.W.mg_of X G a__law_source, F__law_source.kp, b__law_source⟩
  have C__law_draw : Cal l.prog w K mg base "_law_draw" 1 ["_law_source_here", "_law_limit"] spDraw := ⟨_, _, ok_draw F__law_draw (m_int := m_int), PySem.W.mg_of X G a__law_draw, F__law_draw.kp, b__law_draw⟩
  have C__law_string : Cal l.prog w K mg base "_law_string" 2 ["_law_source_here"] spString := ⟨_, _, ok_string F__law_string (m_range := m_range) (m_str := m_str) (C__law_draw := C__law_draw), PySem.W.mg_of X G a__law_string, F__law_string.kp, b__law_string⟩
  have C__law_integer : Cal l.prog w K mg base "_law_integer" 1 ["_law_text"] spInteger := ⟨_, _, ok_integer F__law_integer , PySem.W.mg_of X G a__law_integer, F__law_integer.kp, b__law_integer⟩
  have C__law_number : Cal l.prog w K mg base "_law_number" 4 ["_law_text", "_law_at"] spLawNumber := ⟨_, _, ok_law_number F__law_number (m_isinstance := m_isinstance) (CX_parse_number := CX_parse_number) (E_InvalidText := E_InvalidText) (EI := EI), PySem.W.mg_of X G a__law_number, F__law_number.kp, b__law_number⟩
  have C__law_number_right : Cal l.prog w K mg base "_law_number_right" 5 ["_law_source_here"] spRight := ⟨_, _, ok_number_right F__law_number_right (m_isinstance := m_isinstance) (m_bool := m_bool) (m_int := m_int) (C__law_draw := C__law_draw) (C__law_string := C__law_string) (C__law_integer := C__law_integer) (C_is_number := C_is_number) (C__law_number := C__law_number), PySem.W.mg_of X G a__law_number_right, F__law_number_right.kp, b__law_number_right⟩
  have C__law_words : Cal l.prog w K mg base "_law_words" 2 ["_law_source_here"] spWords := ⟨_, _, ok_words F__law_words (m_range := m_range) (m_sorted := m_sorted) (C__law_draw := C__law_draw), PySem.W.mg_of X G a__law_words, F__law_words.kp, b__law_words⟩
  have C__law_is_name : Cal l.prog w K mg base "_law_is_name" 1 ["_law_word"] spLawIsName := ⟨_, _, ok_law_is_name F__law_is_name (m_len := m_len), PySem.W.mg_of X G a__law_is_name, F__law_is_name.kp, b__law_is_name⟩
  have C__law_names : Cal l.prog w K mg base "_law_names" 5 ["_law_words_here", "_law_at"] (spLawNames K) := ⟨_, _, ok_law_names F__law_names (m_isinstance := m_isinstance) (CX_parse_names := CX_parse_names) (E_InvalidText := E_InvalidText) (EI := EI), PySem.W.mg_of X G a__law_names, F__law_names.kp, b__law_names⟩
  have C__law_names_right : Cal l.prog w K mg base "_law_names_right" 6 ["_law_source_here"] spRight := ⟨_, _, ok_names_right F__law_names_right (m_isinstance := m_isinstance) (m_len := m_len) (m_range := m_range) (m_list := m_list) (m_tuple := m_tuple) (C__law_draw := C__law_draw) (C__law_words := C__law_words) (C__law_is_name := C__law_is_name) (C__law_names := C__law_names), PySem.W.mg_of X G a__law_names_right, F__law_names_right.kp, b__law_names_right⟩
  have C__law_numbered_right : Cal l.prog w K mg base "_law_numbered_right" 2 ["_law_source_here"] spRight := ⟨_, _, ok_numbered_right F__law_numbered_right (m_isinstance := m_isinstance) (m_len := m_len) (m_range := m_range) (m_list := m_list) (m_tuple := m_tuple) (m_str := m_str) (C__law_draw := C__law_draw) (CX_number_lines := CX_number_lines), PySem.W.mg_of X G a__law_numbered_right, F__law_numbered_right.kp, b__law_numbered_right⟩
  exact ok_law F_law (m_range := m_range) (C__law_source := C__law_source) (C__law_number_right := C__law_number_right) (C__law_names_right := C__law_names_right) (C__law_numbered_right := C__law_numbered_right)
end K03
open PySem PySem.W PyProof.Rows
set_option maxRecDepth 100000 in
set_option maxHeartbeats 0 in
theorem PySem.Challenge.cw_shadowlinks_k03_numbers_and_names_in_tex_holds : PySem.Challenge.rw_shadowlinks_k03_numbers_and_names_in_tex.Holds := by
  w_on; o_law; k_head; (case hw => w_witness2)
  k_fill
  refine L2.walk_of (l := PySem.Challenge.rw_shadowlinks_k03_numbers_and_names_in_tex) (n := 63) (k := 7) (x := "_law_script") (CX := fun _ => L2.CX0) (sp := fun w => K03.spLaw _) rfl (by decide) rfl ⟨rfl, by decide, by decide⟩ (fun w h Y => PySem.W.kIn_of Y) ?F (fun _ _ a ns hl _ hS => ⟨a, ns, rfl, hS, hl, fun _ => rfl⟩) (fun _ _ _ _ _ h => h)
  case F =>
    intro w mg fa h KX G hmg
    refine' K03.all_mk KX G hmg ?a_is_number ?l_is_number ?c_is_number ?k_is_number ?a_parse_number ?l_parse_number ?c_parse_number ?k_parse_number ?kw_parse_number ?a_number_lines ?l_number_lines ?c_number_lines ?k_number_lines ?kw_number_lines ?a_is_name ?l_is_name ?c_is_name ?k_is_name ?a_is_full_name ?l_is_full_name ?c_is_full_name ?k_is_full_name ?a_is_ascending ?l_is_ascending ?c_is_ascending ?k_is_ascending ?a_are_full_names ?l_are_full_names ?c_are_full_names ?k_are_full_names ?a_parse_names ?l_parse_names ?c_parse_names ?k_parse_names ?kw_parse_names ?a__law_source ?l__law_source ?c__law_source ?k__law_source ?a__law_draw ?l__law_draw ?c__law_draw ?k__law_draw ?a__law_string ?l__law_string ?c__law_string ?k__law_string ?a__law_integer ?l__law_integer ?c__law_integer ?k__law_integer ?a__law_number ?l__law_number ?c__law_number ?k__law_number ?a__law_number_right ?l__law_number_right ?c__law_number_right ?k__law_number_right ?a__law_words ?l__law_words ?c__law_words ?k__law_words ?a__law_is_name ?l__law_is_name ?c__law_is_name ?k__law_is_name ?a__law_names ?l__law_names ?c__law_names ?k__law_names ?a__law_names_right ?l__law_names_right ?c__law_names_right ?k__law_names_right ?a__law_numbered_right ?l__law_numbered_right ?c__law_numbered_right ?k__law_numbered_right ?a_law ?l_law ?c_law ?k_law ?z_DIGITS ?z_LONGEST ?z_LETTERS ?z_LETTERS_AND_DIGITS ?z_all ?z_int ?z_len ?z_str ?z_tuple ?z_enumerate ?z_list ?z_set ?z_sorted ?z_range ?z_isinstance ?z_bool ?a_C ?a_SE ?a_NE ?l_C ?r_C ?cd_C ?sa_C ?ex_C ?ty_C ?kp_C ?i_C ?t_fI ?l_fI ?c_fI ?l_cc ?l_cda ?v_cda ?p_file ?p_top ?z_super ?any_ ?m_C ?s_C ?v_C ?no_C ?ss_C ?ga_C ?gg_C ?hd_C ?gc_C ?sp_ ?tk_ ?mo_C ?cd_SE ?cd_NE ?ty_SE ?ty_NE ?su_S ?su_N ?l_st
    (case a_is_number => k_is)
    (case l_is_number => k_is)
    (case c_is_number => k_is)
    (case k_is_number => k_is)
    (case a_parse_number => k_is)
    (case l_parse_number => k_is)
    (case c_parse_number => k_is)
    (case k_parse_number => k_is)
    (case kw_parse_number => k_is)
    (case a_number_lines => k_is)
    (case l_number_lines => k_is)
    (case c_number_lines => k_is)
    (case k_number_lines => k_is)
    (case kw_number_lines => k_is)
    (case a_is_name => k_is)
    (case l_is_name => k_is)
    (case c_is_name => k_is)
    (case k_is_name => k_is)
    (case a_is_full_name => k_is)
    (case l_is_full_name => k_is)
    (case c_is_full_name => k_is)
    (case k_is_full_name => k_is)
    (case a_is_ascending => k_is)
    (case l_is_ascending => k_is)
    (case c_is_ascending => k_is)
    (case k_is_ascending => k_is)
    (case a_are_full_names => k_is)
    (case l_are_full_names => k_is)
    (case c_are_full_names => k_is)
    (case k_are_full_names => k_is)
    (case a_parse_names => k_is)
    (case l_parse_names => k_is)
    (case c_parse_names => k_is)
    (case k_parse_names => k_is)
    (case kw_parse_names => k_is)
    (case a__law_source => k_is)
    (case l__law_source => k_is)
    (case c__law_source => k_is)
    (case k__law_source => k_is)
    (case a__law_draw => k_is)
    (case l__law_draw => k_is)
    (case c__law_draw => k_is)
    (case k__law_draw => k_is)
    (case a__law_string => k_is)
    (case l__law_string => k_is)
    (case c__law_string => k_is)
    (case k__law_string => k_is)
    (case a__law_integer => k_is)
    (case l__law_integer => k_is)
    (case c__law_integer => k_is)
    (case k__law_integer => k_is)
    (case a__law_number => k_is)
    (case l__law_number => k_is)
    (case c__law_number => k_is)
    (case k__law_number => k_is)
    (case a__law_number_right => k_is)
    (case l__law_number_right => k_is)
    (case c__law_number_right => k_is)
    (case k__law_number_right => k_is)
    (case a__law_words => k_is)
    (case l__law_words => k_is)
    (case c__law_words => k_is)
    (case k__law_words => k_is)
    (case a__law_is_name => k_is)
    (case l__law_is_name => k_is)
    (case c__law_is_name => k_is)
    (case k__law_is_name => k_is)
    (case a__law_names => k_is)
    (case l__law_names => k_is)
    (case c__law_names => k_is)
    (case k__law_names => k_is)
    (case a__law_names_right => k_is)
    (case l__law_names_right => k_is)
    (case c__law_names_right => k_is)
    (case k__law_names_right => k_is)
    (case a__law_numbered_right => k_is)
    (case l__law_numbered_right => k_is)
    (case c__law_numbered_right => k_is)
    (case k__law_numbered_right => k_is)
    (case a_law => k_is)
    (case l_law => k_is)
    (case c_law => k_is)
    (case k_law => k_is)
    (case z_DIGITS => k_is)
    (case z_LONGEST => k_is)
    (case z_LETTERS => k_is)
    (case z_LETTERS_AND_DIGITS => k_is)
    (case z_all => k_is)
    (case z_int => k_is)
    (case z_len => k_is)
    (case z_str => k_is)
    (case z_tuple => k_is)
    (case z_enumerate => k_is)
    (case z_list => k_is)
    (case z_set => k_is)
    (case z_sorted => k_is)
    (case z_range => k_is)
    (case z_isinstance => k_is)
    (case z_bool => k_is)
    (case a_C => k_is)
    (case a_SE => k_is)
    (case a_NE => k_is)
    (case l_C => k_is)
    (case r_C => rfl)
    (case cd_C => k_is)
    (case sa_C => k_is)
    (case ex_C => k_is)
    (case ty_C => k_is)
    (case kp_C => k_is)
    (case i_C => k_is)
    (case t_fI => k_is)
    (case l_fI => k_is)
    (case c_fI => k_is)
    (case l_cc => k_is)
    (case l_cda => k_is)
    (case v_cda => rfl)
    (case p_file => rfl)
    (case p_top => rfl)
    (case z_super => k_is)
    (case any_ => k_is)
    (case m_C => k_is)
    (case s_C => ks_is)
    (case v_C => k_is)
    (case no_C => k_is)
    (case ss_C => k_is)
    (case ga_C => k_is)
    (case gg_C => k_is)
    (case hd_C => k_is)
    (case gc_C => k_is)
    (case sp_ => k_is)
    (case tk_ => k_is)
    (case mo_C => k_is)
    (case cd_SE => k_is)
    (case cd_NE => k_is)
    (case ty_SE => k_is)
    (case ty_NE => k_is)
    (case su_S => k_is)
    (case su_N => k_is)
    (case l_st => exact ⟨_, _, _, _, _, by k_is, (fun e he => by simp at he), by rfl⟩)
#print axioms PySem.Challenge.cw_shadowlinks_k03_numbers_and_names_in_tex_holds
