import PyProof.Rows.All
import Wide.All
import OpenK.AllK
import Wide.FinOn
import HandS.ForExc
import PyProof.Rows.SortShellAny
import HandS.SetTxt0
import HandS.TupSets
import HandS.ForMost
import HandS.Walk
import HandS.IsInst
import HandS.IterVal
import HandS.Star
import HandS.Deep
import HandS.DictComp
import HandS.Zip
import PySem.Challenge.RW_shadowlinks_k01_join_widen_restrict
set_option Elab.async false
set_option linter.all false
set_option maxRecDepth 100000
/-! Sets of texts, made of a list or a tuple, and sorted: any texts, in whatever order the world walks them. -/
namespace Sx
open PySem PySem.Spec PyProof.Rows L2 PySem.Froz

/-! ### lists -/
/-- a list without twins whose members all stand in a list of the same length is that list in another order -/
theorem perm_of_sub : ∀ (l ks : List Str), l.Nodup → (∀ x, x ∈ l → x ∈ ks) → ks.length = l.length → l.Perm ks
  | [], ks, _, _, e => by
    have z : ks = [] := List.length_eq_zero_iff.mp e
    rw [z]
  | x :: l, ks, nd, sub, e => by
    obtain ⟨hx, nd'⟩ := List.nodup_cons.mp nd
    have hm : x ∈ ks := sub x List.mem_cons_self
    have p := List.perm_cons_erase hm
    have hl : (ks.erase x).length = l.length := by
      have q := p.length_eq
      simp only [List.length_cons] at q e
      omega
    refine ((perm_of_sub l (ks.erase x) nd' (fun y hy => ?_) hl).cons x).trans p.symm
    have hne : y ≠ x := fun z => hx (z ▸ hy)
    exact (List.mem_erase_of_ne hne).mpr (sub y (List.mem_cons_of_mem _ hy))

/-! ### the payload behind an add -/
theorem tail_ris {ep : Nat} {es : Array (Int × Value)} {t : SetTable} {d : Bool} (r : Ris t.place.toList) : Ris (tailTx ep es t d).2.2.place.toList := by
  unfold tailTx
  split
  · exact relayAll_ris t es _
  · exact r
theorem tail_led {ep : Nat} {es : Array (Int × Value)} {t : SetTable} {d : Bool} : (tailTx ep es t d).2.2.led = t.led := by
  unfold tailTx
  split
  · exact relayAll_led t es _
  · rfl
theorem add_ris {D : SD} (h : Int) (v : Value) (r : Ris D.2.2.place.toList) : Ris (addTx h v D).2.2.place.toList := by
  have r1 := layNew_ris D.2.2 D.1 h v r
  unfold addTx
  apply tail_ris
  split
  · exact r1
  · exact r1
theorem add_led {D : SD} (h : Int) (v : Value) : (addTx h v D).2.2.led = D.2.2.led := by
  have r1 := layNew_led D.2.2 D.1 h v
  unfold addTx
  rw [tail_led]
  split
  · exact r1
  · exact r1

/-- the set of the texts l stands at a -/
def SetX (P : Program) (w : World) (h : Heap) (a : Addr) (l : List Str) : Prop :=
  ∃ D : SD, h.get? a = some (sObj "set" D) ∧ TxOk P w D l ∧ l.Nodup ∧ Ris D.2.2.place.toList ∧ (w.params.followText "set-order" = true ∨ D.2.2.led = true)

section
variable {P : Program} {w : World} {A : Around} {E : Value → Shared → Prop} {s : Shared}

theorem SetX.at {h h' : Heap} {a : Addr} {l : List Str} (R : SetX P w h a l) (k : ∀ o, h.get? a = some o → h'.get? a = some o) : SetX P w h' a l := by
  obtain ⟨D, ho, r⟩ := R
  exact ⟨D, k _ ho, r⟩
theorem setX_fresh {h : Heap} {a : Addr} (ho : h.get? a = some { cls := .type "set", dict := none, data := .set #[] 0 (.fresh 0 0 (!w.params.followText "set-order")) }) : SetX P w h a [] := by
  refine ⟨(#[], 0, .fresh 0 0 (!w.params.followText "set-order")), ho, TxOk.nil rfl, List.nodup_nil, List.Pairwise.nil, ?_⟩
  show _ ∨ (!w.params.followText "set-order") = true
  cases w.params.followText "set-order"
  · exact .inr rfl
  · exact .inl rfl

/-- one text more, new or there already -/
theorem add_any {a : Addr} {l : List Str} {k : Str} {u : Tok} {Q : Bool → Shared → Prop} (R : SetX P w s.heap a l) (hb : l.length + 1 < scanBound)
    (hQ : ∀ b h' l', Heap.SameBut a s.heap h' → SetX P w h' a l' → (∀ x, x ∈ l' ↔ x = k ∨ x ∈ l) → l'.length ≤ l.length + 1 → Q b { s with heap := h' }) :
    wpAny (model P w) A (setAddHashed a (.str k u) (hashStr w k)) Q E s := by
  obtain ⟨D, ho, F, nd, r, hl⟩ := R
  rcases Classical.em (k ∈ l) with hk | hk
  · obtain ⟨es, ep, t⟩ := D
    have hd : (sObj "set" (es, ep, t)).data = .set es ep t := rfl
    have hf : t.fits es.size = true := F.fit
    have hel : ElemsOf (PySem.strKind P w) es.toList := F.el
    have hb0 : es.size < scanBound := by
      have z : es.size = l.length := F.sz
      omega
    have hkey : (PySem.strKind P w).is k (.str k u) = true := is_str k u
    unfold setAddHashed setAddHashedIn
    refine wpAny_holding (wpAny_bind (wpAny_setState_of ho hd hf ?_))
    dsimp only
    rw [byScan_of rfl hb0 hel]
    simp only [↓reduceIte]
    unfold setAddByScan
    refine wpAny_bind ?_
    refine wpAny_bind (wpAny_rule ?_)
    refine wpAny_bind (wpAny_setScan_of (knd := PySem.strKind P w) (k := k) hkey ho hd hf hel ?_)
    cases hfi : List.findIdx? (fun e => (PySem.strKind P w).is k e.2) es.toList with
    | none =>
      obtain ⟨e, he, q⟩ := (F.mem k).mp hk
      have c := List.findIdx?_eq_none_iff.mp hfi e he
      rw [q] at c
      cases c
    | some j =>
      dsimp only
      refine wpAny_pure (wpAny_pure ?_)
      exact hQ _ s.heap l (Heap.SameBut.refl a s.heap) ⟨(es, ep, t), ho, F, nd, r, hl⟩ (fun x => ⟨.inr, fun z => z.elim (fun e => e ▸ hk) id⟩) (Nat.le_succ _)
  · refine add_x ho F hk hb (hQ _ _ (k :: l) (Heap.SameBut.update s.heap a _) ⟨_, get_upd _ ho rfl, add_ok u F, List.nodup_cons.mpr ⟨hk, nd⟩, add_ris _ _ r, ?_⟩ (fun x => List.mem_cons) (Nat.le_refl _))
    exact hl.imp id fun z => by
      rw [add_led]
      exact z
end

/-! ### set(xs): the loop -/
section
variable {P : Program} {w : World} {A : Around} {R : Result → Shared → Prop} {I : Addr} {fp wr : List Addr} {G : Array GenState → Array GenState → Prop} {n : Nat} {Pv : Nat → Value → Prop} {St : Nat → Shared → Prop}
theorem fill_loop (W : WalksS P w A.in1 I fp wr G n Pv St) (S : Addr) (hSf : S ∉ fp) (xs : List Str) (hn : xs.length = n) (hval : ∀ i v, Pv i v → ∃ t, v = .str (xs.getD i Str.empty) t) (hb : n + 1 < scanBound) :
    ∀ (k i : Nat) (s : Shared) (l : List Str), n - i = k → i ≤ n → St i s → SetX P w s.heap S l → (∀ x, x ∈ l ↔ x ∈ xs.take i) → l.length ≤ i →
      (∀ s' l', Moved (S :: wr) G s s' → SetX P w s'.heap S l' → (∀ x, x ∈ l' ↔ x ∈ xs) → l'.length ≤ n → R (.ok (.ret .none)) s') →
      codeAny (model P w) A (.builtin "set.update.loop" ⟨[.ref S, .ref I], []⟩) R s := by
  have hSw : S ∉ wr := fun h => hSf (W.sub _ h)
  have hsub : ∀ b ∈ wr, b ∈ S :: wr := fun b hb => List.mem_cons_of_mem _ hb
  intro k
  induction k with
  | zero =>
    intro i s l hk hi hst hS hm hlen hR
    have hin : i = n := by omega
    subst hin
    refine codeAny_builtin PyProof.Rows.F.entry_set_update_loop ?_
    rw [Around.under_plainId PyProof.Rows.F.plain_set_update_loop _]
    show wpAny _ A.in1 (pyNext (.ref I) >>= _) _ _ s
    refine wpAny_bind (W.done s _ _ hst fun s' hmv => ?_)
    show wpAny _ A.in1 (ret Value.none) _ _ s'
    refine wpAny_pure (hR s' l (hmv.mono hsub) (hS.at fun o e => hmv.heap S o hSw e) (fun x => ?_) hlen)
    rw [hm x, ← hn, List.take_length]
  | succ k ih =>
    intro i s l hk hi hst hS hm hlen hR
    have hlt : i < n := by omega
    refine codeAny_builtin PyProof.Rows.F.entry_set_update_loop ?_
    rw [Around.under_plainId PyProof.Rows.F.plain_set_update_loop _]
    show wpAny _ A.in1 (pyNext (.ref I) >>= _) _ _ s
    refine wpAny_bind (W.item i s _ _ hlt hst fun v s' hP hst' hmv => ?_)
    obtain ⟨t, rfl⟩ := hval i v hP
    have hS' : SetX P w s'.heap S l := hS.at fun o e => hmv.heap S o hSw e
    show wpAny _ A.in1 (holding [Value.str (xs.getD i Str.empty) t] (setAdd S (.str (xs.getD i Str.empty) t)) >>= _) _ _ s'
    refine wpAny_bind (wpAny_holding ?_)
    unfold setAdd
    refine wpAny_holding ?_
    refine wpAny_bind ((PySem.strKind P w).pyHash (k := xs.getD i Str.empty) (strKind_is _ _ _ _) ?_)
    have hroom : l.length + 1 < scanBound := by omega
    refine add_any (s := { s' with toks := s'.toks + 1 }) hS' hroom fun b h' l' hsb hS2 hm2 hl2 => ?_
    have hix : i < xs.length := by omega
    have eg : xs.getD i Str.empty = xs[i] := by
      rw [List.getD_eq_getElem?_getD, List.getElem?_eq_getElem hix]
      rfl
    have hm3 : ∀ x, x ∈ l' ↔ x ∈ xs.take (i + 1) := fun x => by
      rw [hm2 x, List.take_succ, List.getElem?_eq_getElem hix, eg]
      show _ ↔ x ∈ xs.take i ++ [xs[i]]
      rw [List.mem_append, List.mem_singleton, hm x]
      exact Or.comm
    refine wpAny_pure ⟨plainId_quiet PyProof.Rows.F.plain_set_update_loop _, ih (i + 1) _ l' (by omega) hlt (W.frame _ s' _ _ hst' (Nat.le_succ _) fun b hb o e => ?_) hS2 hm3 (by omega) fun s'' l'' hmv'' hS'' hm'' hl'' => ?_⟩
    · rw [hsb.2 b (fun h : b = S => hSf (by rw [← h]; exact hb))]
      exact e
    · refine hR s'' l'' (Moved.trans W.gtrans ((hmv.mono hsub).then_heap (Nat.le_succ _) fun b o hb e => ?_) hmv'') hS'' hm'' hl''
      rw [hsb.2 b (fun h : b = S => hb (by rw [h]; exact List.mem_cons_self))]
      exact e
end

/-! ### set(xs): the call -/
section
variable {P : Program} {w : World} {A : Around} {E : Value → Shared → Prop} {s : Shared}
abbrev emptyObj (w : World) : Obj := { cls := .type "set", dict := none, data := .set #[] 0 (.fresh 0 0 (!w.params.followText "set-order")) }
theorem str_at {us : List Value} {xs : List Str} (h : StrsAre us xs) : ∀ (i : Nat) (v : Value), us[i]? = some v → ∃ t, v = .str (xs.getD i Str.empty) t := by
  induction h with
  | nil =>
    intro i v e
    cases e
  | cons y t h ih =>
    intro i v e
    cases i with
    | zero =>
      have q : Value.str y t = v := Option.some.inj e
      exact ⟨t, q.symm⟩
    | succ i => exact ih i v e

set_option maxRecDepth 100000 in
set_option maxHeartbeats 4000000 in
/-- set(xs), xs a list or a tuple of texts -/
theorem call_set {l : Addr} {items : Array Value} {xs : List Str} {Q : Value → Shared → Prop} (hh : A.handled = none) (hl : s.heap.IsList l items ∨ s.heap.IsTuple l items) (hi : StrsAre items.toList xs) (hb : xs.length + 1 < scanBound)
    (h : ∀ (h' : Heap) (tk : Nat) (ys : List Str), SetX P w h' s.heap.objs.size ys → (∀ x, x ∈ ys ↔ x ∈ xs) → ys.length ≤ xs.length → (∀ b o, s.heap.get? b = some o → h'.get? b = some o) → Q (.ref s.heap.objs.size) { s with heap := h', toks := tk }) :
    wpAny (model P w) A (call (.type "set") [.ref l]) Q E s := by
  have hisz : xs.length = items.size := by rw [← StrsAre.len_eq hi, Array.length_toList]
  have hval : ∀ (i : Nat) (v : Value), items[i]? = some v → ∃ t, v = .str (xs.getD i Str.empty) t := fun i v hv => str_at hi i v (by rw [Array.getElem?_toList]; exact hv)
  obtain ⟨c, tl, hmro⟩ := PySem.F.called_set.mro
  have hmade := PySem.F.called_set.made
  have hsub := PySem.F.called_set.sub
  refine wpAny_call (codeAny_of_tree ?_)
  show wpAny _ _ (callAny (.type "set") _) _ _ _
  refine wpAny_pure ⟨Code.quiet_builtin _ (by decide +kernel), codeAny_builtin PySem.F.entry_type_call ?_⟩
  rw [Around.under_plain (weight_type_call_type "set" [.ref l] []) rfl]
  have h1 := PySem.F.called_set.notType
  have h2 := PySem.F.called_set.canCreate
  have hct := PySem.F.typeCall_set_1 (.ref l)
  repeat (any_goals (first | assumption | wp_step))
  refine codeAny_mono (code_set_led1 (.ref l) (E := E) (Q₁ := fun obj s₁ => obj = .ref s.heap.objs.size ∧ s₁ = { s with heap := s.heap.push (emptyObj w) }) ⟨rfl, rfl⟩) fun r s₁ hr => ?_
  cases r with
  | error e => exact hr
  | ok fl =>
    cases fl with
    | ret obj =>
      obtain ⟨rfl, rfl⟩ := hr
      have hS : (s.heap.push (emptyObj w)).get? s.heap.objs.size = some (emptyObj w) := Heap.get?_push_size _ rfl
      have hT : Shared.TypeIs { s with heap := s.heap.push (emptyObj w) } (.ref s.heap.objs.size) "set" := ⟨_, hS, rfl⟩
      have hli := PySem.F.called_set.init.lookup
      have hbi := PySem.F.called_set.init.bind (.ref s.heap.objs.size)
      repeat (any_goals (first | assumption | wp_step))
      refine codeAny_mono (codeAny_call_builtin (R := wants (fun r s₂ => r = .none ∧ ∃ h' tk ys, s₂ = { s with heap := h', toks := tk } ∧ SetX P w h' s.heap.objs.size ys ∧ (∀ x, x ∈ ys ↔ x ∈ xs) ∧ ys.length ≤ xs.length ∧
          (∀ b o, s.heap.get? b = some o → h'.get? b = some o)) E) PySem.F.called_set.init.plain PySem.F.entry_set_init (check_set_init_1 hT ?_)) fun r₂ s₂ hr₂ => ?_
      · have hh3 : A.in1.in1.in1.handled = none := by simp [hh]
        have hz1 : (s.heap.push (emptyObj w)).objs.size = s.heap.objs.size + 1 := Heap.size_push ..
        rcases hl with hl | hl
        · obtain ⟨ol, hol, hcl, nl, hdl⟩ := hl
          obtain ⟨ocls, odict, odata, oslots⟩ := ol
          simp only at hcl hdl
          subst hcl; subst hdl
          have hol' : (s.heap.push (emptyObj w)).get? l = some { cls := .type "list", dict := odict, data := .seq items nl, slots := oslots } := Heap.get?_push_of_some _ hol
          have hsls := PySem.F.sub_list_set
          have hslf := PySem.F.sub_list_frozenset
          have hne : (Value.type "list" == Value.type "dict") = false := by decide
          have hl1 : (s.heap.push (emptyObj w)).IsList l items := ⟨_, hol', rfl, nl, rfl⟩
          unfold Builtin.«set.__init__» noKeywords Builtin.Frozenset.updateFrom
          generalize hPI : pyIter = PI
          wp_walk
          subst hPI
          refine wpAny_pyIter_list hl1 ?_
          refine wpAny_bind (wpAny_runValue ?_)
          have hlS : l < s.heap.objs.size := Heap.lt_size hol
          have hneI : l ≠ (s.heap.push (emptyObj w)).objs.size := by
            rw [hz1]
            exact Nat.ne_of_lt (Nat.lt_succ_of_lt hlS)
          have hSf : s.heap.objs.size ∉ [(s.heap.push (emptyObj w)).objs.size, l] := by
            simp only [List.mem_cons, List.mem_singleton, List.not_mem_nil, or_false, not_or]
            rw [hz1]
            exact ⟨Nat.ne_of_lt (Nat.lt_succ_self _), Nat.ne_of_gt hlS⟩
          have hget : ((s.heap.push (emptyObj w)).push { cls := .type "list_iterator", data := .fields #[.ref l, .int 0 0] }).get? s.heap.objs.size = some (emptyObj w) := Heap.get?_push_of_some _ hS
          refine fill_loop ((Walks.list hh3 _ l hneI items).toS) s.heap.objs.size hSf xs hisz hval (by omega) (items.size - 0) 0 _ [] (by omega) (Nat.zero_le _)
            ⟨⟨_, Heap.get?_push_size _ rfl, rfl, rfl⟩, (hl1.push _)⟩ (setX_fresh hget) (fun x => Iff.rfl) (Nat.le_refl _) ?hR
          case hR =>
            intro s' ys hm hS' hmm hlen
            obtain ⟨h', g', d', tk', os'⟩ := s'
            have eg : g' = s.gens := hm.gens
            have ed : d' = s.drawn := hm.drawn
            have eo : os' = s.os := hm.os
            subst eg; subst ed; subst eo
            show wpAny _ _ _ _ _ _
            refine wpAny_pure ?_
            show wpAny _ _ (ret Value.none) _ _ _
            refine wpAny_pure ⟨rfl, h', tk', ys, rfl, hS', hmm, by omega, fun b o e => ?_⟩
            have hb0 : b < s.heap.objs.size := Heap.lt_size e
            refine hm.heap b o ?_ (Heap.get?_push_of_some _ (Heap.get?_push_of_some _ e))
            simp only [List.mem_cons, List.mem_singleton, List.not_mem_nil, or_false, not_or]
            rw [hz1]
            exact ⟨Nat.ne_of_lt hb0, Nat.ne_of_lt (Nat.lt_succ_of_lt hb0)⟩
        · obtain ⟨ol, hol, hcl, nl, hdl⟩ := hl
          obtain ⟨ocls, odict, odata, oslots⟩ := ol
          simp only at hcl hdl
          subst hcl; subst hdl
          have hol' : (s.heap.push (emptyObj w)).get? l = some { cls := .type "tuple", dict := odict, data := .seq items nl, slots := oslots } := Heap.get?_push_of_some _ hol
          have hsls := PySem.F.sub_tuple_set
          have hslf := PySem.F.sub_tuple_frozenset
          have hne : (Value.type "tuple" == Value.type "dict") = false := by decide
          have hl1 : (s.heap.push (emptyObj w)).IsTuple l items := ⟨_, hol', rfl, nl, rfl⟩
          unfold Builtin.«set.__init__» noKeywords Builtin.Frozenset.updateFrom
          generalize hPI : pyIter = PI
          wp_walk
          subst hPI
          refine wpAny_pyIter_tuple hl1 ?_
          refine wpAny_bind (wpAny_runValue ?_)
          have hlS : l < s.heap.objs.size := Heap.lt_size hol
          have hneI : l ≠ (s.heap.push (emptyObj w)).objs.size := by
            rw [hz1]
            exact Nat.ne_of_lt (Nat.lt_succ_of_lt hlS)
          have hSf : s.heap.objs.size ∉ [(s.heap.push (emptyObj w)).objs.size, l] := by
            simp only [List.mem_cons, List.mem_singleton, List.not_mem_nil, or_false, not_or]
            rw [hz1]
            exact ⟨Nat.ne_of_lt (Nat.lt_succ_self _), Nat.ne_of_gt hlS⟩
          have hget : ((s.heap.push (emptyObj w)).push { cls := .type "tuple_iterator", data := .fields #[.ref l, .int 0 0] }).get? s.heap.objs.size = some (emptyObj w) := Heap.get?_push_of_some _ hS
          refine fill_loop ((Walks.tuple hh3 _ l hneI items).toS) s.heap.objs.size hSf xs hisz hval (by omega) (items.size - 0) 0 _ [] (by omega) (Nat.zero_le _)
            ⟨⟨_, Heap.get?_push_size _ rfl, rfl, rfl⟩, (hl1.push _)⟩ (setX_fresh hget) (fun x => Iff.rfl) (Nat.le_refl _) ?hR
          case hR =>
            intro s' ys hm hS' hmm hlen
            obtain ⟨h', g', d', tk', os'⟩ := s'
            have eg : g' = s.gens := hm.gens
            have ed : d' = s.drawn := hm.drawn
            have eo : os' = s.os := hm.os
            subst eg; subst ed; subst eo
            show wpAny _ _ _ _ _ _
            refine wpAny_pure ?_
            show wpAny _ _ (ret Value.none) _ _ _
            refine wpAny_pure ⟨rfl, h', tk', ys, rfl, hS', hmm, by omega, fun b o e => ?_⟩
            have hb0 : b < s.heap.objs.size := Heap.lt_size e
            refine hm.heap b o ?_ (Heap.get?_push_of_some _ (Heap.get?_push_of_some _ e))
            simp only [List.mem_cons, List.mem_singleton, List.not_mem_nil, or_false, not_or]
            rw [hz1]
            exact ⟨Nat.ne_of_lt hb0, Nat.ne_of_lt (Nat.lt_succ_of_lt hb0)⟩
      · cases r₂ with
        | error e => exact hr₂
        | ok fl₂ =>
          cases fl₂ with
          | ret r =>
            obtain ⟨rfl, h', tk, ys, rfl, hS', hmm, hlen, hk'⟩ := hr₂
            repeat (any_goals (first | assumption | wp_step))
            exact h _ _ _ hS' hmm hlen hk'
          | _ => exact hr₂.elim
    | _ => exact hr.elim

/-! ### sorted(set) -/
theorem strs_of : ∀ (l : List Value), (∀ v ∈ l, ∃ k tk, v = Value.str k tk) → StrsAre l (l.map strOf)
  | [], _ => .nil
  | v :: l, h => by
    obtain ⟨k, tk, rfl⟩ := h v List.mem_cons_self
    exact .cons k tk (strs_of l fun u hu => h u (List.mem_cons_of_mem _ hu))
theorem sorted_setX {a : Addr} {l : List Str} {Q : Value → Shared → Prop} (R : SetX P w s.heap a l) (hh : A.handled = none) (hlen : l.length + 1 < scanBound)
    (hQ : ∀ s' p (out : Array Value) (c : Nat) (ys : List Str), (∀ b o, s.heap.get? b = some o → s'.heap.get? b = some o) → s'.gens = s.gens → s'.os = s.os → s.heap.objs.size ≤ p →
      s'.heap.get? p = some (seqObj "list" out c) → StrsAre out.toList ys → sortedS ys = true → ys.Perm l → Q (.ref p) s') :
    wpAny (model P w) A (call (.builtin "sorted") [.ref a]) Q E s := by
  obtain ⟨⟨es, ep, t⟩, ho, F, nd, r, hl⟩ := R
  have hf : t.fits es.size = true := F.fit
  have hsz : es.size = l.length := F.sz
  refine Calls.call_function_entry kind_sorted plain_sorted entry_sorted (args_sorted1 _) ?_
  unfold Builtin.«sorted»
  refine wpAny_bind (m := checkCount "sorted" 1 1 _) (wpAny_pure ?_)
  refine wpAny_bind (collect_set (A := A.in1) hh ⟨_, ho, rfl, rfl⟩ hf (by show es.size < scanBound; rw [hsz]; omega) r hl fun s1 vs k1 hz g1 o1 pm => ?_)
  have hvl : vs.length = l.length := by rw [pm.length_eq, List.length_map, Array.length_toList]; exact hsz
  have hst : ∀ v ∈ vs, ∃ k tk, v = Value.str k tk ∧ k ∈ l := fun v hv => by
    obtain ⟨e, he, q⟩ := List.mem_map.mp (pm.mem_iff.mp hv)
    obtain ⟨⟨k, h1, _⟩, _⟩ := F.el e he
    obtain ⟨tk, h2⟩ := Value.isStrOf_shape h1
    exact ⟨k, tk, by rw [← q]; exact h2, (F.mem k).mpr ⟨e, he, h1⟩⟩
  have hI : StrsAre vs (vs.map strOf) := strs_of vs fun v hv => let ⟨k, tk, e, _⟩ := hst v hv; ⟨k, tk, e⟩
  have pk : (vs.map strOf).Perm l := by
    refine (perm_of_sub l (vs.map strOf) nd (fun x hx => ?_) (by rw [List.length_map, hvl])).symm
    obtain ⟨e, he, h1⟩ := (F.mem x).mp hx
    obtain ⟨tk, h2⟩ := Value.isStrOf_shape h1
    exact List.mem_map.mpr ⟨e.2, pm.mem_iff.mpr (List.mem_map.mpr ⟨e, he, rfl⟩), by rw [h2]; rfl⟩
  have hline : vs.length ≤ sizeLine := by
    rw [hvl, sizeLine_eq]
    have z : scanBound = 4096 := rfl
    omega
  refine wpAny_bind (wpAny_newList ?_ hline)
  have hoL : (s1.heap.push (seqObj "list" vs.toArray 0)).get? s1.heap.objs.size = some (seqObj "list" vs.toArray 0) := Heap.get?_push_size _ rfl
  refine wpAny_bind (wpAny_holding (wpAny_call_entry slot_list_sort ⟨_, hoL, rfl⟩ entry_list_sort (list_sort_treeKAny strKind_oneLt hoL hI.keysOf (fun v₁ v₂ rest e => keyKind_strs (by rw [← e]; exact hI)) hline fun st' hp hs => ⟨_, rfl, ?_⟩) (args_list_sort _)))
  obtain ⟨ys, a1, a2, a3⟩ := sorted_out_str hI hp hs
  obtain ⟨c, hc⟩ := sortedHeap_at (vs := vs) (out := (arrOf st').map (·.2)) hoL
  refine wpAny_pure ⟨_, rfl, hQ _ s1.heap.objs.size _ c ys (fun b u e => ?_) g1 o1 hz hc a1 a3 (a2.trans pk)⟩
  have q := k1 b u e
  have hlt := Heap.lt_size q
  show (sortedHeap (s1.heap.push (seqObj "list" vs.toArray 0)) s1.heap.objs.size vs _).get? b = some u
  rw [sortedHeap_old (Nat.ne_of_lt hlt) (by rw [size_push']; exact Nat.lt_succ_of_lt hlt)]
  exact Heap.get?_push_of_some _ q
end

/-! ### over the layer -/
def SetV (P : Program) (w : World) (a : Addr) (l : List Str) : HO := .ext fun h => SetX P w h a l
section
variable {X : Cx}
theorem setV_new {P : Program} {w : World} {H : Hp} {h : Heap} {a : Addr} {l : List Str} (R : SetX P w h a l) : ObjOk P w H h a (SetV P w a l) := by
  have ⟨o, ho, _⟩ := R
  exact ⟨R, ⟨_, ho⟩, fun h1 h2 p k => SetX.at p k⟩
/-- set(xs), xs a list or a tuple of texts -/
def rSetX (K : PySem.W.Frag) (P : Program) (w : World) : List V → Hp → VK → Prop := fun vs H Q => ∃ (a : Addr) (xs : List Str), vs = [V.ref a] ∧ (SqL K H a (xs.map V.str) ∨ SqT K H a (xs.map V.str)) ∧ xs.length < 4000 ∧
  ∀ p ys, H p = none → (∀ x, x ∈ ys ↔ x ∈ xs) → ys.Nodup → ys.length ≤ xs.length → Q (.ref p) (upd H p (SetV P w p ys))
theorem cr_setX (hc : X.calm = true) : CallR X (.type "set") (rSetX X.K X.prog X.w) := by
  intro pins s σ H vs us Q I r h
  obtain ⟨a, xs, rfl, hs, hlen, q⟩ := h
  rw [Vals.ref1 r]
  have hn : H s.heap.objs.size = none := I.hok.fresh (Nat.le_refl _)
  have hz : xs.length + 1 < scanBound := by
    have z : scanBound = 4096 := rfl
    omega
  obtain ⟨its, rv, pl⟩ : ∃ its : List Value, Vals (xs.map V.str) its ∧ (s.heap.IsList a its.toArray ∨ s.heap.IsTuple a its.toArray) := by
    rcases hs with hs | hs
    · obtain ⟨its, rv, pl, _⟩ := I.list hs
      exact ⟨its, rv, .inl pl.isList⟩
    · obtain ⟨its, rv, pl, _⟩ := I.tuple hs
      exact ⟨its, rv, .inr pl⟩
  refine call_set (P := X.prog) (w := X.w) (I.ok.hd hc) pl (by simpa using rv.strs) hz fun h' tk ys R hm hl k => ?_
  have nd : ys.Nodup := by
    obtain ⟨_, _, _, z, _⟩ := R
    exact z
  exact ⟨.ref s.heap.objs.size, upd H s.heap.objs.size (SetV X.prog X.w s.heap.objs.size ys), I.laid (t' := tk) k (Nat.le_refl _) (setV_new R), rfl, q _ ys hn hm nd hl⟩
/-- sorted(a set of texts) -/
def rSortX (P : Program) (w : World) : List V → Hp → VK → Prop := fun vs H Q => ∃ (a : Addr) (l : List Str), vs = [V.ref a] ∧ H a = some (SetV P w a l) ∧ l.length < 4000 ∧
  ∀ ys p, ys.Perm l → sortedS ys = true → H p = none → Q (.ref p) (upd H p (.lst (ys.map V.str)))
theorem cr_sortX (hc : X.calm = true) : CallR X (.builtin "sorted") (rSortX X.prog X.w) := by
  intro pins s σ H vs us Q I r h
  obtain ⟨a, l, rfl, ha, hlen, q⟩ := h
  have R : SetX X.prog X.w s.heap a l := (I.hok a _ ha).1
  rw [Vals.ref1 r]
  have hz : l.length + 1 < scanBound := by
    have z : scanBound = 4096 := rfl
    omega
  refine sorted_setX R (I.ok.hd hc) hz fun s' p out c ys k g o hp hg hi hs pm => ?_
  have hl2 : (ys.map V.str).length ≤ sizeLine := by
    rw [List.length_map, pm.length_eq, sizeLine_eq]
    omega
  have hn : H p = none := I.hok.fresh hp
  have J : Inv X pins σ (upd H p (.lst (ys.map V.str))) { s with heap := s'.heap, gens := s'.gens, drawn := s'.drawn, toks := s'.toks } :=
    I.call (ch := []) (Un.laid k hp hn) (I.hok.laid k hp ⟨hl2, out.toList, c, vals_of_strs hi, hg⟩) (by rw [g]; exact I.bare) (fun _ z => nomatch z)
  have e : s' = { s with heap := s'.heap, gens := s'.gens, drawn := s'.drawn, toks := s'.toks } := by
    cases s'
    cases s
    cases o
    rfl
  rw [e]
  exact ⟨.ref p, _, J, rfl, q ys p pm hs hn⟩
end
end Sx
/-! Calls of the module's own defs by their promises, walks over a list or a tuple, data that stays. -/
namespace Bx
open PySem PySem.Spec PyProof.Rows L2 TL

/-- the module's name x holds a def that keeps sp, by at most level k -/
structure Cal (P : Program) (w : World) (K : PySem.W.Frag) (mg : Str → Option Value) (base : Heap) (x : Str) (k : Nat) (ps : List Str) (sp : Sp) : Prop where
  ex : ∃ (f : Addr) (fd : FuncData), FnOk P w K mg base CX0 k f fd ps sp ∧ mg x = some (.ref f) ∧ PySem.W.keepIn K (.ref f) = true ∧ Binds K fd ps []
/-- the same of a def with a star parameter alone -/
structure CalR (P : Program) (w : World) (K : PySem.W.Frag) (mg : Str → Option Value) (base : Heap) (x : Str) (k : Nat) (sp : Sp) : Prop where
  ex : ∃ f : Addr, FnR P w K mg base CX0 k f sp ∧ mg x = some (.ref f) ∧ PySem.W.keepIn K (.ref f) = true
section
variable {X : Cx} {x : Str} {k : Nat} {ps : List Str} {sp : Sp} {e : Expr} {es : List Expr} {t : TA} {p pos : Pos}
def tCal (sp : Sp) (t : TA) : TE := fun σ H Q => t σ H fun vs H1 => sp vs H1 Q E0
theorem pe_cal (c : Cal X.prog X.w X.K X.mg X.base x k ps sp) (hr : Room k X.A) (ha : PA X (e :: es) t) (hg : Gl X x := by rfl) (hdb : (x == ("__debug__" : Str)) = false := by decide)
    (he : starEach (e :: es) X.env = (false, eval e X.env) :: starEach es X.env := by rfl) (hpl : (backTo pos (starEach es X.env)).any (·.1) = false := by rfl) : PE X (.Call (.Name x p) (e :: es) [] pos) (tCal sp t) := by
  obtain ⟨f, fd, ok, g, kp, b⟩ := c.ex
  have z := pe_call (E := E0) ok hr hg g kp b .nil pass0 ha hdb he hpl (p := p)
  refine ⟨fun pins s σ H Q I h => z.run pins s σ H Q I ?_⟩
  unfold tCall
  simp only [List.append_nil]
  exact h
theorem pe_cal0 (c : Cal X.prog X.w X.K X.mg X.base x k ps sp) (hr : Room k X.A) (hg : Gl X x := by rfl) (hdb : (x == ("__debug__" : Str)) = false := by decide) : PE X (.Call (.Name x p) [] [] pos) (tCal sp tNil) := by
  obtain ⟨f, fd, ok, g, kp, b⟩ := c.ex
  have z := pe_call0 (E := E0) (pos := pos) ok hr hg g kp b .nil pass0 hdb (p := p)
  refine ⟨fun pins s σ H Q I h => z.run pins s σ H Q I ?_⟩
  exact h
theorem pe_calR (c : CalR X.prog X.w X.K X.mg X.base x k sp) (hr : Room k X.A) (ha : PA X (e :: es) t) (hg : Gl X x := by rfl) (hdb : (x == ("__debug__" : Str)) = false := by decide)
    (he : starEach (e :: es) X.env = (false, eval e X.env) :: starEach es X.env := by rfl) (hpl : (backTo pos (starEach es X.env)).any (·.1) = false := by rfl) : PE X (.Call (.Name x p) (e :: es) [] pos) (tCal sp t) := by
  obtain ⟨f, ok, g, kp⟩ := c.ex
  refine ⟨fun pins s σ H Q I h => ?_⟩
  refine wpAny_Call_Name_kw (ld_glob I hg g ?_ hdb)
  refine PySem.W.callWith_K (h₀ := X.base) I.ok.mod.kin kp (thn (ha.run pos pins s σ H _ I h) fun us s1 ⟨vs, H1, I1, r, q⟩ => ⟨I1.kIn, ?_⟩) he hpl
  exact wpAny_call (run_fnR ok hr pass0 I1 r q)
theorem pe_calR0 (c : CalR X.prog X.w X.K X.mg X.base x k sp) (hr : Room k X.A) (hg : Gl X x := by rfl) (hdb : (x == ("__debug__" : Str)) = false := by decide) : PE X (.Call (.Name x p) [] [] pos) (tCal sp tNil) := by
  obtain ⟨f, ok, g, kp⟩ := c.ex
  refine ⟨fun pins s σ H Q I h => ?_⟩
  refine wpAny_Call_Name_kw (ld_glob I hg g ?_ hdb)
  exact PySem.W.callWith_K0 I.kIn kp (wpAny_call (run_fnR ok hr pass0 I .nil h))

/-- x(*y) -/
theorem pe_calS {te : TE} {sp_ : Pos} (c : CalR X.prog X.w X.K X.mg X.base x k sp) (hr : Room k X.A) (he : PE X e te) (hg : Gl X x := by rfl) (hdb : (x == ("__debug__" : Str)) = false := by decide) (hst : starEach [.Starred e sp_] X.env = [(true, eval e X.env)] := by rfl) :
    PE X (.Call (.Name x p) [.Starred e sp_] [] pos) (fun σ H Q => te σ H fun y H1 => ∃ a xs, y = V.ref a ∧ (SqT X.K H1 a xs ∨ SqL X.K H1 a xs) ∧ sp xs H1 Q E0) := by
  obtain ⟨f, ok, g, kp⟩ := c.ex
  exact StX.pe_callS1 ok hr kp hg g pass0 he hdb hst

/-- a walk over a list or a tuple -/
def SeqCase (K : PySem.W.Frag) (a : Addr) (H : Hp) (R : It → Hp → Prop) : Prop := ((∃ xs, SqL K H a xs) ∧ R (Itl K a) H) ∨ ((∃ xs, SqT K H a xs) ∧ R (Itt K a) H)
def iSeq (K : PySem.W.Frag) (tl : TE) : TI := fun σ H R => tl σ H fun x H1 => ∃ a, x = .ref a ∧ SeqCase K a H1 R
theorem pi_seq {tg l : Expr} {tl : TE} (hl : PE X l tl) : PI X tg l (iSeq X.K tl) := by
  refine ⟨fun pins s σ H R I h => ?_⟩
  refine thn (hl.run pins s σ H _ I h) fun v s1 ⟨x, H1, I1, r1, q1⟩ => ?_
  obtain ⟨a, e, q1⟩ := q1
  subst e
  cases r1
  rcases q1 with ⟨⟨xs, hq⟩, q⟩ | ⟨⟨xs, hq⟩, q⟩
  · obtain ⟨its, rv, p, hz⟩ := I1.list hq
    refine wpAny_pyIter_list p.isList ?_
    exact pi_one (tk := s1.toks) I1 _ (turn_list a _) ⟨_, Heap.get?_push_size _ rfl, rfl, rfl⟩ q
  · obtain ⟨its, rv, p, hz⟩ := I1.tuple hq
    refine wpAny_pyIter_tuple (show s1.heap.IsTuple a its.toArray from p) ?_
    exact pi_one (tk := s1.toks) I1 _ (turn_tuple a _) ⟨_, Heap.get?_push_size _ rfl, rfl, rfl⟩ q
end

/-! ### rules with the written part named (within a block) -/
section
variable {X : Cx} {K : PySem.W.Frag}
theorem ix_listK (h : X.K = K) : IxR X (rIxL K) := h ▸ ix_list
theorem ix_tupK (h : X.K = K) : IxR X (rIxT K) := h ▸ ix_tup
theorem op_in_seqK (h : X.K = K) : OpR X (compareOp .In) (rIn K false) := h ▸ op_in_seq
theorem call_list_ofK (h : X.K = K) : CallR X (.type "list") (fun xs H Q => ∃ p ys, xs = [.ref p] ∧ (SqL K H p ys ∨ SqT K H p ys) ∧ ∀ l, H l = none → Q (.ref l) (upd H l (.lst ys))) := by
  subst h
  exact call_list_of
theorem call_tuple_ofK (h : X.K = K) : CallR X (.type "tuple") (fun xs H Q => ∃ p ys, xs = [.ref p] ∧ ((SqL K H p ys ∧ ∀ l, H l = none → Q (.ref l) (upd H l (.tup ys))) ∨ (SqT K H p ys ∧ Q (.ref p) H))) := by
  subst h
  exact call_tuple_of
theorem call_len_seqK (h : X.K = K) : CallR X (.builtin "len") (fun xs H Q => ∃ p ys, xs = [.ref p] ∧ (SqL K H p ys ∨ SqT K H p ys) ∧ Q (.int ys.length) H) := by
  subst h
  exact call_len_seq
theorem cr_allK (h : X.K = K) (hc : X.calm = true) : CallR X (.builtin "all") (rAll K) := by
  subst h
  exact cr_all hc
theorem pg_tupK {es : List Expr} {k : Nat} {t : TGs} {n : Nat} {pos : Pos} (h : X.K = K) (hc : X.calm = true) (hs : PGs X es t)
    (hn : (assignEach es X.env).length = n := by rfl) (hst : (assignEach es X.env).findIdx? (·.1) = none := by rfl) : PG X (.Tuple es k pos) (gTup K n t) := by
  subst h
  exact pg_tup hc hs hn hst
theorem op_notIn_seqK (h : X.K = K) : OpR X (compareOp .NotIn) (rIn K true) := h ▸ op_notIn_seq
end

/-! ### heaps -/
theorem same_new {H : Hp} {p : Addr} {o : HO} (h : H p = none) : Same H (upd H p o) := fun b x e => by
  rw [upd_ne (ne_of_none e h)]
  exact e
theorem same_at {H H2 : Hp} {p : Addr} {o : HO} (h : H p = none) (s : Same H H2) : Same H (upd H2 p o) := fun b x e => by
  rw [upd_ne (ne_of_none e h)]
  exact s b x e
theorem Same.tup {K : PySem.W.Frag} {H H' : Hp} {a : Addr} {xs : List V} (e : Same H H') (h : SqT K H a xs) : SqT K H' a xs := by
  rcases h with (h | ⟨o, h⟩) | h
  · exact .inl (.inl (e _ _ h))
  · exact .inl (.inr ⟨o, e _ _ h⟩)
  · exact .inr h
theorem sq {K : PySem.W.Frag} {H : Hp} {a : Addr} {xs : List V} (h : H a = some (.lst xs)) : SqL K H a xs := Or.inl (Or.inl h)
theorem sqt {K : PySem.W.Frag} {H : Hp} {a : Addr} {xs : List V} (h : H a = some (.tup xs)) : SqT K H a xs := Or.inl (Or.inl h)
/-- all that was tracked but a is as it was -/
def SameBut (a : Addr) (H H' : Hp) : Prop := ∀ b o, b ≠ a → H b = some o → H' b = some o
theorem SameBut.refl (a : Addr) (H : Hp) : SameBut a H H := fun _ _ _ h => h
theorem SameBut.trans {a : Addr} {H H1 H2 : Hp} (x : SameBut a H H1) (y : SameBut a H1 H2) : SameBut a H H2 := fun b o n h => y b o n (x b o n h)
theorem Same.but {a : Addr} {H H' : Hp} (x : Same H H') : SameBut a H H' := fun b o _ h => x b o h
theorem SameBut.upd {a : Addr} {H : Hp} {o : HO} : SameBut a H (upd H a o) := fun b x n h => by
  rw [upd_ne n]
  exact h
/-- new objects do not disturb: what was tracked at H, where a was not -/
theorem SameBut.same {a : Addr} {H H1 H2 : Hp} (x : Same H H1) (n : H a = none) (y : SameBut a H1 H2) : Same H H2 := fun b o h => y b o (ne_of_none h n) (x b o h)
theorem sz {n : Nat} (h : n ≤ 100000) : n ≤ sizeLine := Nat.le_trans h (by decide)
theorem szl {n : Nat} (h : n < 100000) : n < sizeLine := Nat.lt_of_lt_of_le h (by decide)
/-- the source of draws at a -/
def Src (H : Hp) (a : Addr) : Prop := ∃ n c : Int, H a = some (.lst [.int n, .int c])

/-! ### data -/
mutual
theorem dp_same {K : PySem.W.Frag} {H H' : Hp} (e : Same H H') : ∀ {v : V} {d : PyData}, Dp K H v d → Dp K H' v d
  | _, _, .non => .non
  | _, _, .bl b => .bl b
  | _, _, .int i => .int i
  | _, _, .str x => .str x
  | _, _, .lst h a => .lst (e.seq h) (dpAll_same e a)
  | _, _, .tup h a => .tup (Bx.Same.tup e h) (dpAll_same e a)
theorem dpAll_same {K : PySem.W.Frag} {H H' : Hp} (e : Same H H') : ∀ {vs : List V} {ds : List PyData}, DpAll K H vs ds → DpAll K H' vs ds
  | _, _, .nil => .nil
  | _, _, .cons h a => .cons (dp_same e h) (dpAll_same e a)
end
theorem dp_strs {K : PySem.W.Frag} {H : Hp} : ∀ ys : List Str, DpAll K H (ys.map V.str) (ys.map PyData.str)
  | [] => .nil
  | y :: ys => .cons (.str y) (dp_strs ys)
theorem dp_ints {K : PySem.W.Frag} {H : Hp} : ∀ ys : List Int, DpAll K H (ys.map V.int) (ys.map PyData.int)
  | [] => .nil
  | y :: ys => .cons (.int y) (dp_ints ys)
theorem dp_map {K : PySem.W.Frag} {H : Hp} {α : Type} {f : α → V} {g : α → PyData} : ∀ {l : List α}, (∀ x ∈ l, Dp K H (f x) (g x)) → DpAll K H (l.map f) (l.map g)
  | [], _ => .nil
  | x :: l, h => .cons (h x List.mem_cons_self) (dp_map fun y hy => h y (List.mem_cons_of_mem _ hy))

/-! ### walks with any body -/
theorem walk_any {J : It} {n : Nat} {G : Hp → Prop} {Y : Nat → Hp → V → Hp → Prop} (w : Walk J n G Y) {Z : Hp → Prop} {B : (Hp → Prop) → V → Hp → Prop} {H0 : Hp} (Pv : Nat → Hp → Prop) (h0 : Pv 0 H0) (hG : ∀ i H, i ≤ n → Pv i H → G H)
    (hs : ∀ i x H H', i < n → Pv i H → Y i H x H' → B (Pv (i + 1)) x H') (hd : ∀ H, Pv n H → Z H) :
    ∃ W : Nat → Nat → Hp → Prop, (∃ m, W 0 m H0) ∧ ∀ i m H, W i m H → (J.stop i H ∧ Z H) ∨ (J.go i H ∧ ∃ Nx : Hp → Prop, (∀ H', Nx H' → ∃ m', m' < m ∧ W (i + 1) m' H') ∧ ∀ x H', J.yld i H x H' → B Nx x H') := by
  refine ⟨fun i m H => m = n - i ∧ i ≤ n ∧ Pv i H, ⟨n, by simp, Nat.zero_le _, h0⟩, ?_⟩
  rintro i m H ⟨rfl, hi, p⟩
  have q := hG i H hi p
  by_cases hlt : i < n
  · exact .inr ⟨w.goes i H hlt q, Pv (i + 1), fun H' p' => ⟨n - (i + 1), by omega, rfl, hlt, p'⟩, fun x H' y => hs i x H H' hlt p (w.yields i H x H' hlt q y)⟩
  · have e : i = n := by omega
    subst e
    exact .inl ⟨w.stops H q, hd H p⟩

/-! ### a def with a star parameter alone -/
theorem okStar {P : Program} {w : World} {K : PySem.W.Frag} {mg : Str → Option Value} {base : Heap} {x qual pn : Str} {st : Stmt} {f : Addr} {fd : FuncData} {N : List Str} {k : Nat} {sp : Sp} (F : Fun K x qual st f fd) (S : FnScope N [pn] (defScope st))
    (hb : ∀ (kV doc pm : Value) (an : Option Addr) (cdv ct : Value) (rest : List Value), bindArgs (PySem.W.fnOf x qual (defArgs st) (defBody st) (defScope st) .none kV doc pm an cdv ct) ⟨rest, []⟩ = (newTuple rest >>= fun t => pure [(pn, t)]))
    (hbody : ∀ (cdv : Value) (A : Around) (outer : List Env) (s : Shared) (H : Hp) (vs : List V) (Q : VK) (E : XK), Room k (A.deeper (envOfC qual (defScope st) s.heap.objs.size f cdv)) → sp vs H Q E →
      ∃ t, PSs (cxOf CX0 P w K mg base N qual (defScope st) f cdv A outer s H E) (defBody st) t ∧ t { nx := fun _ H' => Q .non H', rt := Q } (start N vs) H) :
    FnR P w K mg base CX0 (k + 1) f (fun vs H Q E => vs.length ≤ sizeLine ∧ ∀ p, H p = none → sp [V.ref p] (upd H p (.tup vs)) Q E) := by
  obtain ⟨oc, od, kV, doc, pm, an, cdv, ct, osl, rfl, lk, hcd⟩ := F.ex
  have z := StX.fn_star (P := P) (w := w) (K := K) (mg := mg) (base := base) (CX := CX0) (ps := []) (sp := sp) lk hcd S StX.cxUp_none (fun us rest hl => by
    have e : us = [] := List.length_eq_zero_iff.mp hl
    subst e
    exact hb kV doc pm an cdv ct rest) (hbody cdv)
  exact z.imp fun vs H Q E h => ⟨[], vs, rfl, rfl, h.1, h.2⟩

/-- one parameter ahead of the star -/
theorem okStar1 {P : Program} {w : World} {K : PySem.W.Frag} {mg : Str → Option Value} {base : Heap} {x qual p1 pn : Str} {st : Stmt} {f : Addr} {fd : FuncData} {N : List Str} {k : Nat} {sp : Sp} (F : Fun K x qual st f fd) (S : FnScope N [p1, pn] (defScope st))
    (h0 : ∀ (kV doc pm : Value) (an : Option Addr) (cdv ct a : Value), bindArgs (PySem.W.fnOf x qual (defArgs st) (defBody st) (defScope st) .none kV doc pm an cdv ct) ⟨[a], []⟩ = (newTuple [] >>= fun t => pure [(p1, a), (pn, t)]))
    (h1 : ∀ (kV doc pm : Value) (an : Option Addr) (cdv ct a r : Value) (rs : List Value), bindArgs (PySem.W.fnOf x qual (defArgs st) (defBody st) (defScope st) .none kV doc pm an cdv ct) ⟨a :: r :: rs, []⟩ = (newTuple (r :: rs) >>= fun t => pure [(p1, a), (pn, t)]))
    (hbody : ∀ (cdv : Value) (A : Around) (outer : List Env) (s : Shared) (H : Hp) (vs : List V) (Q : VK) (E : XK), Room k (A.deeper (envOfC qual (defScope st) s.heap.objs.size f cdv)) → sp vs H Q E →
      ∃ t, PSs (cxOf CX0 P w K mg base N qual (defScope st) f cdv A outer s H E) (defBody st) t ∧ t { nx := fun _ H' => Q .non H', rt := Q } (start N vs) H) :
    FnR P w K mg base CX0 (k + 1) f (fun vs H Q E => ∃ v rest, vs = v :: rest ∧ rest.length ≤ sizeLine ∧ ∀ p, H p = none → sp [v, V.ref p] (upd H p (.tup rest)) Q E) := by
  obtain ⟨oc, od, kV, doc, pm, an, cdv, ct, osl, rfl, lk, hcd⟩ := F.ex
  have z := StX.fn_star (P := P) (w := w) (K := K) (mg := mg) (base := base) (CX := CX0) (ps := [p1]) (sp := sp) lk hcd S StX.cxUp_none
    (StX.bind_star1 (B := fun us => bindArgs (PySem.W.fnOf x qual (defArgs st) (defBody st) (defScope st) .none kV doc pm an cdv ct) ⟨us, []⟩) (h0 kV doc pm an cdv ct) (h1 kV doc pm an cdv ct)) (hbody cdv)
  exact z.imp fun vs H Q E ⟨v, rest, e, hl, h⟩ => ⟨[v], rest, e, rfl, hl, h⟩

/-! ### a walk over a list or a tuple, told once -/
theorem seq_case {K : PySem.W.Frag} {H : Hp} {a : Addr} {xs : List V} {R : It → Hp → Prop} (h : SqL K H a xs ∨ SqT K H a xs) (k : ∀ (J : It) (G : Hp → Prop), Walk J xs.length G (YAt xs) → (∀ H', Same H H' → G H') → R J H) : SeqCase K a H R := by
  rcases h with h | h
  · exact .inl ⟨⟨_, h⟩, k _ _ walk_list fun H' s => s.seq h⟩
  · exact .inr ⟨⟨_, h⟩, k _ _ walk_tup fun H' s => Bx.Same.tup s h⟩
theorem at_map {α : Type} {l : List α} {f : α → V} {i : Nat} {x : V} (h : (l.map f)[i]? = some x) : ∃ y, l[i]? = some y ∧ x = f y := by
  rw [List.getElem?_map] at h
  cases e : l[i]? with
  | none =>
    rw [e] at h
    cases h
  | some y =>
    rw [e] at h
    exact ⟨y, rfl, (Option.some.inj h).symm⟩

/-! ### texts in ascending order -/
theorem rising_at : ∀ (p : Str) (r : List Str), risingS p r = true → ∀ (k : Nat) (x y : Str), (p :: r)[k]? = some x → (p :: r)[k + 1]? = some y → ltCps y.cps.toList x.cps.toList = false
  | p, [], _, k, x, y, _, h2 => by
    simp at h2
  | p, q :: r, h, k, x, y, h1, h2 => by
    have h3 : (!ltCps q.cps.toList p.cps.toList && risingS q r) = true := h
    rw [Bool.and_eq_true] at h3
    cases k with
    | zero =>
      have e1 : p = x := Option.some.inj h1
      have e2 : q = y := Option.some.inj h2
      rw [← e1, ← e2]
      simpa using h3.1
    | succ k => exact rising_at q r h3.2 k x y h1 h2
theorem sorted_at {l : List Str} (h : sortedS l = true) (nd : l.Nodup) {k : Nat} {x y : Str} (h1 : l[k]? = some x) (h2 : l[k + 1]? = some y) : x.cps.toList < y.cps.toList := by
  cases l with
  | nil => cases h1
  | cons p r =>
    have a := rising_at p r h k x y h1 h2
    rw [ltCps_eq] at a
    refine Std.lt_of_le_of_ne (of_decide_eq_false a) fun e => ?_
    have e2 : x = y := ext_tl e
    obtain ⟨i1, e3⟩ := List.getElem?_eq_some_iff.mp h1
    obtain ⟨i2, e4⟩ := List.getElem?_eq_some_iff.mp h2
    have z := List.pairwise_iff_getElem.mp nd k (k + 1) i1 i2 (Nat.lt_succ_self k)
    exact z (e3.trans (e2.trans e4.symm))

/-! ### membership of texts -/
theorem inV_str (x : Str) (ys : List Str) : inV (.str x) (ys.map V.str) = decide (x ∈ ys) := by
  unfold inV
  rw [List.any_map]
  induction ys with
  | nil => rfl
  | cons y ys ih =>
    rw [List.any_cons, ih]
    show ((y == x) || _) = _
    by_cases e : y = x
    · subst e
      simp
    · have e2 : (y == x) = false := by simpa using e
      rw [e2, Bool.false_or]
      by_cases h : x ∈ ys
      · rw [decide_eq_true h, decide_eq_true (List.mem_cons_of_mem _ h)]
      · rw [decide_eq_false h, decide_eq_false (fun z => (List.mem_cons.mp z).elim (fun z => e z.symm) h)]
theorem flat_all (ys : List Str) : (ys.map V.str).all flatV = true := by
  rw [List.all_map, List.all_eq_true]
  intro y _
  rfl
theorem lay_strs : ∀ ys : List Str, (∀ y ∈ ys, PyData.strOk y = true) → PyData.canLayAll0 (ys.map PyData.str) = true ∧ PyData.depthAll (ys.map PyData.str) ≤ 1
  | [], _ => ⟨rfl, by decide⟩
  | y :: ys, h => by
    obtain ⟨a, b⟩ := lay_strs ys fun z hz => h z (List.mem_cons_of_mem _ hz)
    constructor
    · show (PyData.strOk y && PyData.canLayAll0 (ys.map PyData.str)) = true
      rw [a, h y List.mem_cons_self]
      rfl
    · show max (PyData.depth (.str y)) (PyData.depthAll (ys.map PyData.str)) ≤ 1
      exact Nat.max_le.mpr ⟨by first | exact Nat.zero_le _ | decide | exact Nat.le_refl _, b⟩
theorem lay_lists : ∀ L : List (List Str), (∀ ys ∈ L, ∀ y ∈ ys, PyData.strOk y = true) → PyData.canLayAll0 (L.map fun ys => PyData.list (ys.map PyData.str)) = true ∧ PyData.depthAll (L.map fun ys => PyData.list (ys.map PyData.str)) ≤ 2
  | [], _ => ⟨rfl, by decide⟩
  | ys :: L, h => by
    obtain ⟨a, b⟩ := lay_lists L fun z hz => h z (List.mem_cons_of_mem _ hz)
    obtain ⟨c, d⟩ := lay_strs ys (h ys List.mem_cons_self)
    constructor
    · show (PyData.canLayAll0 (ys.map PyData.str) && PyData.canLayAll0 (L.map fun ys => PyData.list (ys.map PyData.str))) = true
      rw [a, c]
      rfl
    · show max (PyData.depthAll (ys.map PyData.str) + 1) (PyData.depthAll (L.map fun ys => PyData.list (ys.map PyData.str))) ≤ 2
      exact Nat.max_le.mpr ⟨by omega, b⟩

/-! ### signs of a written text -/
theorem pick {L : Str} {r : Int} (h0 : 0 ≤ r) (h1 : r < (tl L).length) : ∃ c, atI L.cps.toList r = some c ∧ c ∈ tl L := by
  obtain ⟨n, rfl⟩ := Int.eq_ofNat_of_zero_le h0
  have hn : n < (tl L).length := by omega
  exact ⟨(tl L)[n], atI_nat (List.getElem?_eq_getElem hn), List.getElem_mem hn⟩
end Bx
/-! Data that stands in the heap, beside objects that change; rules told of data. -/
namespace Dx
open PySem PySem.Spec PyProof.Rows L2 Bx TL

/-! ### the heap without some addresses -/
def mn (H : Hp) (S : List Addr) : Hp := fun b => if b ∈ S then none else H b
theorem mn_in {H : Hp} {S : List Addr} {b : Addr} (h : b ∈ S) : mn H S b = none := if_pos h
theorem mn_out {H : Hp} {S : List Addr} {b : Addr} (h : b ∉ S) : mn H S b = H b := if_neg h
theorem mn_same {H : Hp} {S : List Addr} : Same (mn H S) H := fun b o e => by
  by_cases h : b ∈ S
  · rw [mn_in h] at e
    cases e
  · rw [mn_out h] at e
    exact e
theorem mn_nil {H : Hp} : mn H [] = H := funext fun b => mn_out (by simp)
theorem mn_sub {H : Hp} {S T : List Addr} (h : ∀ b, b ∈ S → b ∈ T) : Same (mn H T) (mn H S) := fun b o e => by
  by_cases h1 : b ∈ T
  · rw [mn_in h1] at e
    cases e
  · rw [mn_out h1] at e
    rw [mn_out fun z => h1 (h b z)]
    exact e
theorem mn_upd {H : Hp} {S : List Addr} {a : Addr} {o : HO} (h : a ∈ S) : mn (upd H a o) S = mn H S := funext fun b => by
  by_cases h1 : b ∈ S
  · rw [mn_in h1, mn_in h1]
  · rw [mn_out h1, mn_out h1, upd_ne (show b ≠ a from fun z => h1 (by rw [z]; exact h))]
theorem mn_new {H : Hp} {S : List Addr} {p : Addr} {o : HO} (h : H p = none) : Same (mn H S) (mn (upd H p o) S) := fun b u e => by
  by_cases h1 : b ∈ S
  · rw [mn_in h1] at e
    cases e
  · rw [mn_out h1] at e ⊢
    rw [upd_ne (ne_of_none e h)]
    exact e
theorem mn_but {H H' : Hp} {S : List Addr} {a : Addr} (h : a ∈ S) (s : SameBut a H H') : Same (mn H S) (mn H' S) := fun b u e => by
  by_cases h1 : b ∈ S
  · rw [mn_in h1] at e
    cases e
  · rw [mn_out h1] at e ⊢
    exact s b u (fun z => h1 (z ▸ h)) e
theorem mn_all {H H' : Hp} {S : List Addr} (s : Same H H') : Same (mn H S) (mn H' S) := fun b u e => by
  by_cases h1 : b ∈ S
  · rw [mn_in h1] at e
    cases e
  · rw [mn_out h1] at e ⊢
    exact s b u e
theorem mn_to {H H' : Hp} {S T : List Addr} (h : ∀ b, b ∈ S → b ∈ T) (s : Same (mn H S) (mn H' S)) : Same (mn H T) (mn H' T) := fun b u e => by
  by_cases h1 : b ∈ T
  · rw [mn_in h1] at e
    cases e
  · rw [mn_out h1] at e ⊢
    have z := s b u (by rw [mn_out fun z => h1 (h b z)]; exact e)
    rw [mn_out fun z => h1 (h b z)] at z
    exact z
/-- what is tracked beside S was there, or is new -/
theorem mn_at {H : Hp} {S : List Addr} {b : Addr} {o : HO} (h : b ∉ S) (e : H b = some o) : mn H S b = some o := by
  rw [mn_out h]
  exact e
theorem mn_keep {H H' : Hp} {S : List Addr} (s : Same (mn H S) (mn H' S)) {b : Addr} {o : HO} (h : b ∉ S) (e : H b = some o) : H' b = some o := mn_same _ _ (s _ _ (mn_at h e))
theorem mn_free {H H' : Hp} {S : List Addr} (s : Same (mn H S) (mn H' S)) {b : Addr} (h : b ∉ S) (e : H' b = none) : H b = none := by
  cases z : H b with
  | none => rfl
  | some o =>
    rw [mn_keep s h z] at e
    cases e

/-! ### data -/
section
variable {K : PySem.W.Frag} {H : Hp}
theorem dp_lst {v : V} {ds : List PyData} (h : Dp K H v (.list ds)) : ∃ a xs, v = .ref a ∧ SqL K H a xs ∧ DpAll K H xs ds := by
  cases h with
  | lst s a => exact ⟨_, _, rfl, s, a⟩
theorem dp_tup {v : V} {ds : List PyData} (h : Dp K H v (.tuple ds)) : ∃ a xs, v = .ref a ∧ SqT K H a xs ∧ DpAll K H xs ds := by
  cases h with
  | tup s a => exact ⟨_, _, rfl, s, a⟩
theorem dp_str {v : V} {s : Str} (h : Dp K H v (.str s)) : v = .str s := by cases h; rfl
theorem dp_int {v : V} {i : Int} (h : Dp K H v (.int i)) : v = .int i := by cases h; rfl
theorem da_len : ∀ {xs : List V} {ds : List PyData}, DpAll K H xs ds → xs.length = ds.length
  | _, _, .nil => rfl
  | _, _, .cons _ t => congrArg (· + 1) (da_len t)
theorem da_get : ∀ {xs : List V} {ds : List PyData}, DpAll K H xs ds → ∀ {i : Nat} {d : PyData}, ds[i]? = some d → ∃ v, xs[i]? = some v ∧ Dp K H v d
  | _, _, .nil, i, d, e => by cases e
  | _, _, .cons h t, 0, d, e => by
    cases e
    exact ⟨_, rfl, h⟩
  | _, _, .cons h t, i + 1, d, e => da_get t e
theorem da_at : ∀ {xs : List V} {ds : List PyData}, DpAll K H xs ds → ∀ {i : Nat} {v : V}, xs[i]? = some v → ∃ d, ds[i]? = some d ∧ Dp K H v d
  | _, _, .nil, i, d, e => by cases e
  | _, _, .cons h t, 0, d, e => by
    cases e
    exact ⟨_, rfl, h⟩
  | _, _, .cons h t, i + 1, d, e => da_at t e
theorem da_app : ∀ {xs ys : List V} {ds es : List PyData}, DpAll K H xs ds → DpAll K H ys es → DpAll K H (xs ++ ys) (ds ++ es)
  | _, _, _, _, .nil, h => h
  | _, _, _, _, .cons h t, k => .cons h (da_app t k)
theorem da_one {v : V} {d : PyData} (h : Dp K H v d) : DpAll K H [v] [d] := .cons h .nil
theorem da_strs : ∀ {xs : List V} {ns : List Str}, DpAll K H xs (ns.map PyData.str) → xs = ns.map V.str
  | [], [], _ => rfl
  | [], _ :: _, h => by cases h
  | _ :: _, [], h => by cases h
  | x :: xs, n :: ns, h => by
    cases h with
    | cons h t =>
      rw [dp_str h, da_strs t]
      rfl
theorem da_ints : ∀ {xs : List V} {ns : List Int}, DpAll K H xs (ns.map PyData.int) → xs = ns.map V.int
  | [], [], _ => rfl
  | [], _ :: _, h => by cases h
  | _ :: _, [], h => by cases h
  | x :: xs, n :: ns, h => by
    cases h with
    | cons h t =>
      rw [dp_int h, da_ints t]
      rfl
theorem da_take : ∀ {xs : List V} {ds : List PyData}, DpAll K H xs ds → ∀ n, DpAll K H (xs.take n) (ds.take n)
  | _, _, .nil, n => by
    rw [List.take_nil, List.take_nil]
    exact .nil
  | _, _, .cons h t, 0 => .nil
  | _, _, .cons h t, n + 1 => .cons h (da_take t n)
/-- the strs of a tuple of texts -/
theorem dp_names {v : V} {ns : List Str} (h : Dp K H v (.tuple (ns.map PyData.str))) : ∃ a, v = .ref a ∧ SqT K H a (ns.map V.str) := by
  obtain ⟨a, xs, rfl, s, t⟩ := dp_tup h
  rw [da_strs t] at s
  exact ⟨a, rfl, s⟩
theorem dp_namesL {v : V} {ns : List Str} (h : Dp K H v (.list (ns.map PyData.str))) : ∃ a, v = .ref a ∧ SqL K H a (ns.map V.str) := by
  obtain ⟨a, xs, rfl, s, t⟩ := dp_lst h
  rw [da_strs t] at s
  exact ⟨a, rfl, s⟩
theorem names_dp {a : Addr} {ns : List Str} (h : SqT K H a (ns.map V.str)) : Dp K H (.ref a) (.tuple (ns.map PyData.str)) := .tup h (dp_strs ns)
theorem namesL_dp {a : Addr} {ns : List Str} (h : SqL K H a (ns.map V.str)) : Dp K H (.ref a) (.list (ns.map PyData.str)) := .lst h (dp_strs ns)
end

/-! ### what may be compared: no dicts, not too deep -/
def Lay (n : Nat) (d : PyData) : Prop := d.canLay0 = true ∧ d.depth ≤ n
def Lays (n : Nat) (ds : List PyData) : Prop := PyData.canLayAll0 ds = true ∧ PyData.depthAll ds ≤ n
theorem lays_nil {n : Nat} : Lays n [] := ⟨rfl, Nat.zero_le _⟩
theorem lays_cons {n : Nat} {d : PyData} {ds : List PyData} (h : Lay n d) (t : Lays n ds) : Lays n (d :: ds) := by
  constructor
  · show (d.canLay0 && PyData.canLayAll0 ds) = true
    rw [h.1, t.1]
    rfl
  · show max d.depth (PyData.depthAll ds) ≤ n
    exact Nat.max_le.mpr ⟨h.2, t.2⟩
theorem lays_of {n : Nat} : ∀ {ds : List PyData}, (∀ d ∈ ds, Lay n d) → Lays n ds
  | [], _ => lays_nil
  | d :: ds, h => lays_cons (h d List.mem_cons_self) (lays_of fun x hx => h x (List.mem_cons_of_mem _ hx))
theorem lay_tuple {n : Nat} {ds : List PyData} (h : Lays n ds) : Lay (n + 1) (.tuple ds) := ⟨h.1, Nat.succ_le_succ h.2⟩
theorem lay_list {n : Nat} {ds : List PyData} (h : Lays n ds) : Lay (n + 1) (.list ds) := ⟨h.1, Nat.succ_le_succ h.2⟩
theorem lay_int {n : Nat} {i : Int} : Lay n (.int i) := ⟨rfl, Nat.zero_le _⟩
theorem lay_str {n : Nat} {s : Str} (h : PyData.strOk s = true) : Lay n (.str s) := ⟨h, Nat.zero_le _⟩
theorem lay_up {m n : Nat} {d : PyData} (h : Lay m d) (k : m ≤ n) : Lay n d := ⟨h.1, Nat.le_trans h.2 k⟩
theorem lays_up {m n : Nat} {ds : List PyData} (h : Lays m ds) (k : m ≤ n) : Lays n ds := ⟨h.1, Nat.le_trans h.2 k⟩
theorem lays_mem {n : Nat} : ∀ {ds : List PyData}, Lays n ds → ∀ d ∈ ds, Lay n d
  | d :: ds, h, x, hx => by
    have h1 : (d.canLay0 && PyData.canLayAll0 ds) = true := h.1
    have h2 : max d.depth (PyData.depthAll ds) ≤ n := h.2
    rw [Bool.and_eq_true] at h1
    rw [Nat.max_le] at h2
    rcases List.mem_cons.mp hx with e | e
    · rw [e]
      exact ⟨h1.1, h2.1⟩
    · exact lays_mem ⟨h1.2, h2.2⟩ x e
theorem lays_strs {n : Nat} {ns : List Str} (h : ∀ s ∈ ns, PyData.strOk s = true) : Lays n (ns.map PyData.str) := lays_of fun d hd => by
  obtain ⟨s, hs, rfl⟩ := List.mem_map.mp hd
  exact lay_str (h s hs)
theorem lays_ints {n : Nat} {ns : List Int} : Lays n (ns.map PyData.int) := lays_of fun d hd => by
  obtain ⟨s, _, rfl⟩ := List.mem_map.mp hd
  exact lay_int
theorem shape {n : Nat} {d : PyData} (h : Lay n d) (k : n ≤ 64) : SeqAt.shaped d = true := by
  unfold SeqAt.shaped
  rw [Bool.and_eq_true]
  exact ⟨h.1, decide_eq_true (Nat.le_trans h.2 k)⟩
theorem eq_refl {n : Nat} {d : PyData} (h : Lay n d) : PyData.eqv d d = true := SeqAt.eqv_refl d h.1

/-! ### strict order of lists of texts, and equal lists -/
def Asc (l : List Str) : Prop := l.Pairwise fun x y => x.cps.toList < y.cps.toList
theorem asc_of : ∀ {l : List Str}, sortedS l = true → l.Nodup → Asc l := by
  intro l h nd
  have key : ∀ (d i : Nat) (x y : Str), l[i]? = some x → l[i + (d + 1)]? = some y → x.cps.toList < y.cps.toList := by
    intro d
    induction d with
    | zero => exact fun i x y h1 h2 => sorted_at h nd h1 h2
    | succ d ih =>
      intro i x y h1 h2
      have hl : i + (d + 1) < l.length := by
        have := (List.getElem?_eq_some_iff.mp h2).1
        omega
      have h3 : l[i + (d + 1)]? = some l[i + (d + 1)] := List.getElem?_eq_getElem hl
      exact List.lt_trans (ih i x _ h1 h3) (sorted_at h nd h3 h2)
  refine List.pairwise_iff_getElem.mpr fun i j hi hj hij => ?_
  exact key (j - i - 1) i _ _ (List.getElem?_eq_getElem hi) (by rw [show i + (j - i - 1 + 1) = j by omega]; exact List.getElem?_eq_getElem hj)
theorem asc_nodup {l : List Str} (h : Asc l) : l.Nodup := List.Pairwise.imp (fun {x y} hxy e => by
  rw [e] at hxy
  exact List.lt_irrefl _ hxy) h
theorem asc_eq : ∀ {l m : List Str}, Asc l → Asc m → (∀ x, x ∈ l ↔ x ∈ m) → l = m
  | [], [], _, _, _ => rfl
  | [], y :: m, _, _, h => absurd ((h y).mpr List.mem_cons_self) (by simp)
  | x :: l, [], _, _, h => absurd ((h x).mp List.mem_cons_self) (by simp)
  | x :: l, y :: m, h1, h2, h => by
    obtain ⟨a1, a2⟩ := List.pairwise_cons.mp h1
    obtain ⟨b1, b2⟩ := List.pairwise_cons.mp h2
    have e : x = y := by
      rcases List.mem_cons.mp ((h x).mp List.mem_cons_self) with e | e
      · exact e
      · rcases List.mem_cons.mp ((h y).mpr List.mem_cons_self) with e' | e'
        · exact e'.symm
        · exact absurd (List.lt_trans (a1 y e') (b1 x e)) (List.lt_irrefl _)
    subst e
    have nl : x ∉ l := fun z => List.lt_irrefl _ (a1 x z)
    have nm : x ∉ m := fun z => List.lt_irrefl _ (b1 x z)
    rw [asc_eq a2 b2 fun z => ⟨fun hz => (List.mem_cons.mp ((h z).mp (List.mem_cons_of_mem _ hz))).resolve_left fun e => nl (e ▸ hz), fun hz => (List.mem_cons.mp ((h z).mpr (List.mem_cons_of_mem _ hz))).resolve_left fun e => nm (e ▸ hz)⟩]

/-! ### sorted(xs), xs tuples of ints of one length: some order -/
def rSortRows (K : PySem.W.Frag) : List V → Hp → VK → Prop := fun vs H Q => ∃ (a : Addr) (xs : List V) (d : Nat) (B : Int), vs = [V.ref a] ∧ SqL K H a xs ∧ xs.length < 64 ∧ (∀ x ∈ xs, ∃ ns, TupI K H x ns ∧ ns.length = d ∧ TS.Bd B ns) ∧ (d = 0 → xs.length ≤ 1) ∧
  ∀ (ys : List V) (p : Addr), ys.Perm xs → H p = none → Q (.ref p) (upd H p (.lst ys))
theorem cr_sortRows {X : Cx} : CallR X (.builtin "sorted") (rSortRows X.K) := by
  intro pins s σ H vs us Q I r h
  obtain ⟨a, xs, d, B, rfl, hs, h64, hx, h1, q⟩ := h
  by_cases hd : 1 ≤ d
  · exact cr_sortT hd pins s σ H _ us Q I r ⟨a, xs, rfl, hs, h64, hx, fun ys p pm _ n => q ys p pm n⟩
  · have hl1 : xs.length ≤ 1 := h1 (by omega)
    obtain ⟨its, rv, hl, hz⟩ := I.list hs
    have hlen := rv.length
    rw [Vals.ref1 r]
    refine Srt.sorted_any hl.isList (by rw [← hlen]; exact hz) (fun h2 => absurd h2 (by omega)) fun out hp => ?_
    have e : out = its := by
      match its, hlen, hp with
      | [], _, hp => exact hp.eq_nil
      | [v], _, hp => exact List.perm_singleton.mp hp
      | _ :: _ :: _, hlen, _ =>
        simp only [List.length_cons] at hlen
        omega
    subst e
    obtain ⟨ep, he'⟩ := PyProof.Rows.sortedAll_at s.heap out out.toArray
    exact ⟨.ref _, upd H (s.heap.objs.size + 1) (.lst xs), I.laid (t' := s.toks) (fun _ _ => PyProof.Rows.sortedAll_old) (Nat.le_succ _) ⟨hz, out, ep, rv, by simpa using he'⟩, rfl, q xs _ (List.Perm.refl _) (I.hok.fresh (Nat.le_succ _))⟩

/-! ### the room of a call for a comparison of data -/
theorem room {k : Nat} {A : Around} (r : Room k A) : A.units + 65 < cLine := by
  have := r.un
  omega

/-! ### a list or a tuple of data -/
theorem dp_seq {K : PySem.W.Frag} {H : Hp} {v : V} {ds : List PyData} (h : Dp K H v (.list ds) ∨ Dp K H v (.tuple ds)) : ∃ a xs, v = .ref a ∧ DpAll K H xs ds ∧ (SqL K H a xs ∨ SqT K H a xs) := by
  rcases h with h | h
  · obtain ⟨a, xs, rfl, s, t⟩ := dp_lst h
    exact ⟨a, xs, rfl, t, .inl s⟩
  · obtain ⟨a, xs, rfl, s, t⟩ := dp_tup h
    exact ⟨a, xs, rfl, t, .inr s⟩

/-! ### name = {k: v for ..} -/
section
variable {X : Cx}
theorem ps_setDc {i : Nat} {y : Str} {py : Pos} {kx vx tg iter : Expr} {ifs : List Expr} {scope : Scope} {own : List (Str × Nat)} {pos spos : Pos} {wi : TI} {g : TG} {tt : TT} {tk tv : TE} (hc : X.calm = true) (hN : X.N.Nodup) (hy : X.N[i]? = some y) (hyl : X.env.scope.names.lookup y = some .local)
    (hsw : swapsWith (.DictComp kx vx [⟨tg, iter, ifs, 0⟩] scope pos) (some (.Name y py)) spos.line X.env = pure true) (hi : PI X tg iter wi) (ok : BlkOk X.N X.env.scope scope own)
    (hg : ∀ (s : Shared) (H : Hp) (C : Addr) (cl : List (Str × Addr)) (fp : List Addr), PG (X.blk s H scope (compEnvC scope cl C X.env) fp) tg g) (ht : ∀ (s : Shared) (H : Hp) (C : Addr) (cl : List (Str × Addr)) (fp : List Addr), PTs (X.blk s H scope (compEnvC scope cl C X.env) fp) ifs tt)
    (hk : ∀ (s : Shared) (H : Hp) (C : Addr) (cl : List (Str × Addr)) (fp : List Addr), PE (X.blk s H scope (compEnvC scope cl C X.env) fp) kx tk)
    (he : ∀ (s : Shared) (H : Hp) (C : Addr) (cl : List (Str × Addr)) (fp : List Addr), PE (X.blk s H scope (compEnvC scope cl C X.env) fp) vx tv) (hs : ∀ x, foldedSetIterable iter X.env x = pure x := by intro _; rfl) :
    PS X (.Assign [.Name y py] (.DictComp kx vx [⟨tg, iter, ifs, 0⟩] scope pos) spos) (tAsg (tDc wi g tt tk tv (own.map (·.2))) (gName i)) := by
  refine ⟨fun pins s σ H D I h => ?_⟩
  rw [exec_Assign_Name_used _ _ _ _ hsw]
  refine wpAny_bind (wpAny_standAt (wpAny_bind ?_))
  show wpAny _ X.A (do let _ ← comprehension (.DictComp kx vx [⟨tg, iter, ifs, 0⟩] scope pos) scope X.env _ newDict false (eval iter X.env) (some (assign (.Name y py) X.env))) _ _ s
  have h : tDc wi g tt tk tv (own.map (·.2)) σ H (fun x H1 => gName i x σ H1 D.nx) := h
  refine wpAny_bind (thn (dc_core (Qf := fun _ s' => SP X pins D .next s') hc hN I hi ok hg ht hk he hs h fun L C s' m H' I' q hn f => ?_) fun _ s' hq => wpAny_pure (wpAny_pure hq))
  show wpAny _ _ (assign (.Name y py) X.env (.ref L)) _ _ _
  refine wpAny_assign_Name (store_ok2 (v := V.ref L) I' hN hy (.inl hyl) rfl (fun s2 I2 ⟨a, sb, ha⟩ => ?_) (.inr hyl))
  obtain ⟨f0, f1, f2, f3, f4, f5⟩ := f
  have haC : C ≠ a := by
    rcases ha with z | z
    · rw [z]; exact f1
    · exact fun e => f4 y a z e.symm
  refine ⟨m, hn.sameBut sb haC, fun h3 sb3 => ?_⟩
  exact ⟨_, H', I2.turned (t' := s2.toks) (fun b o hb e => (sb3.2 b hb).trans e) f0 f1 f3 f4 f5, q⟩
theorem sw_trueD {kx vx : Expr} {gs : List Comprehension} {scope : Scope} {pos py : Pos} {y : Str} {l : Nat} {env : Env} (hk : env.scope.kind = .function) (hy : env.scope.names.lookup y = some .local) (hl : (py.line == pos.line) = true)
    (ha : (scope.names.any fun (n, k) => n == y && (k == .local || k == .cell)) = false) : swapsWith (.DictComp kx vx gs scope pos) (some (.Name y py)) l env = pure true := by
  have ky : env.kindOf y = some .local := hy
  have hb : env.blockKind = .function := by unfold Env.blockKind; rw [hk]; rfl
  unfold swapsWith
  simp only [hb, ky, ha, Expr.pos, hl]
  rfl
end
end Dx
namespace K01
local macro_rules | `(tactic| walk_at "rd") => `(tactic| repeat (first | refine ⟨rfl, ?_⟩ | refine ⟨_, rfl, ?_⟩ | refine ⟨_, _, rfl, rfl, ?_⟩ | refine ⟨⟨_, rfl⟩, ?_⟩))
open PySem PySem.Spec PyProof.Rows L2 Bx TL Dx
def topS (i : Nat) : Stmt := PySem.Challenge.pw_shadowlinks_k01_join_widen_restrict.main.body.getD i (.Pass ⟨0, 0, 0, 0⟩)
abbrev s_merge_names : Stmt := topS 1
abbrev n_merge_names : List Str := ["lists", "names", "name"]
theorem sc_merge_names : FnScope n_merge_names ["lists"] (defScope s_merge_names) := ⟨rfl, rfl, rfl, by decide +kernel, rfl, by decide +kernel, by decide +kernel⟩
abbrev s_join : Stmt := topS 3
abbrev n_join : List Str := ["theories", "lists", "constraints", "constraint", "names", "_", "group"]
theorem sc_join : FnScope n_join ["theories"] (defScope s_join) := ⟨rfl, rfl, rfl, by decide +kernel, rfl, by decide +kernel, by decide +kernel⟩
abbrev s_widen : Stmt := topS 4
abbrev n_widen : List Str := ["theory", "names", "own", "constraints"]
theorem sc_widen : FnScope n_widen ["theory", "names"] (defScope s_widen) := ⟨rfl, rfl, rfl, by decide +kernel, rfl, by decide +kernel, by decide +kernel⟩
abbrev s_restrict : Stmt := topS 5
abbrev n_restrict : List Str := ["assignment", "names", "kept", "name"]
theorem sc_restrict : FnScope n_restrict ["assignment", "names"] (defScope s_restrict) := ⟨rfl, rfl, rfl, by decide +kernel, rfl, by decide +kernel, by decide +kernel⟩
abbrev s__law_source : Stmt := topS 7
abbrev n__law_source : List Str := ["_law_script", "_law_k", "_law_number"]
theorem sc__law_source : FnScope n__law_source ["_law_script", "_law_k"] (defScope s__law_source) := ⟨rfl, rfl, rfl, by decide +kernel, rfl, by decide +kernel, by decide +kernel⟩
abbrev s__law_draw : Stmt := topS 8
abbrev n__law_draw : List Str := ["_law_source_here", "_law_limit", "_law_number", "_law_mixed"]
theorem sc__law_draw : FnScope n__law_draw ["_law_source_here", "_law_limit"] (defScope s__law_draw) := ⟨rfl, rfl, rfl, by decide +kernel, rfl, by decide +kernel, by decide +kernel⟩
abbrev s__law_pool : Stmt := topS 9
abbrev n__law_pool : List Str := []
theorem sc__law_pool : FnScope n__law_pool [] (defScope s__law_pool) := ⟨rfl, rfl, rfl, by decide +kernel, rfl, by decide +kernel, by decide +kernel⟩
abbrev s__law_some : Stmt := topS 10
abbrev n__law_some : List Str := ["_law_source_here", "_law_names", "_law_share", "_law_name"]
theorem sc__law_some : FnScope n__law_some ["_law_source_here", "_law_names", "_law_share"] (defScope s__law_some) := ⟨rfl, rfl, rfl, by decide +kernel, rfl, by decide +kernel, by decide +kernel⟩
abbrev s__law_theory : Stmt := topS 11
abbrev n__law_theory : List Str := ["_law_source_here", "_law_names", "_law_constraints", "_law_k", "_law_mentioned", "_law_rows", "_law_value", "_law_row"]
theorem sc__law_theory : FnScope n__law_theory ["_law_source_here"] (defScope s__law_theory) := ⟨rfl, rfl, rfl, by decide +kernel, rfl, by decide +kernel, by decide +kernel⟩
abbrev s__law_union : Stmt := topS 12
abbrev n__law_union : List Str := ["_law_lists", "_law_found", "_law_name", "_law_names"]
theorem sc__law_union : FnScope n__law_union ["_law_lists"] (defScope s__law_union) := ⟨rfl, rfl, rfl, by decide +kernel, rfl, by decide +kernel, by decide +kernel⟩
abbrev s__law_join_right : Stmt := topS 13
abbrev n__law_join_right : List Str := ["_law_source_here", "_law_theories", "_law_passed", "_law_actual", "_law_expected", "_law_theory_here", "_law_constraint", "_law_k"]
theorem sc__law_join_right : FnScope n__law_join_right ["_law_source_here"] (defScope s__law_join_right) := ⟨rfl, rfl, rfl, by decide +kernel, rfl, by decide +kernel, by decide +kernel⟩
abbrev s__law_widen_right : Stmt := topS 14
abbrev n__law_widen_right : List Str := ["_law_source_here", "_law_theory_here", "_law_expected", "_law_actual", "_law_name"]
theorem sc__law_widen_right : FnScope n__law_widen_right ["_law_source_here"] (defScope s__law_widen_right) := ⟨rfl, rfl, rfl, by decide +kernel, rfl, by decide +kernel, by decide +kernel⟩
abbrev s__law_restrict_right : Stmt := topS 15
abbrev n__law_restrict_right : List Str := ["_law_source_here", "_law_named", "_law_values", "_law_name", "_law_kept", "_law_before", "_law_actual", "_law_expected", "_law_again", "_law_pair"]
theorem sc__law_restrict_right : FnScope n__law_restrict_right ["_law_source_here"] (defScope s__law_restrict_right) := ⟨rfl, rfl, rfl, by decide +kernel, rfl, by decide +kernel, by decide +kernel⟩
abbrev s_law : Stmt := topS 16
abbrev n_law : List Str := ["_law_script"]
theorem sc_law : FnScope n_law ["_law_script"] (defScope s_law) := ⟨rfl, rfl, rfl, by decide +kernel, rfl, by decide +kernel, by decide +kernel⟩
section
variable {P : Program} {w : World} {K : PySem.W.Frag} {mg : Str → Option Value} {base : Heap}
/-! ### merge_names -/
def spMerge0 (K : PySem.W.Frag) : Sp := fun vs H Q _ => ∃ (p : Addr) (L : List (Addr × List Str)), vs = [.ref p] ∧ SqT K H p (L.map fun q => V.ref q.1) ∧ (∀ q ∈ L, SqL K H q.1 (q.2.map V.str) ∨ SqT K H q.1 (q.2.map V.str)) ∧ (L.map fun q => q.2).flatten.length ≤ 3000 ∧
  ∀ r H' ys, Same H H' → H r = none → H' r = some (.tup (ys.map V.str)) → sortedS ys = true → ys.Nodup → (∀ x, x ∈ ys ↔ x ∈ (L.map fun q => q.2).flatten) → Q (.ref r) H'
def spMerge (K : PySem.W.Frag) : Sp := fun vs H Q _ => ∃ (L : List (Addr × List Str)), vs = L.map (fun q => V.ref q.1) ∧ (∀ q ∈ L, SqL K H q.1 (q.2.map V.str) ∨ SqT K H q.1 (q.2.map V.str)) ∧ L.length ≤ 1000 ∧ (L.map fun q => q.2).flatten.length ≤ 3000 ∧
  ∀ r H' ys, Same H H' → H r = none → H' r = some (.tup (ys.map V.str)) → sortedS ys = true → ys.Nodup → (∀ x, x ∈ ys ↔ x ∈ (L.map fun q => q.2).flatten) → Q (.ref r) H'
theorem ok_merge_names {f : Addr} {fd : FuncData} (F : Fun K "merge_names" "merge_names" s_merge_names f fd) (m_set : mg "set" = none) (m_sorted : mg "sorted" = none) (m_tuple : mg "tuple" = none) : FnR P w K mg base CX0 1 f (spMerge K) := by
  have z := okStar (P := P) (w := w) (K := K) (mg := mg) (base := base) (sp := spMerge0 K) (k := 0) F sc_merge_names (fun _ _ _ _ _ _ rest => match rest with | [] => rfl | _ :: _ => rfl) (fun cdv A outer s H vs Q E hr h => ?_)
  · refine z.imp fun vs H Q E h => ?_
    obtain ⟨L, rfl, hL, hl, hn, q⟩ := h
    refine ⟨by rw [List.length_map]; exact sz (by omega), fun p np => ⟨p, L, rfl, sqt upd_same, fun x hx => (hL x hx).imp (Same.seq (same_new np)) (Bx.Same.tup (same_new np)), hn, fun r H' ys s1 n1 => q r H' ys ((same_new np).trans s1) ((same_new np).free n1)⟩⟩
  · obtain ⟨p, L, rfl, hT, hL, hn, q⟩ := h
    refine ⟨_, (pss_one (ps_ret (pe_callTy (T := "tuple") call_tuple_of (by rfl) m_tuple (by decide +kernel) (pa_cons (pe_callB (id := "sorted") (Sx.cr_sortX rfl) (by rfl) m_sorted (by decide +kernel) (pa_cons (pe_callTy (T := "set") (Sx.cr_setX rfl) (by rfl) m_set (by decide +kernel) (pa_cons (pe_lc2 (own := [("names", 1), ("name", 2)]) (vs1 := [2]) (wi1 := iSeq K (tVar 1)) (tt := tYes) (tt1 := tYes) rfl sc_merge_names.nd (pi_tup (pv 0)) (blkOk_by (N := n_merge_names) (sc := defScope s_merge_names) (by decide +kernel)) (by decide) (fun _ _ _ _ _ => pg_name (i := 1) sc_merge_names.nd rfl (Or.inl rfl)) (fun _ _ _ _ _ => pts_nil) (fun _ _ _ _ _ => (pi_seq (pv 1))) (fun _ _ _ _ _ => pg_name (i := 2) sc_merge_names.nd rfl (Or.inl rfl)) (fun _ _ _ _ _ => pts_nil) (fun _ _ _ _ _ => (pv 2))) pa_nil)) pa_nil)) pa_nil)))), ?_⟩
    walk_at "rd"
    refine ⟨⟨_, hT⟩, fun D hD => ?_⟩
    refine walk_any (walk_tup (K := K) (a := p) (xs := L.map fun q => V.ref q.1)) (fun i H' => Same H H' ∧ H' D = some (.lst (((L.take i).map fun q => q.2).flatten.map V.str))) ⟨same_new hD, by rw [upd_same]; rfl⟩ (fun i H' _ h => Bx.Same.tup h.1 hT) ?_ ?_
    · rintro i x H1 H2 hi ⟨hs, hd⟩ ⟨rfl, hx⟩
      rw [List.length_map] at hi
      obtain ⟨y, hy, rfl⟩ : ∃ y, L[i]? = some y ∧ x = .ref y.1 := by
        rw [List.getElem?_map, List.getElem?_eq_getElem hi] at hx
        exact ⟨_, List.getElem?_eq_getElem hi, (Option.some.inj hx).symm⟩
      refine ⟨rfl, ?_⟩
      have hy2 := hL y (List.mem_of_getElem? hy)
      have hfl : ((L.take (i + 1)).map fun q => q.2).flatten = ((L.take i).map fun q => q.2).flatten ++ y.2 := by
        rw [List.take_add_one, hy, List.map_append, List.flatten_append]
        simp
      have hle : ∀ j, (((L.take j).map fun q => q.2).flatten).length ≤ 3000 := fun j => by
        have e := List.take_append_drop j L
        have e2 : (L.map fun q => q.2).flatten.length = ((L.take j).map fun q => q.2).flatten.length + ((L.drop j).map fun q => q.2).flatten.length := by
          rw [← List.length_append, ← List.flatten_append, ← List.map_append, e]
        omega
      walk_at "rd"
      have hstep : ∀ (j : Nat) (x : V) (H1 : Hp), (y.2.map V.str)[j]? = some x → Same H H1 ∧ H1 D = some (.lst ((((L.take i).map fun q => q.2).flatten ++ y.2.take j).map V.str)) →
          ∃ acc, H1 D = some (.lst acc) ∧ acc.length < sizeLine ∧ Same H (upd H1 D (.lst (acc ++ [x]))) ∧ (upd H1 D (.lst (acc ++ [x]))) D = some (.lst ((((L.take i).map fun q => q.2).flatten ++ y.2.take (j + 1)).map V.str)) := by
        rintro j x H1 hj ⟨h1, h2⟩
        refine ⟨_, h2, ?_, same_at hD h1, ?_⟩
        · have e1 := hle (i + 1)
          rw [hfl, List.length_append] at e1
          rw [List.length_map, List.length_append, List.length_take]
          exact szl (by omega)
        · obtain ⟨u, hu, rfl⟩ : ∃ u, y.2[j]? = some u ∧ x = .str u := by
            rw [List.getElem?_map] at hj
            cases e : y.2[j]? with
            | none =>
              rw [e] at hj
              cases hj
            | some u =>
              rw [e] at hj
              exact ⟨u, rfl, (Option.some.inj hj).symm⟩
          rw [upd_same, List.take_add_one, hu, ← List.append_assoc, List.map_append (l₂ := (some u).toList)]
          rfl
      have hend : ∀ H1, Same H H1 ∧ H1 D = some (.lst ((((L.take i).map fun q => q.2).flatten ++ y.2.take (y.2.map V.str).length).map V.str)) → Same H H1 ∧ H1 D = some (.lst (((L.take (i + 1)).map fun q => q.2).flatten.map V.str)) := by
        rintro H1 ⟨h1, h2⟩
        rw [List.length_map, List.take_length, ← hfl] at h2
        exact ⟨h1, h2⟩
      have h0 : Same H H2 ∧ H2 D = some (.lst ((((L.take i).map fun q => q.2).flatten ++ y.2.take 0).map V.str)) := by
        rw [List.take_zero, List.append_nil]
        exact ⟨hs, hd⟩
      rcases hy2 with hl | ht
      · refine .inl ⟨⟨_, hs.seq hl⟩, walk_any walk_list (fun j H1 => Same H H1 ∧ H1 D = some (.lst ((((L.take i).map fun q => q.2).flatten ++ y.2.take j).map V.str))) h0 (fun j H' _ h => h.1.seq hl) ?_ hend⟩
        rintro j x H1 H' hj hp ⟨rfl, hx⟩
        refine ⟨rfl, ?_⟩
        walk_at "rd"
        exact hstep j x _ hx hp
      · refine .inr ⟨⟨_, Bx.Same.tup hs ht⟩, walk_any walk_tup (fun j H1 => Same H H1 ∧ H1 D = some (.lst ((((L.take i).map fun q => q.2).flatten ++ y.2.take j).map V.str))) h0 (fun j H' _ h => Bx.Same.tup h.1 ht) ?_ hend⟩
        rintro j x H1 H' hj hp ⟨rfl, hx⟩
        refine ⟨rfl, ?_⟩
        walk_at "rd"
        exact hstep j x _ hx hp
    · rintro H1 ⟨hs, hd⟩
      rw [List.length_map, List.take_length] at hd
      refine ⟨_, _, rfl, .inl (sq hd), by omega, fun p1 ys n1 hm nd hlen => ?_⟩
      refine ⟨_, _, rfl, upd_same, by omega, fun zs p2 pm hst n2 => ?_⟩
      refine ⟨_, _, rfl, .inl ⟨sq upd_same, fun r nr => ?_⟩⟩
      have s3 : Same H (upd (upd (upd H1 p1 (Sx.SetV P w p1 ys)) p2 (.lst (zs.map V.str))) r (.tup (zs.map V.str))) := ((hs.trans (same_new n1)).trans (same_new n2)).trans (same_new nr)
      refine q r _ zs s3 (((hs.trans (same_new n1)).trans (same_new n2)).free nr) upd_same hst (pm.nodup_iff.mpr nd) fun x => ?_
      rw [pm.mem_iff, hm x]

/-! ### the law's own: draws -/
theorem int_at {ns : List Int} {k : Nat} (h : k < ns.length) : atI (ns.map V.int) (k : Int) = some (V.int ns[k]) := atI_nat (by rw [List.getElem?_map, List.getElem?_eq_getElem h]; rfl)
def spSource (K : PySem.W.Frag) : Sp := fun vs H Q _ => ∃ (a : Addr) (ns : List Int) (k : Nat), vs = [.ref a, .int (k : Int)] ∧ SqL K H a (ns.map V.int) ∧ k ≤ 100 ∧ ∀ p n c, H p = none → Q (.ref p) (upd H p (.lst [.int n, .int c]))
theorem ok_source {f : Addr} {fd : FuncData} (F : Fun K "_law_source" "_law_source" s__law_source f fd) (m_len : mg "len" = none) (m_int : mg "int" = none) : FnOk P w K mg base CX0 1 f fd ["_law_script", "_law_k"] (spSource K) := by
  refine F.ok sc__law_source (fun vs H Q E h => ?_) (fun cdv A outer s H vs Q E hr h => ?_)
  · obtain ⟨a, ns, k, rfl, _⟩ := h
    rfl
  · obtain ⟨a, ns, k, rfl, hS, hk, q⟩ := h
    refine ⟨_, (pss_cons (ps_set (i := 2) sc__law_source.nd rfl (Or.inl rfl) pe_int)
    (pss_cons (ps_if (pt_cmpR op_lt (pv 1) (pe_callB call_len_seq (by rfl) m_len PySem.boot_len (pa_cons (pv 0) pa_nil)) (nomark _))
      (pss_one (ps_set (i := 2) sc__law_source.nd rfl (Or.inl rfl) (pe_callTy (T := "int") call_int1 (by rfl) m_int (by decide +kernel) (pa_cons (pe_ix ix_list (pv 0) (pv 1) (fun _ _ => rfl)) pa_nil))))
      pss_nil)
    (pss_one (ps_ret (pe_lst (pa_cons (pv 2) (pa_cons (pe_op op_add (pe_op op_mul pe_int (pv 1)) (pe_callB call_len_seq (by rfl) m_len PySem.boot_len (pa_cons (pv 0) pa_nil))) pa_nil))))))), ?_⟩
    walk_at "rd"
    refine ⟨_, _, rfl, .inl hS, ?_⟩
    walk_at "rd"
    refine ite2 (fun h0 => ?_) (fun h0 => ?_)
    · have h1 : (k : Int) < ((ns.map V.int).length : Nat) := of_decide_eq_true h0
      rw [List.length_map] at h1
      walk_at "rd"
      refine ⟨_, _, _, _, rfl, rfl, hS, int_at (k := k) (by omega), ?_⟩
      refine .inl ⟨_, rfl, ?_⟩
      walk_at "rd"
      refine ⟨.inr ⟨by omega, by omega⟩, ?_⟩
      walk_at "rd"
      refine ⟨_, _, rfl, .inl hS, ?_⟩
      walk_at "rd"
      exact ⟨sz (by show 2 ≤ 100000; decide), fun p np => q p _ _ np⟩
    · walk_at "rd"
      refine ⟨.inr ⟨by omega, by omega⟩, ?_⟩
      walk_at "rd"
      refine ⟨_, _, rfl, .inl hS, ?_⟩
      walk_at "rd"
      exact ⟨sz (by show 2 ≤ 100000; decide), fun p np => q p _ _ np⟩
theorem modb (x : Int) {k : Int} (h : 0 < k) (h2 : k ≤ 2 ^ 64) : -(2 ^ 64) < x % k ∧ x % k < 2 ^ 64 := by
  have a := Int.emod_nonneg x (show k ≠ 0 by omega)
  have b := Int.emod_lt_of_pos x h
  omega
@[irreducible] def spDraw : Sp := fun vs H Q _ => ∃ (a : Addr) (n c lim : Int), vs = [.ref a, .int lim] ∧ H a = some (.lst [.int n, .int c]) ∧ 0 < lim ∧ lim < 1073741824 ∧ ∀ r n' c', 0 ≤ r → r < lim → Q (.int r) (upd H a (.lst [.int n', .int c']))
theorem ok_draw {f : Addr} {fd : FuncData} (F : Fun K "_law_draw" "_law_draw" s__law_draw f fd) (m_int : mg "int" = none) : FnOk P w K mg base CX0 1 f fd ["_law_source_here", "_law_limit"] spDraw := by
  refine F.ok sc__law_draw (fun vs H Q E h => ?_) (fun cdv A outer s H vs Q E hr h => ?_)
  · unfold spDraw at h
    obtain ⟨a, n, c, lim, rfl, _⟩ := h
    rfl
  · unfold spDraw at h
    obtain ⟨a, n, c, lim, rfl, hA, h0, h1, q⟩ := h
    have hfm : ∀ x : Int, 0 ≤ x.fmod lim ∧ x.fmod lim < lim := fun x => by
      rw [Int.fmod_eq_emod_of_nonneg _ (by omega)]
      exact ⟨Int.emod_nonneg _ (by omega), Int.emod_lt_of_pos _ h0⟩
    refine ⟨_, (pss_cons (ps_set (i := 2) sc__law_draw.nd rfl (Or.inl rfl) (pe_ix ix_list (pv 0) pe_int (fun _ _ => rfl)))
    (pss_cons (ps_if (pt_cmpR op_ge (pv 2) (pe_op op_pow pe_int pe_int) (nomark _))
      (pss_cons (ps_asg (pe_op op_fdivN (pv 2) (pv 1)) (pg_sub (pv 0) pe_int set_list))
    (pss_one (ps_ret (pe_op op_modN (pe_callTy (T := "int") call_int1 (by rfl) m_int (by decide +kernel) (pa_cons (pv 2) pa_nil)) (pv 1)))))
      pss_nil)
    (pss_cons (ps_asg (pe_op op_add (pe_ix ix_list (pv 0) pe_int (fun _ _ => rfl)) pe_int) (pg_sub (pv 0) pe_int set_list))
    (pss_cons (ps_set (i := 3) sc__law_draw.nd rfl (Or.inl rfl) (pe_op op_mod (pe_callTy (T := "int") call_int1 (by rfl) m_int (by decide +kernel) (pa_cons (pe_op op_add (pe_op op_add (pe_op op_mul (pv 2) pe_int) (pe_op op_mul (pe_ix ix_list (pv 0) pe_int (fun _ _ => rfl)) pe_int)) pe_int) pa_nil)) pe_int))
    (pss_cons (ps_set (i := 3) sc__law_draw.nd rfl (Or.inl rfl) (pe_op op_mod (pe_callTy (T := "int") call_int1 (by rfl) m_int (by decide +kernel) (pa_cons (pe_op op_add (pe_op op_add (pe_op op_mul (pv 3) (pv 3)) (pv 2)) (pe_op op_mul (pe_ix ix_list (pv 0) pe_int (fun _ _ => rfl)) pe_int)) pa_nil)) pe_int))
    (pss_cons (ps_set (i := 3) sc__law_draw.nd rfl (Or.inl rfl) (pe_op op_mod (pe_callTy (T := "int") call_int1 (by rfl) m_int (by decide +kernel) (pa_cons (pe_op op_add (pe_op op_add (pe_op op_mul (pv 3) (pv 3)) (pe_op op_fdiv (pv 3) pe_int)) pe_int) pa_nil)) pe_int))
    (pss_one (ps_ret (pe_op op_modN (pe_op op_fdiv (pe_callTy (T := "int") call_int1 (by rfl) m_int (by decide +kernel) (pa_cons (pv 3) pa_nil)) pe_int) (pv 1)))))))))), ?_⟩
    walk_at "rd"
    refine ⟨_, _, _, _, rfl, rfl, sq hA, atI_nat (j := 0) rfl, ?_⟩
    walk_at "rd"
    refine ⟨⟨by decide, by decide, by decide⟩, ?_⟩
    walk_at "rd"
    refine ite2 (fun hb => ?_) (fun hb => ?_)
    · walk_at "rd"
      refine ⟨⟨by omega, by omega⟩, ?_⟩
      walk_at "rd"
      refine ⟨_, _, _, 0, rfl, rfl, hA, rfl, ?_⟩
      walk_at "rd"
      refine .inl ⟨_, rfl, ?_⟩
      walk_at "rd"
      refine ⟨by omega, ?_⟩
      exact q _ _ _ (hfm _).1 (hfm _).2
    · walk_at "rd"
      refine ⟨_, _, _, _, rfl, rfl, sq hA, atI_nat (j := 1) rfl, ?_⟩
      walk_at "rd"
      refine ⟨_, _, _, 1, rfl, rfl, hA, rfl, ?_⟩
      -- the first mixing
      walk_at "rd"
      refine ⟨.inr ⟨by decide, by decide⟩, ?_⟩
      walk_at "rd"
      refine ⟨_, _, _, _, rfl, rfl, sq upd_same, atI_nat (j := 1) rfl, ?_⟩
      walk_at "rd"
      refine ⟨.inr ⟨by decide, by decide⟩, ?_⟩
      walk_at "rd"
      refine .inl ⟨_, rfl, ?_⟩
      walk_at "rd"
      refine ⟨by show (0 : Int) < 2147483647; decide, ?_⟩
      -- the second
      walk_at "rd"
      refine ⟨.inl (modb _ (by decide) (by decide)), ?_⟩
      walk_at "rd"
      refine ⟨_, _, _, _, rfl, rfl, sq upd_same, atI_nat (j := 1) rfl, ?_⟩
      walk_at "rd"
      refine ⟨.inr ⟨by decide, by decide⟩, ?_⟩
      walk_at "rd"
      refine .inl ⟨_, rfl, ?_⟩
      walk_at "rd"
      refine ⟨by show (0 : Int) < 2147483629; decide, ?_⟩
      -- the third
      walk_at "rd"
      refine ⟨.inl (modb _ (by decide) (by decide)), ?_⟩
      walk_at "rd"
      refine ⟨⟨by decide, by decide⟩, ?_⟩
      walk_at "rd"
      refine .inl ⟨_, rfl, ?_⟩
      walk_at "rd"
      refine ⟨by show (0 : Int) < 2147483587; decide, ?_⟩
      -- the answer
      walk_at "rd"
      refine .inl ⟨_, rfl, ?_⟩
      walk_at "rd"
      refine ⟨⟨by decide, by decide⟩, ?_⟩
      walk_at "rd"
      refine ⟨by omega, ?_⟩
      exact q _ _ _ (hfm _).1 (hfm _).2
/-- some other source, or none -/
theorem draw_of {H : Hp} {a : Addr} {lim : Int} {Q : VK} {E : XK} (hA : Src H a) (h0 : 0 < lim ∧ lim < 1073741824) (q : ∀ r H', 0 ≤ r → r < lim → SameBut a H H' → Src H' a → Q (.int r) H') : spDraw [.ref a, .int lim] H Q E := by
  obtain ⟨n, c, hA⟩ := hA
  unfold spDraw
  exact ⟨a, n, c, lim, rfl, hA, h0.1, h0.2, fun r n' c' h1 h2 => q r _ h1 h2 SameBut.upd ⟨n', c', upd_same⟩⟩


/-! ### join -/
def thD (t : List Str × List PyData) : PyData := .tuple [.tuple (t.1.map PyData.str), .tuple t.2]
theorem th_inv {H : Hp} {v : V} {t : List Str × List PyData} (h : Dp K H v (thD t)) : ∃ a na ca cs, v = .ref a ∧ SqT K H a [.ref na, .ref ca] ∧ SqT K H na (t.1.map V.str) ∧ SqT K H ca cs ∧ DpAll K H cs t.2 := by
  obtain ⟨a, xs, rfl, s, d⟩ := dp_tup h
  cases d with
  | cons h1 d =>
    cases d with
    | cons h2 d =>
      cases d
      obtain ⟨na, rfl, s1⟩ := dp_names h1
      obtain ⟨ca, cs, rfl, s2, d2⟩ := dp_tup h2
      exact ⟨a, na, ca, cs, rfl, s, s1, s2, d2⟩
def spJoin (K : PySem.W.Frag) : Sp := fun vs H Q _ => ∃ (v : V) (ts : List (List Str × List PyData)), vs = [v] ∧ (Dp K H v (.list (ts.map thD)) ∨ Dp K H v (.tuple (ts.map thD))) ∧ ts.length ≤ 1000 ∧ (ts.map fun t => t.1).flatten.length ≤ 3000 ∧ (ts.map fun t => t.2).flatten.length ≤ 3000 ∧
  ∀ r H' ys, Same H H' → Dp K H' r (thD (ys, (ts.map fun t => t.2).flatten)) → Asc ys → (∀ x, x ∈ ys ↔ x ∈ (ts.map fun t => t.1).flatten) → Q r H'
theorem join_lists {H : Hp} : ∀ {vs : List V} {ts : List (List Str × List PyData)}, DpAll K H vs (ts.map fun t => PyData.tuple (t.1.map PyData.str)) → ∃ L : List (Addr × List Str), vs = L.map (fun q => V.ref q.1) ∧ L.map (fun q => q.2) = ts.map (fun t => t.1) ∧ ∀ q ∈ L, SqT K H q.1 (q.2.map V.str)
  | [], [], _ => ⟨[], rfl, rfl, fun q hq => by cases hq⟩
  | [], _ :: _, h => by cases h
  | _ :: _, [], h => by cases h
  | v :: vs, t :: ts, h => by
    cases h with
    | cons h d =>
      obtain ⟨a, rfl, s⟩ := dp_names h
      obtain ⟨L, e1, e2, e3⟩ := join_lists d
      refine ⟨(a, t.1) :: L, by rw [e1]; rfl, by rw [List.map_cons, List.map_cons, e2], fun q hq => ?_⟩
      rcases List.mem_cons.mp hq with e | e
      · rw [e]
        exact s
      · exact e3 q e
theorem ok_join {f : Addr} {fd : FuncData} (F : Fun K "join" "join" s_join f fd) (m_tuple : mg "tuple" = none) (C_merge_names : CalR P w K mg base "merge_names" 1 (spMerge K)) : FnOk P w K mg base CX0 2 f fd ["theories"] (spJoin K) := by
  refine F.ok sc_join (fun vs H Q E h => ?_) (fun cdv A outer s H vs Q E hr h => ?_)
  · obtain ⟨v, ts, rfl, _⟩ := h
    rfl
  · obtain ⟨v, ts, rfl, hv, hl, hn1, hn2, q⟩ := h
    obtain ⟨a, xs, rfl, hd, hs⟩ := dp_seq hv
    have hxl : xs.length = ts.length := by rw [da_len hd, List.length_map]
    have item : ∀ {i : Nat} {x : V}, xs[i]? = some x → ∃ t, ts[i]? = some t ∧ Dp K H x (thD t) := fun {i x} hx => by
      obtain ⟨d, e, h⟩ := da_at hd hx
      rw [List.getElem?_map] at e
      cases e2 : ts[i]? with
      | none =>
        rw [e2] at e
        cases e
      | some t =>
        rw [e2] at e
        cases e
        exact ⟨t, rfl, h⟩
    refine ⟨_, (pss_cons (ps_setLc (i := 1) (own := [("names", 4), ("_", 5)]) (tt := tYes) rfl sc_join.nd rfl rfl (sw_true rfl rfl rfl (by decide +kernel)) (pi_seq (pv 0)) (blkOk_by (N := n_join) (sc := defScope s_join) (by decide +kernel)) (fun _ _ _ _ _ => pg_tupK (K := K) (n := 2) rfl rfl (pgs_cons (pg_name (i := 4) sc_join.nd rfl (Or.inl rfl)) (pgs_cons (pg_name (i := 5) sc_join.nd rfl (Or.inl rfl)) pgs_nil))) (fun _ _ _ _ _ => pts_nil) (fun _ _ _ _ _ => (pv 4)))
    (pss_cons (ps_setLc2 (i := 2) (own := [("_", 5), ("group", 6), ("constraint", 3)]) (vs1 := [3]) (wi1 := iTup K (tVar 6)) (tt := tYes) (tt1 := tYes) rfl sc_join.nd rfl rfl (sw_true rfl rfl rfl (by decide +kernel)) (pi_seq (pv 0)) (blkOk_by (N := n_join) (sc := defScope s_join) (by decide +kernel)) (by decide) (fun _ _ _ _ _ => pg_tupK (K := K) (n := 2) rfl rfl (pgs_cons (pg_name (i := 5) sc_join.nd rfl (Or.inl rfl)) (pgs_cons (pg_name (i := 6) sc_join.nd rfl (Or.inl rfl)) pgs_nil))) (fun _ _ _ _ _ => pts_nil) (fun _ _ _ _ _ => (pi_tup (pv 6))) (fun _ _ _ _ _ => pg_name (i := 3) sc_join.nd rfl (Or.inl rfl)) (fun _ _ _ _ _ => pts_nil) (fun _ _ _ _ _ => (pv 3)))
    (pss_one (ps_ret (pe_tup (pa_cons (pe_calS C_merge_names (hr.mono (by decide)) (pv 1)) (pa_cons (pe_callTy (T := "tuple") call_tuple_of (by rfl) m_tuple (by decide +kernel) (pa_cons (pv 2) pa_nil)) pa_nil))))))), ?_⟩
    walk_at "rd"
    refine seq_case hs fun J G wk hG => ?_
    intro D hD
    refine lc_it wk (fun i H' => ∃ vs', H' D = some (.lst vs') ∧ DpAll K H vs' ((ts.take i).map fun t => PyData.tuple (t.1.map PyData.str)) ∧ Same H H') ⟨[], upd_same, .nil, same_new hD⟩ (fun i H' _ ⟨_, _, _, s⟩ => hG H' s) ?_ ?_
    · rintro i x H1 H2 hi ⟨vs', hd1, hda, hs1⟩ ⟨rfl, hx⟩
      obtain ⟨t, ht, hxt⟩ := item hx
      obtain ⟨a1, na, ca, cs, rfl, s1, s2, s3, d3⟩ := th_inv hxt
      refine ⟨_, _, rfl, Bx.Same.tup hs1 s1, rfl, _, _, rfl, _, _, rfl, rfl, ?_⟩
      refine ⟨rfl, ?_⟩
      walk_at "rd"
      refine ⟨_, hd1, ?_, _, upd_same, ?_, same_at hD hs1⟩
      · rw [da_len hda, List.length_map, List.length_take]
        exact szl (by omega)
      · rw [List.take_add_one, ht, List.map_append]
        exact da_app hda (da_one (names_dp s2))
    · rintro H1 ⟨vs', hd1, hda, hs1⟩
      rw [hxl, List.take_length] at hda
      have h1D : H1 D = some (.lst vs') := hd1
      -- constraints
      walk_at "rd"
      refine seq_case (hs.imp (Same.seq hs1) (Bx.Same.tup hs1)) fun J2 G2 wk2 hG2 => ?_
      intro C hC
      have nDC : D ≠ C := ne_of_none h1D hC
      have hCn : H C = none := hs1.free hC
      refine walk_any wk2 (fun i H' => ∃ us, H' C = some (.lst us) ∧ DpAll K H us ((ts.take i).map fun t => t.2).flatten ∧ Same H1 H') ⟨[], upd_same, .nil, same_new hC⟩ (fun i H' _ ⟨_, _, _, s⟩ => hG2 H' s) ?_ ?_
      · rintro i x H2 H3 hi ⟨us, hc, hda2, hs2⟩ ⟨rfl, hx⟩
        obtain ⟨t, ht, hxt⟩ := item hx
        obtain ⟨a1, na, ca, cs, rfl, s1, s2, s3, d3⟩ := th_inv hxt
        have sHH2 := hs1.trans hs2
        have hfl : ((ts.take (i + 1)).map fun t => t.2).flatten = ((ts.take i).map fun t => t.2).flatten ++ t.2 := by
          rw [List.take_add_one, ht, List.map_append, List.flatten_append]
          simp
        have hle : ∀ j, (((ts.take j).map fun t => t.2).flatten).length ≤ 3000 := fun j => by
          have e := List.take_append_drop j ts
          have e2 : (ts.map fun t => t.2).flatten.length = ((ts.take j).map fun t => t.2).flatten.length + ((ts.drop j).map fun t => t.2).flatten.length := by
            rw [← List.length_append, ← List.flatten_append, ← List.map_append, e]
          omega
        refine ⟨_, _, rfl, Bx.Same.tup sHH2 s1, rfl, _, _, rfl, _, _, rfl, rfl, ?_⟩
        refine ⟨rfl, ?_⟩
        walk_at "rd"
        refine ⟨⟨_, Bx.Same.tup sHH2 s3⟩, walk_any walk_tup (fun j H' => ∃ us, H' C = some (.lst us) ∧ DpAll K H us (((ts.take i).map fun t => t.2).flatten ++ t.2.take j) ∧ Same H1 H') ⟨us, hc, by rw [List.take_zero, List.append_nil]; exact hda2, hs2⟩ (fun j H' _ ⟨_, _, _, s⟩ => Bx.Same.tup (hs1.trans s) s3) ?_ ?_⟩
        · rintro j x H4 H5 hj ⟨us, hc, hda2, hs4⟩ ⟨rfl, hx2⟩
          obtain ⟨d, hd2, hxd⟩ := da_at d3 hx2
          have e1 := hle (i + 1)
          rw [hfl, List.length_append] at e1
          refine ⟨rfl, ?_⟩
          walk_at "rd"
          refine ⟨_, hc, ?_, _, upd_same, ?_, same_at hC hs4⟩
          · rw [da_len hda2, List.length_append, List.length_take]
            exact szl (by omega)
          · rw [List.take_add_one, hd2, ← List.append_assoc]
            exact da_app hda2 (da_one hxd)
        · rintro H4 ⟨us, hc, hda2, hs4⟩
          rw [da_len d3, List.take_length, ← hfl] at hda2
          exact ⟨us, hc, hda2, hs4⟩
      · rintro H2 ⟨us, hc, hda2, hs2⟩
        rw [hxl, List.take_length] at hda2
        obtain ⟨L, e1, e2, e3⟩ := join_lists hda
        have sHH2 := hs1.trans hs2
        walk_at "rd"
        refine ⟨_, _, rfl, .inr (sq (hs2 _ _ h1D)), ?_⟩
        have hLl : L.length = ts.length := by
          have e := congrArg List.length e2
          rw [List.length_map, List.length_map] at e
          exact e
        refine ⟨L, e1, fun x hx => .inr (Bx.Same.tup sHH2 (e3 x hx)), by omega, by rw [e2]; exact hn1, fun r H3 ys s3 nr hr hst nd hm => ?_⟩
        walk_at "rd"
        refine ⟨_, _, rfl, .inl ⟨sq (s3 _ _ hc), fun t nt => ?_⟩⟩
        refine ⟨sz (by show 2 ≤ 100000; decide), fun z nz => ?_⟩
        have s4 : Same H3 (upd (upd H3 t (.tup us)) z (.tup [.ref r, .ref t])) := (same_new nt).trans (same_new nz)
        have sHH4 := (sHH2.trans s3).trans s4
        have ntz : t ≠ z := ne_of_none (show (upd H3 t (.tup us)) t = _ from upd_same) nz
        refine q _ _ ys sHH4 (.tup (sqt upd_same) (.cons (names_dp (sqt (s4 _ _ hr))) (da_one (.tup (sqt (by rw [upd_ne ntz, upd_same])) (dpAll_same sHH4 hda2))))) (asc_of hst nd) fun x => ?_
        rw [hm x, e2]

/-! ### widen -/
def spWiden (K : PySem.W.Frag) : Sp := fun vs H Q _ => ∃ (v : V) (t : List Str × List PyData) (xs : List Str) (S : List Addr), vs = v :: xs.map V.str ∧ (∀ b ∈ S, ∃ o, H b = some o) ∧ Dp K (mn H S) v (thD t) ∧ t.1.length ≤ 1000 ∧ xs.length ≤ 1000 ∧
  ∀ r H' ys, Same H H' → Dp K (mn H' S) r (thD (ys, t.2)) → Asc ys → (∀ x, x ∈ ys ↔ x ∈ t.1 ∨ x ∈ xs) → Q r H'
def spWiden0 (K : PySem.W.Frag) : Sp := fun vs H Q _ => ∃ (v : V) (p : Addr) (t : List Str × List PyData) (xs : List Str) (S : List Addr), vs = [v, .ref p] ∧ (∀ b ∈ S, ∃ o, H b = some o) ∧ Dp K (mn H S) v (thD t) ∧ SqT K H p (xs.map V.str) ∧ t.1.length ≤ 1000 ∧ xs.length ≤ 1000 ∧
  ∀ r H' ys, Same H H' → Dp K (mn H' S) r (thD (ys, t.2)) → Asc ys → (∀ x, x ∈ ys ↔ x ∈ t.1 ∨ x ∈ xs) → Q r H'
theorem ok_widen {f : Addr} {fd : FuncData} (F : Fun K "widen" "widen" s_widen f fd) (C_merge_names : CalR P w K mg base "merge_names" 1 (spMerge K)) : FnR P w K mg base CX0 2 f (spWiden K) := by
  have z := okStar1 (P := P) (w := w) (K := K) (mg := mg) (base := base) (sp := spWiden0 K) (k := 1) F sc_widen (fun _ _ _ _ _ _ _ => rfl) (fun _ _ _ _ _ _ _ _ _ => rfl) (fun cdv A outer s H vs Q E hr h => ?_)
  · refine z.imp fun vs H Q E h => ?_
    obtain ⟨v, t, xs, S, rfl, hS, hv, hl, hxl, q⟩ := h
    refine ⟨v, _, rfl, by rw [List.length_map]; exact sz (by omega), fun p np => ⟨v, p, t, xs, S, rfl, (fun b hb => let ⟨o, e⟩ := hS b hb; ⟨o, same_new np _ _ e⟩), dp_same (mn_all (same_new np)) hv, sqt upd_same, hl, hxl, fun r H' ys s1 => q r H' ys ((same_new np).trans s1)⟩⟩
  · obtain ⟨v, p, t, xs, S, rfl, hS, hv, hp, hl, hxl, q⟩ := h
    obtain ⟨a1, na, ca, cs, rfl, s1, s2, s3, d3⟩ := th_inv hv
    have out : ∀ {b : Addr}, H b = none → b ∉ S := fun n z => by
      obtain ⟨o, e⟩ := hS _ z
      rw [n] at e
      cases e
    refine ⟨_, (pss_cons (ps_asg (pv 0) (pg_tup rfl (pgs_cons (pg_name (i := 2) sc_widen.nd rfl (Or.inl rfl)) (pgs_cons (pg_name (i := 3) sc_widen.nd rfl (Or.inl rfl)) pgs_nil))))
    (pss_one (ps_ret (pe_tup (pa_cons (pe_calR C_merge_names (hr.mono (by decide)) (pa_cons (pv 2) (pa_cons (pv 1) pa_nil))) (pa_cons (pv 3) pa_nil)))))), ?_⟩
    walk_at "rd"
    refine ⟨_, _, rfl, Bx.Same.tup mn_same s1, rfl, _, _, rfl, _, _, rfl, rfl, ?_⟩
    walk_at "rd"
    refine ⟨[(na, t.1), (p, xs)], rfl, ?_, by simp, by simp; omega, fun r H3 ys s3' nr hr hst nd hm => ?_⟩
    · intro x hx
      rcases List.mem_cons.mp hx with e | e
      · rw [e]
        exact .inr (Bx.Same.tup mn_same s2)
      · rw [List.mem_singleton.mp e]
        exact .inr hp
    · walk_at "rd"
      refine ⟨sz (by show 2 ≤ 100000; decide), fun z nz => ?_⟩
      have s4 := s3'.trans (same_new nz (o := .tup [.ref r, .ref ca]))
      refine q _ _ ys s4 (.tup (sqt (mn_at (out (s3'.free nz)) upd_same)) (.cons (names_dp (sqt (mn_at (out nr) (same_new nz _ _ hr)))) (da_one (.tup (Bx.Same.tup (mn_all s4) s3) (dpAll_same (mn_all s4) d3))))) (asc_of hst nd) fun x => ?_
      rw [hm x]
      simp
end
end K01
namespace K01
local macro_rules | `(tactic| walk_at "rd") => `(tactic| repeat (first | refine ⟨rfl, ?_⟩ | refine ⟨_, rfl, ?_⟩ | refine ⟨_, _, rfl, rfl, ?_⟩ | refine ⟨⟨_, rfl⟩, ?_⟩))
open PySem PySem.Spec PyProof.Rows L2 Bx TL Dx
section
variable {P : Program} {w : World} {K : PySem.W.Frag} {mg : Str → Option Value} {base : Heap}
/-! ### restrict -/
/-- a dict with these text keys, and ints by get -/
def kvOf (keys : List Str) (get : Str → Int) : List (Key × V) := keys.map fun k => ((Sum.inr k : Key), V.int (get k))
theorem kv_len {keys : List Str} {get : Str → Int} : (kvOf keys get).length = keys.length := List.length_map _
theorem kv_in {get : Str → Int} {k : Str} : ∀ {keys : List Str}, k ∈ keys → valV (kvOf keys get) (Sum.inr k : Key) = some (.int (get k))
  | x :: keys, h => by
    by_cases e : x = k
    · rw [e]
      exact valV_pos (p := ((Sum.inr k : Key), V.int (get k))) rfl
    · rw [show kvOf (x :: keys) get = ((Sum.inr x : Key), V.int (get x)) :: kvOf keys get from rfl, valV_neg (fun z => e (Sum.inr.inj z))]
      exact kv_in ((List.mem_cons.mp h).resolve_left fun z => e z.symm)
theorem kv_out {get : Str → Int} {k : Str} : ∀ {keys : List Str}, k ∉ keys → valV (kvOf keys get) (Sum.inr k : Key) = none
  | [], _ => rfl
  | x :: keys, h => by
    rw [show kvOf (x :: keys) get = ((Sum.inr x : Key), V.int (get x)) :: kvOf keys get from rfl, valV_neg (fun z => h (by rw [Sum.inr.inj z]; exact List.mem_cons_self))]
    exact kv_out fun z => h (List.mem_cons_of_mem _ z)
theorem kv_put {keys : List Str} {get : Str → Int} {k : Str} {x : Int} (h : k ∉ keys) : putK (kvOf keys get) (Sum.inr k : Key) (.int x) = kvOf (keys ++ [k]) (fun z => if z = k then x else get z) := by
  rw [putK_new _ (kv_out h)]
  unfold kvOf
  rw [List.map_append]
  congr 1
  · exact List.map_congr_left fun z hz => by
      show ((Sum.inr z : Key), V.int (get z)) = (Sum.inr z, V.int (if z = k then x else get z))
      rw [if_neg fun e => h (by rw [← e]; exact hz)]
  · simp
theorem kv_put_same {keys : List Str} {get : Str → Int} {k : Str} (h : k ∉ keys) : putK (kvOf keys get) (Sum.inr k : Key) (.int (get k)) = kvOf (keys ++ [k]) get := by
  rw [putK_new _ (kv_out h)]
  unfold kvOf
  rw [List.map_append]
  rfl
def keptKeys (keys ns : List Str) : List Str := ns ++ if Str.ofString "" ∈ keys then [Str.ofString ""] else []
def spRestrict (K : PySem.W.Frag) : Sp := fun vs H Q _ => ∃ (a b : Addr) (keys : List Str) (get : Str → Int) (ns : List Str), vs = [.ref a, .ref b] ∧ H a = some (.dK (kvOf keys get)) ∧ (SqL K H b (ns.map V.str) ∨ SqT K H b (ns.map V.str)) ∧ ns.Nodup ∧ (∀ n ∈ ns, n ∈ keys) ∧ Str.ofString "" ∉ ns ∧ ns.length ≤ 1000 ∧
  ∀ r H', Same H H' → H r = none → H' r = some (.dK (kvOf (keptKeys keys ns) get)) → Q (.ref r) H'
theorem ok_restrict {f : Addr} {fd : FuncData} (F : Fun K "restrict" "restrict" s_restrict f fd) : FnOk P w K mg base CX0 1 f fd ["assignment", "names"] (spRestrict K) := by
  refine F.ok sc_restrict (fun vs H Q E h => ?_) (fun cdv A outer s H vs Q E hr h => ?_)
  · obtain ⟨a, b, keys, get, ns, rfl, _⟩ := h
    rfl
  · obtain ⟨a, b, keys, get, ns, rfl, ha, hb, nd, hin, h0, hl, q⟩ := h
    have hu := hu_of hr
    refine ⟨_, (pss_cons (ps_setDc (i := 2) (own := [("name", 3)]) (tt := tYes) rfl sc_restrict.nd rfl rfl (sw_trueD rfl rfl rfl (by decide +kernel)) (pi_seq (pv 1)) (blkOk_by (N := n_restrict) (sc := defScope s_restrict) (by decide +kernel)) (fun _ _ _ _ _ => pg_name (i := 3) sc_restrict.nd rfl (Or.inl rfl)) (fun _ _ _ _ _ => pts_nil) (fun _ _ _ _ _ => (pv 3)) (fun _ _ _ _ _ => (pe_dget hu (pv 0) (pv 3) (fun _ _ => rfl))))
    (pss_cons (ps_if (pt_cmp (pc_din hu pe_str (pv 0)))
      (pss_one (ps_dput hu (pv 2) pe_str (pe_dget hu (pv 0) pe_str (fun _ _ => rfl)) rfl))
      pss_nil)
    (pss_one (ps_ret (pv 2))))), ?_⟩
    walk_at "rd"
    refine seq_case hb fun J G wk hG => ?_
    intro D hD
    refine walk_any wk (fun i H' => H' D = some (.dK (kvOf (ns.take i) get)) ∧ Same H H') ⟨upd_same, same_new hD⟩ (fun i H' _ h => hG H' h.2) ?_ ?_
    · rintro i x H1 H2 hi ⟨hd, hs⟩ ⟨rfl, hx⟩
      obtain ⟨n, hn, rfl⟩ := at_map hx
      have hni : n ∉ ns.take i := fun z => by
        obtain ⟨j, hj⟩ := List.mem_iff_getElem?.mp z
        rw [List.getElem?_take] at hj
        split at hj
        · rename_i hji
          obtain ⟨i1, e1⟩ := List.getElem?_eq_some_iff.mp hj
          obtain ⟨i2, e2⟩ := List.getElem?_eq_some_iff.mp hn
          exact List.pairwise_iff_getElem.mp nd j i i1 i2 hji (e1.trans e2.symm)
        · cases hj
      refine ⟨rfl, ?_⟩
      walk_at "rd"
      refine ⟨a, _, rfl, (kv_in (get := get) (hin n (List.mem_of_getElem? hn))) ▸ DGet.k (k := Sum.inr n) (hs _ _ ha), ?_⟩
      refine ⟨_, Sum.inr n, rfl, hd, ?_, ?_, same_at hD hs⟩
      · rw [kv_len, List.length_take]
        exact szl (by omega)
      · rw [upd_same, kv_put_same hni, List.take_add_one, hn]
        rfl
    · rintro H1 ⟨hd, hs⟩
      rw [List.length_map, List.take_length] at hd
      have ha1 := hs _ _ ha
      walk_at "rd"
      refine ⟨a, _, rfl, DGet.k (k := Sum.inr (Str.ofString "")) ha1, ?_⟩
      walk_at "rd"
      by_cases h : Str.ofString "" ∈ keys
      · rw [kv_in h]
        walk_at "rd"
        refine ⟨a, _, rfl, (kv_in (get := get) h) ▸ DGet.k (k := Sum.inr (Str.ofString "")) ha1, ?_⟩
        walk_at "rd"
        refine ⟨D, _, rfl, .inl ⟨_, Sum.inr (Str.ofString ""), hd, rfl, by rw [kv_len]; exact szl (by omega), rfl⟩, ?_⟩
        walk_at "rd"
        refine q D _ (same_at hD hs) hD ?_
        rw [upd_same, kv_put_same h0]
        unfold keptKeys
        rw [if_pos h]
      · rw [kv_out h]
        walk_at "rd"
        refine q D _ hs hD ?_
        unfold keptKeys
        rw [if_neg h, List.append_nil]
        exact hd
end
end K01
namespace K01
local macro_rules | `(tactic| walk_at "rd") => `(tactic| repeat (first | refine ⟨rfl, ?_⟩ | refine ⟨_, rfl, ?_⟩ | refine ⟨_, _, rfl, rfl, ?_⟩ | refine ⟨⟨_, rfl⟩, ?_⟩))
open PySem PySem.Spec PyProof.Rows L2 Bx TL Dx
section
variable {P : Program} {w : World} {K : PySem.W.Frag} {mg : Str → Option Value} {base : Heap}
/-! ### the pool, some of a list -/
def poolS : List Str := [Str.ofString "a", Str.ofString "a.b", Str.ofString "a1", Str.ofString "ab", Str.ofString "b", Str.ofString "c.a.z9", Str.ofString "ca", Str.ofString "zzzzzzz9"]
theorem pool_ok : ∀ s ∈ poolS, PyData.strOk s = true := by decide +kernel
theorem pool_asc : Asc poolS := asc_of (by decide +kernel) (by decide +kernel)
theorem pool_len : poolS.length = 8 := rfl
def spPool : Sp := fun vs H Q _ => vs = [] ∧ ∀ p, H p = none → Q (.ref p) (upd H p (.lst (poolS.map V.str)))
theorem ok_pool {f : Addr} {fd : FuncData} (F : Fun K "_law_pool" "_law_pool" s__law_pool f fd) : FnOk P w K mg base CX0 1 f fd [] spPool := by
  refine F.ok sc__law_pool (fun vs H Q E h => ?_) (fun cdv A outer s H vs Q E hr h => ?_)
  · rw [h.1]
    rfl
  · obtain ⟨rfl, q⟩ := h
    refine ⟨_, (pss_one (ps_ret (pe_lst (pa_cons pe_str (pa_cons pe_str (pa_cons pe_str (pa_cons pe_str (pa_cons pe_str (pa_cons pe_str (pa_cons pe_str (pa_cons pe_str pa_nil))))))))))), ?_⟩
    walk_at "rd"
    exact ⟨sz (by show 8 ≤ 100000; decide), fun p np => q p np⟩
def spSome (K : PySem.W.Frag) : Sp := fun vs H Q _ => ∃ (a b : Addr) (ns : List Str) (share : Int), vs = [.ref a, .ref b, .int share] ∧ Src H a ∧ SqL K H b (ns.map V.str) ∧ a ≠ b ∧ 0 < share ∧ share < 1073741824 ∧ ns.length ≤ 1000 ∧
  ∀ (r : Addr) (H' : Hp) (ys : List Str), SameBut a H H' → Src H' a → H r = none → H' r = some (.lst (ys.map V.str)) → ys.Sublist ns → Q (.ref r) H'
theorem but_seq {H H' : Hp} {a b : Addr} {xs : List V} (s : SameBut a H H') (n : a ≠ b) (h : SqL K H b xs) : SqL K H' b xs := by
  rcases h with (h | ⟨o, h⟩) | h
  · exact .inl (.inl (s _ _ n.symm h))
  · exact .inl (.inr ⟨o, s _ _ n.symm h⟩)
  · exact .inr h
theorem but_new {a : Addr} {H H2 : Hp} {p : Addr} {o : HO} (h : H p = none) (s : SameBut a H H2) : SameBut a H (upd H2 p o) := fun b x n e => by
  rw [upd_ne (ne_of_none e h)]
  exact s b x n e
theorem src_ne {H : Hp} {a D : Addr} (h : Src H a) (n : H D = none) : a ≠ D := by
  obtain ⟨x, y, h⟩ := h
  exact ne_of_none h n
theorem src_upd {H : Hp} {a D : Addr} {o : HO} (h : Src H a) (n : a ≠ D) : Src (upd H D o) a := by
  obtain ⟨x, y, h⟩ := h
  exact ⟨x, y, by rw [upd_ne n]; exact h⟩
theorem ok_some {f : Addr} {fd : FuncData} (F : Fun K "_law_some" "_law_some" s__law_some f fd) (C__law_draw : Cal P w K mg base "_law_draw" 1 ["_law_source_here", "_law_limit"] spDraw) : FnOk P w K mg base CX0 2 f fd ["_law_source_here", "_law_names", "_law_share"] (spSome K) := by
  refine F.ok sc__law_some (fun vs H Q E h => ?_) (fun cdv A outer s H vs Q E hr h => ?_)
  · obtain ⟨a, b, ns, share, rfl, _⟩ := h
    rfl
  · obtain ⟨a, b, ns, share, rfl, hA, hb, nab, h0, h1, hl, q⟩ := h
    refine ⟨_, (pss_one (ps_ret (pe_lc (own := [("_law_name", 3)]) rfl sc__law_some.nd (pi_list (pv 1)) (blkOk_by (N := n__law_some) (sc := defScope s__law_some) (by decide +kernel)) (fun _ _ _ _ _ => pg_name (i := 3) sc__law_some.nd rfl (Or.inl rfl)) (fun _ _ _ _ _ => pts_one (pt_cmpR op_eq (pe_cal C__law_draw (hr.mono (by decide)) (pa_cons (pv 0) (pa_cons (pv 2) pa_nil))) pe_int (nomark _))) (fun _ _ _ _ _ => (pv 3))))), ?_⟩
    walk_at "rd"
    refine ⟨⟨_, hb⟩, fun D hD => ?_⟩
    have naD := src_ne hA hD
    refine lc_it walk_list (fun i H' => ∃ ys : List Str, H' D = some (.lst (ys.map V.str)) ∧ ys.Sublist (ns.take i) ∧ SameBut a H H' ∧ Src H' a) ⟨[], upd_same, List.Sublist.refl _, but_new hD (SameBut.refl a H), src_upd hA naD⟩ (fun i H' _ ⟨_, _, _, s, _⟩ => but_seq s nab hb) ?_ ?_
    · rintro i x H1 H2 hi ⟨ys, hd, hs, b1, A1⟩ ⟨rfl, hx⟩
      obtain ⟨n, hn, rfl⟩ := at_map hx
      rw [List.length_map] at hi
      refine ⟨rfl, ?_⟩
      walk_at "rd"
      refine draw_of (lim := share) A1 ⟨h0, h1⟩ fun r H3 _ _ b3 A3 => ?_
      walk_at "rd"
      have hd3 : H3 D = some (.lst (ys.map V.str)) := b3 _ _ naD.symm hd
      have ysl : ys.length ≤ i := by
        have := hs.length_le
        rw [List.length_take] at this
        omega
      have htk : ns.take (i + 1) = ns.take i ++ [n] := by rw [List.take_add_one, hn]; rfl
      refine ite2 (fun hb => ?_) (fun hb => ?_)
      · walk_at "rd"
        refine ⟨_, hd3, by rw [List.length_map]; exact szl (by omega), ys ++ [n], by rw [upd_same, List.map_append]; rfl, ?_, but_new hD (b1.trans b3), src_upd A3 naD⟩
        rw [htk]
        exact hs.append (List.Sublist.refl _)
      · refine ⟨ys, hd3, ?_, b1.trans b3, A3⟩
        rw [htk]
        exact hs.trans (List.sublist_append_left _ _)
    · rintro H1 ⟨ys, hd, hs, b1, A1⟩
      rw [List.length_map, List.take_length] at hs
      exact q D H1 ys b1 A1 hD hd hs

/-! ### the union of lists of names, in the order of the pool -/
def unionS (LL : List (List Str)) : List Str := poolS.filter fun x => LL.any fun l => decide (x ∈ l)
theorem union_asc (LL : List (List Str)) : Asc (unionS LL) := List.Pairwise.sublist List.filter_sublist pool_asc
theorem union_mem {LL : List (List Str)} {x : Str} : x ∈ unionS LL ↔ x ∈ poolS ∧ ∃ l ∈ LL, x ∈ l := by
  unfold unionS
  rw [List.mem_filter, List.any_eq_true]
  refine and_congr_right fun _ => exists_congr fun l => and_congr_right fun _ => decide_eq_true_iff
def spUnion (K : PySem.W.Frag) : Sp := fun vs H Q _ => ∃ (b : Addr) (L : List (Addr × List Str)), vs = [.ref b] ∧ SqL K H b (L.map fun q => V.ref q.1) ∧ (∀ q ∈ L, SqL K H q.1 (q.2.map V.str) ∨ SqT K H q.1 (q.2.map V.str)) ∧
  ∀ (r : Addr) (H' : Hp), Same H H' → H r = none → H' r = some (.tup ((unionS (L.map fun q => q.2)).map V.str)) → Q (.ref r) H'
theorem ok_union {f : Addr} {fd : FuncData} (F : Fun K "_law_union" "_law_union" s__law_union f fd) (m_tuple : mg "tuple" = none) (C__law_pool : Cal P w K mg base "_law_pool" 1 [] spPool) : FnOk P w K mg base CX0 2 f fd ["_law_lists"] (spUnion K) := by
  refine F.ok sc__law_union (fun vs H Q E h => ?_) (fun cdv A outer s H vs Q E hr h => ?_)
  · obtain ⟨b, L, rfl, _⟩ := h
    rfl
  · obtain ⟨b, L, rfl, hb, hL, q⟩ := h
    refine ⟨_, (pss_cons (ps_set (i := 1) sc__law_union.nd rfl (Or.inl rfl) (pe_lst pa_nil))
    (pss_cons (ps_for PassesOwn.never rfl (pi_list (pe_cal0 C__law_pool (hr.mono (by decide)))) (pg_name (i := 2) sc__law_union.nd rfl (Or.inl rfl))
      (pss_one (ps_for PassesOwn.never rfl (pi_list (pv 0)) (pg_name (i := 3) sc__law_union.nd rfl (Or.inl rfl))
      (pss_one (ps_if (PW.pt (pw_and (pt_cmpR op_in_seq (pv 2) (pv 3) (by rfl)) (pw_and1 (pt_cmpR op_notIn_seq (pv 2) (pv 1) (by rfl)))))
      (pss_one (ps_expr (pe_bm PySem.F.plainAttrs_list PySem.F.slot_list_append PySem.F.type_list_append mt_append (pv 1) (pa_cons (pv 2) pa_nil))))
      pss_nil)))))
    (pss_one (ps_ret (pe_callTy (T := "tuple") call_tuple_of (by rfl) m_tuple (by decide +kernel) (pa_cons (pv 1) pa_nil)))))), ?_⟩
    walk_at "rd"
    refine ⟨sz (by show 0 ≤ 100000; decide), fun o ho => ?_⟩
    walk_at "rd"
    intro p np
    have sp1 : Same H (upd (upd H o (.lst [])) p (.lst (poolS.map V.str))) := same_at ho (Same.refl H) |>.trans (same_new np)
    have nop : o ≠ p := ne_of_none (show (upd H o (.lst [])) o = _ from upd_same) np
    refine ⟨p, rfl, ⟨_, sq upd_same⟩, for_list (K := K) (a := p) (xs := poolS.map V.str) (fun i σ H' => ∃ y2 y3 : Option V, σ = [some (.ref b), some (.ref o), y2, y3] ∧ H' o = some (.lst (((poolS.take i).filter fun x => (L.map fun q => q.2).any fun l => decide (x ∈ l)).map V.str)) ∧ H' p = some (.lst (poolS.map V.str)) ∧ Same H H')
      ⟨none, none, rfl, by rw [upd_ne nop, upd_same]; rfl, upd_same, sp1⟩ (fun i σ H' _ ⟨_, _, _, _, h, _⟩ => sq h) ?_ ?_⟩
    · rintro i x σ H1 hx ⟨y2, y3, rfl, hf, hp, hs⟩
      obtain ⟨n, hn, rfl⟩ := at_map hx
      walk_at "rd"
      refine ⟨⟨_, hs.seq hb⟩, for_list (K := K) (a := b) (xs := L.map fun q => V.ref q.1) (fun j σ H' => ∃ y3 : Option V, σ = [some (.ref b), some (.ref o), some (.str n), y3] ∧
        H' o = some (.lst ((((poolS.take i).filter fun x => (L.map fun q => q.2).any fun l => decide (x ∈ l)) ++ if ((L.take j).map fun q => q.2).any (fun l => decide (n ∈ l)) = true then [n] else []).map V.str)) ∧ H' p = some (.lst (poolS.map V.str)) ∧ Same H H')
        ⟨y3, rfl, by rw [List.take_zero, List.map_nil, List.any_nil, if_neg (by decide), List.append_nil]; exact hf, hp, hs⟩ (fun j σ H' _ ⟨_, _, _, _, s⟩ => s.seq hb) ?_ ?_⟩
      · rintro j x σ H2 hx ⟨y3, rfl, hf, hp, hs⟩
        obtain ⟨y, hy, rfl⟩ := at_map hx
        walk_at "rd"
        have hy2 := (hL y (List.mem_of_getElem? hy)).imp hs.seq (Bx.Same.tup hs)
        have hnew : n ∉ (poolS.take i).filter fun x => (L.map fun q => q.2).any fun l => decide (x ∈ l) := fun z => by
          have z := (List.mem_filter.mp z).1
          obtain ⟨k, hk⟩ := List.mem_iff_getElem?.mp z
          rw [List.getElem?_take] at hk
          split at hk
          · rename_i hki
            obtain ⟨i1, e1⟩ := List.getElem?_eq_some_iff.mp hk
            obtain ⟨i2, e2⟩ := List.getElem?_eq_some_iff.mp hn
            exact List.pairwise_iff_getElem.mp (asc_nodup pool_asc) k i i1 i2 hki (e1.trans e2.symm)
          · cases hk
        have htk : ((L.take (j + 1)).map fun q => q.2).any (fun l => decide (n ∈ l)) = (((L.take j).map fun q => q.2).any (fun l => decide (n ∈ l)) || decide (n ∈ y.2)) := by
          rw [List.take_add_one, hy, List.map_append, List.any_append]
          simp
        refine ⟨_, _, rfl, hy2, rfl, flat_all _, ?_⟩
        rw [inV_str]
        refine ⟨_, rfl, ?_⟩
        refine ite2 (fun h1 => ?_) (fun h1 => ?_)
        · walk_at "rd"
          refine ⟨_, _, rfl, .inl (sq hf), rfl, flat_all _, ?_⟩
          rw [inV_str]
          refine ⟨_, rfl, ?_⟩
          refine ite2 (fun h2 => ?_) (fun h2 => ?_)
          · walk_at "rd"
            have h3 : ¬ (((L.take j).map fun q => q.2).any (fun l => decide (n ∈ l)) = true) := fun z => by
              rw [if_pos z] at h2
              simp at h2
            refine ⟨.inl ⟨rfl, _, sq hf⟩, ?_⟩
            walk_at "rd"
            refine ⟨_, _, _, rfl, rfl, hf, ?_, ?_⟩
            · rw [List.length_map, List.length_append, if_neg h3]
              refine szl ?_
              have e1 : ((poolS.take i).filter fun x => (L.map fun q => q.2).any fun l => decide (x ∈ l)).length ≤ (poolS.take i).length := List.length_filter_le ..
              rw [List.length_take, pool_len] at e1
              show _ + 0 < _
              omega
            · refine ⟨_, rfl, ?_, by rw [upd_ne nop.symm]; exact hp, ?_⟩
              · have h1 : decide (n ∈ y.2) = true := h1
                rw [upd_same, htk, h1, Bool.or_true, if_pos rfl, if_neg h3, List.append_nil, List.map_append]
                rfl
              · exact same_at ho hs
          · have h3 : ((L.take j).map fun q => q.2).any (fun l => decide (n ∈ l)) = true := by
              refine Decidable.byContradiction fun z => h2 ?_
              rw [if_neg z, List.append_nil, decide_eq_false hnew]
              rfl
            refine ⟨_, rfl, ?_, hp, hs⟩
            rw [htk, h3, Bool.true_or]
            rw [h3] at hf
            exact hf
        · have h1 : ¬ (decide (n ∈ y.2) = true) := h1
          refine ⟨_, rfl, ?_, hp, hs⟩
          rw [htk, Bool.eq_false_iff.mpr h1, Bool.or_false]
          exact hf
      · rintro σ H2 ⟨y3, rfl, hf, hp, hs⟩
        refine ⟨_, _, rfl, ?_, hp, hs⟩
        rw [List.length_map, List.take_length] at hf
        rw [List.take_add_one, hn, List.filter_append]
        show _ = some (HO.lst (((_ : List Str) ++ List.filter _ [n]).map V.str))
        rw [List.filter_cons, List.filter_nil]
        exact hf
    · rintro σ H1 ⟨y2, y3, rfl, hf, hp, hs⟩
      walk_at "rd"
      refine ⟨_, _, rfl, .inl ⟨sq hf, fun r nr => ?_⟩⟩
      refine q r _ (hs.trans (same_new nr)) (hs.free nr) ?_
      rw [upd_same, show (List.map V.str poolS).length = poolS.length from rfl, List.take_length]
      rfl
end
end K01
namespace K01
local macro_rules | `(tactic| walk_at "rd") => `(tactic| repeat (first | refine ⟨rfl, ?_⟩ | refine ⟨_, rfl, ?_⟩ | refine ⟨_, _, rfl, rfl, ?_⟩ | refine ⟨⟨_, rfl⟩, ?_⟩))
open PySem PySem.Spec PyProof.Rows L2 Bx TL Dx
section
variable {P : Program} {w : World} {K : PySem.W.Frag} {mg : Str → Option Value} {base : Heap}
/-! ### a theory -/
theorem cut_take (xs : List V) (k : Nat) : cutV xs none (some (k : Int)) = xs.take k := by
  unfold cutV
  rw [HT.sIx_none, HT.sIx_nat, List.drop_zero, Nat.sub_zero]
  rw [List.take_eq_take_iff]
  omega
theorem da_perm {H : Hp} {xs ys : List V} (p : ys.Perm xs) : ∀ {ds : List PyData}, DpAll K H xs ds → ∃ es, es.Perm ds ∧ DpAll K H ys es := by
  induction p with
  | nil =>
    intro ds h
    cases h
    exact ⟨[], .nil, .nil⟩
  | cons x p ih =>
    intro ds h
    cases h with
    | cons h t =>
      obtain ⟨es, e1, e2⟩ := ih t
      exact ⟨_ :: es, e1.cons _, .cons h e2⟩
  | swap x y l =>
    intro ds h
    cases h with
    | cons h t =>
      cases t with
      | cons h2 t => exact ⟨_, List.Perm.swap _ _ _, .cons h2 (.cons h t)⟩
  | trans p1 p2 ih1 ih2 =>
    intro ds h
    obtain ⟨es, e1, e2⟩ := ih2 h
    obtain ⟨fs, f1, f2⟩ := ih1 e2
    exact ⟨fs, f1.trans e1, f2⟩
def rowD (ns : List Int) : PyData := .tuple (ns.map PyData.int)
theorem dp_row {H : Hp} {v : V} {ns : List Int} (h : Dp K H v (rowD ns)) : TupI K H v ns := by
  obtain ⟨a, xs, rfl, s, t⟩ := dp_tup h
  rw [da_ints t] at s
  exact ⟨a, rfl, s⟩
theorem row_lay {ns : List Int} : Lay 1 (rowD ns) := lay_tuple lays_ints
def spTheory (K : PySem.W.Frag) : Sp := fun vs H Q _ => ∃ (a : Addr) (S : List Addr), vs = [.ref a] ∧ Src H a ∧ a ∈ S ∧ (∀ b ∈ S, ∃ o, H b = some o) ∧ ∀ (v : V) (H' : Hp) (t : List Str × List PyData), SameBut a H H' → Src H' a → Dp K (mn H' S) v (thD t) → t.1.Sublist poolS → t.2.length ≤ 3 → Lays 3 t.2 → Q v H'
theorem ok_theory {f : Addr} {fd : FuncData} (F : Fun K "_law_theory" "_law_theory" s__law_theory f fd) (m_len : mg "len" = none) (m_range : mg "range" = none) (m_sorted : mg "sorted" = none) (m_tuple : mg "tuple" = none) (C__law_draw : Cal P w K mg base "_law_draw" 1 ["_law_source_here", "_law_limit"] spDraw) (C__law_pool : Cal P w K mg base "_law_pool" 1 [] spPool)
    (C__law_some : Cal P w K mg base "_law_some" 2 ["_law_source_here", "_law_names", "_law_share"] (spSome K)) : FnOk P w K mg base CX0 3 f fd ["_law_source_here"] (spTheory K) := by
  refine F.ok sc__law_theory (fun vs H Q E h => ?_) (fun cdv A outer s H vs Q E hr h => ?_)
  · obtain ⟨a, S, rfl, _⟩ := h
    rfl
  · obtain ⟨a, S, rfl, hA, haS, hS, q⟩ := h
    have out : ∀ {H' : Hp} {t : Addr}, SameBut a H H' → Src H' a → H' t = none → t ∉ S := fun {H' t} b A n z => by
      by_cases e : t = a
      · exact src_ne A n e.symm
      · obtain ⟨o, ho⟩ := hS t z
        rw [b _ _ e ho] at n
        cases n
    refine ⟨_, (pss_cons (ps_set (i := 1) sc__law_theory.nd rfl (Or.inl rfl) (pe_slice sl_list (pe_cal C__law_some (hr.mono (by decide)) (pa_cons (pv 0) (pa_cons (pe_cal0 C__law_pool (hr.mono (by decide))) (pa_cons pe_int pa_nil)))) po_none (po_some pe_int)))
    (pss_cons (ps_set (i := 2) sc__law_theory.nd rfl (Or.inl rfl) (pe_lst pa_nil))
    (pss_cons (ps_for PassesOwn.never rfl (pi_range1 (by rfl) m_range (pa_cons (pe_cal C__law_draw (hr.mono (by decide)) (pa_cons (pv 0) (pa_cons pe_int pa_nil))) pa_nil)) (pg_name (i := 3) sc__law_theory.nd rfl (Or.inl rfl))
      (pss_cons (ps_set (i := 4) sc__law_theory.nd rfl (Or.inl rfl) (pe_slice sl_list (pe_cal C__law_some (hr.mono (by decide)) (pa_cons (pv 0) (pa_cons (pv 1) (pa_cons pe_int pa_nil)))) po_none (po_some pe_int)))
    (pss_cons (ps_set (i := 5) sc__law_theory.nd rfl (Or.inl rfl) (pe_lst pa_nil))
    (pss_cons (ps_for PassesOwn.never rfl (pi_range1 (by rfl) m_range (pa_cons (pe_op op_pow pe_int pe_int) pa_nil)) (pg_name (i := 6) sc__law_theory.nd rfl (Or.inl rfl))
      (pss_cons (ps_set (i := 7) sc__law_theory.nd rfl (Or.inl rfl) (pe_slice sl_list (pe_lst (pa_cons (pe_op op_fdiv (pv 6) pe_int) (pa_cons (pe_op op_mod (pv 6) pe_int) pa_nil))) po_none (po_some (pe_callB call_len_seq (by rfl) m_len PySem.boot_len (pa_cons (pv 4) pa_nil)))))
    (pss_one (ps_if (PW.pt (pw_and (pt_cmpR op_eq (pe_cal C__law_draw (hr.mono (by decide)) (pa_cons (pv 0) (pa_cons pe_int pa_nil))) pe_int (nomark _)) (pw_and1 (pt_cmpR (op_notInD (room hr)) (pe_callTy (T := "tuple") call_tuple_of (by rfl) m_tuple (by decide +kernel) (pa_cons (pv 7) pa_nil)) (pv 5) (by rfl)))))
      (pss_one (ps_expr (pe_bm PySem.F.plainAttrs_list PySem.F.slot_list_append PySem.F.type_list_append mt_append (pv 5) (pa_cons (pe_callTy (T := "tuple") call_tuple_of (by rfl) m_tuple (by decide +kernel) (pa_cons (pv 7) pa_nil)) pa_nil))))
      pss_nil))))
    (pss_one (ps_expr (pe_bm PySem.F.plainAttrs_list PySem.F.slot_list_append PySem.F.type_list_append mt_append (pv 2) (pa_cons (pe_tup (pa_cons (pe_callTy (T := "tuple") call_tuple_of (by rfl) m_tuple (by decide +kernel) (pa_cons (pv 4) pa_nil)) (pa_cons (pe_callTy (T := "tuple") call_tuple_of (by rfl) m_tuple (by decide +kernel) (pa_cons (pe_callB (id := "sorted") Dx.cr_sortRows (by rfl) m_sorted (by decide +kernel) (pa_cons (pv 5) pa_nil)) pa_nil)) pa_nil))) pa_nil))))))))
    (pss_one (ps_ret (pe_tup (pa_cons (pe_callTy (T := "tuple") call_tuple_of (by rfl) m_tuple (by decide +kernel) (pa_cons (pv 1) pa_nil)) (pa_cons (pe_callTy (T := "tuple") call_tuple_of (by rfl) m_tuple (by decide +kernel) (pa_cons (pv 2) pa_nil)) pa_nil)))))))), ?_⟩
    walk_at "rd"
    intro p np
    walk_at "rd"
    refine ⟨a, p, poolS, 2, rfl, src_upd hA (src_ne hA np), sq upd_same, src_ne hA np, by decide, by decide, by decide, fun r H1 ns0 b1 A1 nr hr1 hns => ?_⟩
    have c1 : SameBut a H H1 := (Same.but (same_new np)).trans b1
    walk_at "rd"
    refine ⟨_, _, rfl, sq hr1, fun nL hnL => ?_⟩
    rw [show (5 : Int) = ((5 : Nat) : Int) from rfl, cut_take, ← List.map_take]
    generalize hN : ns0.take 5 = ns
    have hns : ns.Sublist poolS := hN ▸ (List.take_sublist 5 ns0).trans hns
    have hnl : ns.length ≤ 8 := hns.length_le
    have anL : a ≠ nL := src_ne A1 hnL
    walk_at "rd"
    refine ⟨sz (by show 0 ≤ 100000; decide), fun cL hcL => ?_⟩
    have A2 := src_upd (o := .lst (ns.map V.str)) A1 anL
    have acL : a ≠ cL := src_ne A2 hcL
    have ncL : nL ≠ cL := ne_of_none (show (upd H1 nL (.lst (ns.map V.str))) nL = _ from upd_same) hcL
    have A3 := src_upd (o := .lst []) A2 acL
    walk_at "rd"
    refine draw_of (lim := 4) A3 (by decide) fun n H4 hn0 hn1 b4 A4 => ?_
    walk_at "rd"
    refine ⟨by omega, by omega, ?_⟩
    refine for_range (lo := 0) (n := n.toNat) (fun i σ H' => ∃ (y3 y4 y5 y6 y7 : Option V) (us : List V) (cs : List PyData), σ = [some (.ref a), some (.ref nL), some (.ref cL), y3, y4, y5, y6, y7] ∧ H' nL = some (.lst (ns.map V.str)) ∧ H' cL = some (.lst us) ∧ DpAll K (mn H' (cL :: S)) us cs ∧ cs.length = i ∧ Lays 3 cs ∧ SameBut a H H' ∧ Src H' a)
      ⟨none, none, none, none, none, [], [], rfl, b4 _ _ anL.symm (by rw [upd_ne ncL, upd_same]), b4 _ _ acL.symm upd_same, .nil, rfl, lays_nil, c1.trans ((Same.but (Same.trans (same_new hnL) (same_new hcL))).trans b4), A4⟩ ?_ ?_
    · rintro i σ H5 hi ⟨y3, y4, y5, y6, y7, us, cs, rfl, hnl5, hcl5, hda, hcsl, hlay, c5, A5⟩
      walk_at "rd"
      refine ⟨a, nL, ns, 2, rfl, A5, sq hnl5, anL, by decide, by decide, by omega, fun r6 H6 ms0 b6 A6 nr6 hr6 hms => ?_⟩
      walk_at "rd"
      refine ⟨_, _, rfl, sq hr6, fun mL hmL => ?_⟩
      rw [show (2 : Int) = ((2 : Nat) : Int) from rfl, cut_take, ← List.map_take]
      generalize hM : ms0.take 2 = M
      have hMl : M.length ≤ 2 := by
        rw [← hM, List.length_take]
        omega
      have hMs : M.Sublist poolS := hM ▸ ((List.take_sublist 2 ms0).trans hms).trans hns
      have amL : a ≠ mL := src_ne A6 hmL
      walk_at "rd"
      refine ⟨sz (by show 0 ≤ 100000; decide), fun R hR => ?_⟩
      have A7 := src_upd (o := .lst (M.map V.str)) A6 amL
      have aR : a ≠ R := src_ne A7 hR
      have mR : mL ≠ R := ne_of_none (show (upd H6 mL (.lst (M.map V.str))) mL = _ from upd_same) hR
      have A8 := src_upd (o := .lst []) A7 aR
      have b7 : SameBut a H5 (upd (upd H6 mL (.lst (M.map V.str))) R (.lst [])) := b6.trans (Same.but (Same.trans (same_new hmL) (same_new hR)))
      walk_at "rd"
      refine ⟨⟨by decide, by decide, by decide⟩, ?_⟩
      walk_at "rd"
      refine ⟨by decide, by decide, ?_⟩
      refine for_range (lo := 0) (n := 9) (fun j σ H' => ∃ (y6 y7 : Option V) (vs : List V) (rs : List (List Int)), σ = [some (.ref a), some (.ref nL), some (.ref cL), some (.int (0 + (i : Nat))), some (.ref mL), some (.ref R), y6, y7] ∧ H' mL = some (.lst (M.map V.str)) ∧ H' R = some (.lst vs) ∧ DpAll K (mn H' (R :: cL :: S)) vs (rs.map rowD) ∧
        (∀ ns ∈ rs, ns.length = M.length ∧ TS.Bd 3 ns) ∧ (M.length = 0 → rs.length ≤ 1) ∧ rs.length ≤ j ∧ SameBut a H5 H' ∧ Src H' a) ⟨y6, y7, [], [], rfl, by rw [upd_ne mR, upd_same], upd_same, .nil, (fun _ h => by cases h), (fun _ => Nat.zero_le _), Nat.zero_le _, b7, A8⟩ ?_ ?_
      · rintro j σ H9 hj ⟨y6, y7, vs, rs, rfl, hm9, hR9, hd9, hrs, hz, hrl, b9, A9⟩
        walk_at "rd"
        refine ⟨⟨by decide, by decide⟩, ?_⟩
        walk_at "rd"
        refine ⟨by show (0 : Int) < 3; decide, ?_⟩
        walk_at "rd"
        refine ⟨sz (by show 2 ≤ 100000; decide), fun l nl => ?_⟩
        walk_at "rd"
        have ml : mL ≠ l := ne_of_none hm9 nl
        refine ⟨_, _, rfl, .inl (sq (by rw [upd_ne ml]; exact hm9)), ?_⟩
        walk_at "rd"
        refine ⟨_, _, rfl, sq upd_same, fun l2 nl2 => ?_⟩
        rw [List.length_map, cut_take]
        generalize hw : [((0 : Int) + (j : Nat)) / 3, ((0 : Int) + (j : Nat)) % 3].take M.length = rw0
        have hwV : [V.int (((0 : Int) + (j : Nat)) / 3), V.int (((0 : Int) + (j : Nat)) % 3)].take M.length = rw0.map V.int := by
          rw [← hw, List.map_take]
          rfl
        have hwl : rw0.length = M.length := by
          rw [← hw, List.length_take]
          show min M.length 2 = M.length
          omega
        have hwB : TS.Bd 3 rw0 := fun m hm => by
          rw [← hw] at hm
          have hm := List.mem_of_mem_take hm
          rcases List.mem_cons.mp hm with e | e
          · rw [e]
            omega
          · rw [List.mem_singleton.mp e]
            omega
        rw [hwV]
        have A10 := src_upd (o := .lst (rw0.map V.int)) (src_upd (o := .lst [V.int (((0 : Int) + (j : Nat)) / 3), V.int (((0 : Int) + (j : Nat)) % 3)]) A9 (src_ne A9 nl)) (src_ne (src_upd A9 (src_ne A9 nl)) nl2)
        generalize hH10 : upd (upd H9 l (.lst [V.int (((0 : Int) + (j : Nat)) / 3), V.int (((0 : Int) + (j : Nat)) % 3)])) l2 (.lst (rw0.map V.int)) = H10 at A10
        have s10 : Same H9 H10 := hH10 ▸ Same.trans (same_new nl) (same_new nl2)
        have hl2 : H10 l2 = some (.lst (rw0.map V.int)) := by
          rw [← hH10]
          exact upd_same
        have al2 : a ≠ l2 := src_ne (src_upd A9 (src_ne A9 nl)) nl2
        walk_at "rd"
        refine draw_of (lim := 2) A10 (by decide) fun n2 H11 _ _ b11 A11 => ?_
        have hl11 := b11 _ _ al2.symm hl2
        have hR11 := b11 _ _ aR.symm (s10 _ _ hR9)
        have hm11 := b11 _ _ amL.symm (s10 _ _ hm9)
        have d11 := dpAll_same (Same.trans (mn_all (S := R :: cL :: S) s10) (mn_but (S := R :: cL :: S) (List.mem_cons_of_mem _ (List.mem_cons_of_mem _ haS)) b11)) hd9
        have b5_11 := b9.trans ((Same.but s10).trans b11)
        walk_at "rd"
        refine ite2 (fun h1 => ?_) (fun h1 => ?_)
        · walk_at "rd"
          refine ⟨_, _, rfl, .inl ⟨sq hl11, fun t nt => ?_⟩⟩
          have sT : Same H11 (upd H11 t (.tup (rw0.map V.int))) := same_new nt
          walk_at "rd"
          refine ⟨rowD rw0, rs.map rowD, .tup (sqt upd_same) (dp_ints _), .lst (sq (sT _ _ hR11)) (dpAll_same (Same.trans mn_same sT) d11), shape (n := 1) row_lay (by decide), shape (n := 2) (lay_list (lays_of fun d hd => ?_)) (by decide), ?_⟩
          · obtain ⟨x, _, rfl⟩ := List.mem_map.mp hd
            exact row_lay
          walk_at "rd"
          refine ite2 (fun h2 => ?_) (fun h2 => ?_)
          · walk_at "rd"
            refine ⟨.inl ⟨rfl, _, sq (sT _ _ hR11)⟩, ?_⟩
            walk_at "rd"
            refine ⟨_, _, rfl, .inl ⟨sq (sT _ _ hl11), fun t2 nt2 => ?_⟩⟩
            have sT2 : Same H11 (upd (upd H11 t (.tup (rw0.map V.int))) t2 (.tup (rw0.map V.int))) := Same.trans sT (same_new nt2)
            refine ⟨_, _, _, rfl, rfl, sT2 _ _ hR11, ?_, ?_⟩
            · rw [da_len d11, List.length_map]
              exact szl (by omega)
            have t2a : t2 ≠ a := (src_ne (src_upd A11 (src_ne A11 nt)) nt2).symm
            have t2R : t2 ≠ R := (ne_of_none (sT _ _ hR11) nt2).symm
            have hcl9 : ∃ us, H11 cL = some (.lst us) := ⟨us, b11 _ _ acL.symm (s10 _ _ (b9 _ _ acL.symm hcl5))⟩
            have t2c : t2 ≠ cL := by
              obtain ⟨us, e⟩ := hcl9
              exact (ne_of_none (sT _ _ e) nt2).symm
            have hRne : H5 R = none := by
              cases e : H5 R with
              | none => rfl
              | some o =>
                have z := (same_new (o := .lst (M.map V.str)) hmL) _ _ (b6 _ _ aR.symm e)
                rw [hR] at z
                cases z
            refine ⟨_, _, _, rs ++ [rw0], rfl, ?_, upd_same, ?_, ?_, ?_, ?_, ?_, ?_⟩
            · rw [upd_ne mR]
              exact sT2 _ _ hm11
            · rw [mn_upd (S := R :: cL :: S) List.mem_cons_self, List.map_append]
              refine da_app (dpAll_same (mn_all sT2) d11) (da_one ?_)
              refine .tup (sqt (xs := rw0.map V.int) ?_) (dp_ints _)
              rw [mn_out (by simp [t2c, t2R]; exact out (b5_11.trans (Same.but sT) |> c5.trans) (src_upd A11 (src_ne A11 nt)) nt2), upd_same]
            · intro x hx
              rcases List.mem_append.mp hx with h | h
              · exact hrs x h
              · rw [List.mem_singleton.mp h]
                exact ⟨hwl, hwB⟩
            · intro hM0
              have e : rs = [] := by
                cases rs with
                | nil => rfl
                | cons r0 rs' =>
                  have l0 := (hrs r0 List.mem_cons_self).1
                  rw [hM0] at l0 hwl
                  rw [List.length_eq_zero_iff.mp l0, List.length_eq_zero_iff.mp hwl] at h2
                  exact absurd h2 (by
                    rw [List.map_cons, List.any_cons, show PyData.eqv (rowD []) (rowD []) = true from eq_refl (n := 1) row_lay]
                    simp)
              rw [e]
              exact Nat.le_refl _
            · rw [List.length_append]
              show rs.length + 1 ≤ j + 1
              omega
            · refine fun b o n e => ?_
              rw [upd_ne (ne_of_none e hRne)]
              exact sT2 _ _ (b5_11 _ _ n e)
            · exact src_upd (src_upd (src_upd A11 (src_ne A11 nt)) t2a.symm) aR
          · exact ⟨_, _, vs, rs, rfl, sT _ _ hm11, sT _ _ hR11, dpAll_same (mn_all sT) d11, hrs, hz, by omega, b5_11.trans (Same.but sT), src_upd A11 (src_ne A11 nt)⟩
        · exact ⟨_, _, vs, rs, rfl, hm11, hR11, d11, hrs, hz, by omega, b5_11, A11⟩
      · rintro σ H9 ⟨y6, y7, vs, rs, rfl, hm9, hR9, hd9, hrs, hz, hrl, b9, A9⟩
        have hnl9 := b9 _ _ anL.symm hnl5
        have hcl9 := b9 _ _ acL.symm hcl5
        have d5 := dpAll_same (mn_but (S := cL :: S) (List.mem_cons_of_mem _ haS) b9) hda
        walk_at "rd"
        refine ⟨.inl ⟨rfl, _, sq hcl9⟩, ?_⟩
        walk_at "rd"
        refine ⟨_, _, rfl, .inl ⟨sq hm9, fun t nt => ?_⟩⟩
        have sT : Same H9 (upd H9 t (.tup (M.map V.str))) := same_new nt
        have dr := dpAll_same (mn_all sT) hd9
        have dr0 := dpAll_same mn_same dr
        walk_at "rd"
        refine ⟨R, vs, M.length, 3, rfl, sq (sT _ _ hR9), ?_, ?_, ?_, fun ys p2 pm np2 => ?_⟩
        · rw [da_len hd9, List.length_map]
          omega
        · intro x hx
          obtain ⟨k, hk⟩ := List.mem_iff_getElem?.mp hx
          obtain ⟨d, hd, hxd⟩ := da_at dr0 hk
          obtain ⟨ns1, hn1, rfl⟩ : ∃ ns1, rs[k]? = some ns1 ∧ d = rowD ns1 := by
            rw [List.getElem?_map] at hd
            cases e : rs[k]? with
            | none =>
              rw [e] at hd
              cases hd
            | some y =>
              rw [e] at hd
              exact ⟨y, rfl, (Option.some.inj hd).symm⟩
          have z := hrs ns1 (List.mem_of_getElem? hn1)
          exact ⟨ns1, dp_row hxd, z.1, z.2⟩
        · intro e
          rw [da_len hd9, List.length_map]
          exact hz e
        obtain ⟨es, pe, de⟩ := da_perm pm dr
        have sT2 := Same.trans sT (same_new np2 (o := .lst ys))
        walk_at "rd"
        refine ⟨_, _, rfl, .inl ⟨sq upd_same, fun t3 nt3 => ?_⟩⟩
        have sT3 := Same.trans sT2 (same_new nt3 (o := .tup ys))
        walk_at "rd"
        refine ⟨sz (by show 2 ≤ 100000; decide), fun t4 nt4 => ?_⟩
        walk_at "rd"
        generalize hH10 : upd (upd (upd (upd H9 t (.tup (M.map V.str))) p2 (.lst ys)) t3 (.tup ys)) t4 (.tup [.ref t, .ref t3]) = H10
        have sT4 : Same H9 H10 := hH10 ▸ Same.trans sT3 (same_new nt4)
        have c9 := c5.trans b9
        have cons : ∀ {b : Addr}, b ≠ cL → b ∉ S → b ∉ cL :: S := fun h1 h2 z => (List.mem_cons.mp z).elim h1 h2
        have srcS : ∀ {H' : Hp}, Same H9 H' → Src H' a := fun s => by
          obtain ⟨x, y, e⟩ := A9
          exact ⟨x, y, s _ _ e⟩
        have hta : t ∉ cL :: S := cons (ne_of_none hcl9 nt).symm (out c9 A9 nt)
        have ht3a : t3 ∉ cL :: S := cons (ne_of_none (sT2 _ _ hcl9) nt3).symm (out (c9.trans (Same.but sT2)) (srcS sT2) nt3)
        have ht4a : t4 ∉ cL :: S := cons (ne_of_none (sT3 _ _ hcl9) nt4).symm (out (c9.trans (Same.but sT3)) (srcS sT3) nt4)
        have e4 : H10 t4 = some (.tup [.ref t, .ref t3]) := by rw [← hH10]; exact upd_same
        have e3 : H10 t3 = some (.tup ys) := by
          rw [← hH10]
          exact (same_new nt4) _ _ upd_same
        have e1 : H10 t = some (.tup (M.map V.str)) := by
          rw [← hH10]
          exact (Same.trans (Same.trans (same_new np2) (same_new nt3)) (same_new nt4)) _ _ upd_same
        have sR : Same (mn (upd H9 t (.tup (M.map V.str))) (R :: cL :: S)) (mn H10 (cL :: S)) := by
          refine Same.trans (mn_all (?_ : Same _ H10)) (mn_sub fun b hb => List.mem_cons_of_mem _ hb)
          rw [← hH10]
          exact Same.trans (Same.trans (same_new np2) (same_new nt3)) (same_new nt4)
        have dcon : Dp K (mn H10 (cL :: S)) (.ref t4) (.tuple [.tuple (M.map PyData.str), .tuple es]) :=
          .tup (sqt (mn_at ht4a e4)) (.cons (names_dp (sqt (mn_at hta e1))) (da_one (.tup (sqt (mn_at ht3a e3)) (dpAll_same sR de))))
        have lcon : Lay 3 (.tuple [.tuple (M.map PyData.str), .tuple es]) := by
          refine lay_tuple (lays_cons (lay_tuple (lays_up (lays_strs (n := 0) fun x hx => pool_ok x (hMs.subset hx)) (by decide))) (lays_cons (lay_tuple (lays_of fun d hd => ?_)) lays_nil))
          obtain ⟨x, _, rfl⟩ := List.mem_map.mp (pe.subset hd)
          exact row_lay
        refine ⟨_, _, _, rfl, rfl, sT4 _ _ hcl9, ?_, ?_⟩
        · rw [da_len hda, hcsl]
          exact szl (by omega)
        refine ⟨_, _, _, _, _, _, cs ++ [PyData.tuple [.tuple (M.map PyData.str), .tuple es]], rfl, ?_, upd_same, ?_, ?_, lays_of fun d hd => ?_, ?_, ?_⟩
        · rw [upd_ne ncL]
          exact sT4 _ _ hnl9
        · rw [mn_upd (S := cL :: S) List.mem_cons_self]
          exact da_app (dpAll_same (mn_all sT4) d5) (da_one dcon)
        · rw [List.length_append, hcsl]
          rfl
        · rcases List.mem_append.mp hd with h | h
          · exact lays_mem hlay d h
          · rw [List.mem_singleton.mp h]
            exact lcon
        · refine fun b o n e => ?_
          have z := (same_new (o := .lst (ns.map V.str)) hnL) _ _ (c1 _ _ n e)
          rw [upd_ne (ne_of_none z hcL)]
          exact sT4 _ _ (b9 _ _ n (c5 _ _ n e))
        · obtain ⟨x, y, e⟩ := A9
          exact ⟨x, y, by rw [upd_ne acL]; exact sT4 _ _ e⟩
    · rintro σ H5 ⟨y3, y4, y5, y6, y7, us, cs, rfl, hnl5, hcl5, hda, hcsl, hlay, c5, A5⟩
      walk_at "rd"
      refine ⟨_, _, rfl, .inl ⟨sq hnl5, fun t nt => ?_⟩⟩
      have sT : Same H5 (upd H5 t (.tup (ns.map V.str))) := same_new nt
      walk_at "rd"
      refine ⟨_, _, rfl, .inl ⟨sq (sT _ _ hcl5), fun t2 nt2 => ?_⟩⟩
      have sT2 := Same.trans sT (same_new nt2 (o := .tup us))
      walk_at "rd"
      refine ⟨sz (by show 2 ≤ 100000; decide), fun t3 nt3 => ?_⟩
      have sT3 := Same.trans sT2 (same_new nt3 (o := .tup [.ref t, .ref t2]))
      obtain ⟨x, y, eA⟩ := A5
      have hta : t ∉ S := out c5 ⟨x, y, eA⟩ nt
      have hta2 : t2 ∉ S := out (c5.trans (Same.but sT)) ⟨x, y, sT _ _ eA⟩ nt2
      have hta3 : t3 ∉ S := out (c5.trans (Same.but sT2)) ⟨x, y, sT2 _ _ eA⟩ nt3
      refine q _ _ (ns, cs) (c5.trans (Same.but sT3)) ⟨x, y, sT3 _ _ eA⟩ ?_ hns (by rw [hcsl]; omega) hlay
      refine .tup (sqt (mn_at hta3 upd_same)) (.cons (names_dp (sqt (mn_at hta ((Same.trans (same_new nt2) (same_new nt3)) _ _ upd_same)))) (da_one (.tup (sqt (mn_at hta2 ((same_new nt3) _ _ upd_same))) ?_)))
      exact dpAll_same (Same.trans (mn_all sT3) (mn_sub fun b hb => List.mem_cons_of_mem _ hb)) hda
end
end K01
namespace K01
local macro_rules | `(tactic| walk_at "rd") => `(tactic| repeat (first | refine ⟨rfl, ?_⟩ | refine ⟨_, rfl, ?_⟩ | refine ⟨_, _, rfl, rfl, ?_⟩ | refine ⟨⟨_, rfl⟩, ?_⟩))
open PySem PySem.Spec PyProof.Rows L2 Bx TL Dx
section
variable {P : Program} {w : World} {K : PySem.W.Frag} {mg : Str → Option Value} {base : Heap}
/-! ### join is right -/
def Good (t : List Str × List PyData) : Prop := t.1.Sublist poolS ∧ t.2.length ≤ 3 ∧ Lays 3 t.2
theorem names_lay {ns : List Str} (h : ∀ x ∈ ns, x ∈ poolS) : Lay 1 (.tuple (ns.map PyData.str)) := lay_tuple (lays_strs fun x hx => pool_ok x (h x hx))
theorem th_lay {ns : List Str} {cs : List PyData} (h : ∀ x ∈ ns, x ∈ poolS) (c : Lays 3 cs) : Lay 5 (thD (ns, cs)) := lay_tuple (lays_cons (lay_up (names_lay h) (by decide)) (lays_cons (lay_tuple c) lays_nil))
theorem good_lay {t : List Str × List PyData} (h : Good t) : Lay 5 (thD t) := th_lay (fun _ hx => h.1.subset hx) h.2.2
theorem flat_lay {ts : List (List Str × List PyData)} (h : ∀ t ∈ ts, Good t) : Lays 3 (ts.map fun t => t.2).flatten := lays_of fun d hd => by
  obtain ⟨l, hl, hd⟩ := List.mem_flatten.mp hd
  obtain ⟨t, ht, rfl⟩ := List.mem_map.mp hl
  exact lays_mem (h t ht).2.2 d hd
theorem flat_len {α β : Type} {f : α → List β} {n : Nat} : ∀ {l : List α}, (∀ x ∈ l, (f x).length ≤ n) → (l.map f).flatten.length ≤ l.length * n
  | [], _ => Nat.zero_le _
  | x :: l, h => by
    rw [List.map_cons, List.flatten_cons, List.length_append, List.length_cons, Nat.succ_mul]
    have h1 := h x List.mem_cons_self
    have h2 := flat_len (f := f) (n := n) (l := l) fun y hy => h y (List.mem_cons_of_mem _ hy)
    omega
theorem ty_tup {H : Hp} {a : Addr} {xs : List V} (h : SqT K H a xs) : TyX K H (.ref a) (.type "tuple") := by
  rcases h with (h | ⟨o, h⟩) | h
  · exact .base (.tup h)
  · exact .fTuple h
  · obtain ⟨o, its, n, h1, h2, _⟩ := h
    exact .kTuple h1 h2
def spRight : Sp := fun vs H Q _ => ∃ a : Addr, vs = [.ref a] ∧ Src H a ∧ ∀ H', SameBut a H H' → Q (.bl true) H'
theorem ok_join_right {f : Addr} {fd : FuncData} (F : Fun K "_law_join_right" "_law_join_right" s__law_join_right f fd) (m_len : mg "len" = none) (m_range : mg "range" = none) (m_list : mg "list" = none) (m_isinstance : mg "isinstance" = none) (m_tuple : mg "tuple" = none)
    (C__law_draw : Cal P w K mg base "_law_draw" 1 ["_law_source_here", "_law_limit"] spDraw) (C__law_theory : Cal P w K mg base "_law_theory" 3 ["_law_source_here"] (spTheory K)) (C__law_union : Cal P w K mg base "_law_union" 2 ["_law_lists"] (spUnion K)) (C_join : Cal P w K mg base "join" 2 ["theories"] (spJoin K)) :
    FnOk P w K mg base CX0 4 f fd ["_law_source_here"] spRight := by
  refine F.ok sc__law_join_right (fun vs H Q E h => ?_) (fun cdv A outer s H vs Q E hr h => ?_)
  · obtain ⟨a, rfl, _⟩ := h
    rfl
  · obtain ⟨a, rfl, hA, q⟩ := h
    refine ⟨_, (pss_cons (ps_setLc (i := 1) (own := [("_law_k", 7)]) (tt := tYes) rfl sc__law_join_right.nd rfl rfl (sw_true rfl rfl rfl (by decide +kernel)) (pi_range1 (by rfl) m_range (pa_cons (pe_cal C__law_draw (hr.mono (by decide)) (pa_cons (pv 0) (pa_cons pe_int pa_nil))) pa_nil)) (blkOk_by (N := n__law_join_right) (sc := defScope s__law_join_right) (by decide +kernel)) (fun _ _ _ _ _ => pg_name (i := 7) sc__law_join_right.nd rfl (Or.inl rfl)) (fun _ _ _ _ _ => pts_nil) (fun _ _ _ _ _ => (pe_cal C__law_theory (hr.mono (by decide)) (pa_cons (pv 0) pa_nil))))
    (pss_cons (ps_set (i := 2) sc__law_join_right.nd rfl (Or.inl rfl) (pe_callTy (T := "list") call_list_of (by rfl) m_list (by decide +kernel) (pa_cons (pv 1) pa_nil)))
    (pss_cons (ps_set (i := 3) sc__law_join_right.nd rfl (Or.inl rfl) (pe_cal C_join (hr.mono (by decide)) (pa_cons (pv 2) pa_nil)))
    (pss_cons (ps_set (i := 4) sc__law_join_right.nd rfl (Or.inl rfl) (pe_lst pa_nil))
    (pss_cons (ps_for PassesOwn.never rfl (pi_list (pv 1)) (pg_name (i := 5) sc__law_join_right.nd rfl (Or.inl rfl))
      (pss_one (ps_for PassesOwn.never rfl (pi_tup (pe_ix ix_tup (pv 5) pe_int (fun _ _ => rfl))) (pg_name (i := 6) sc__law_join_right.nd rfl (Or.inl rfl))
      (pss_one (ps_expr (pe_bm PySem.F.plainAttrs_list PySem.F.slot_list_append PySem.F.type_list_append mt_append (pv 4) (pa_cons (pv 6) pa_nil)))))))
    (pss_cons (ps_if (PW.pt (pw_or (pt_cmpR (op_neD hr.units) (pv 2) (pv 1) (nomark _)) (pw_or1 (pt_cmpR (op_neD hr.units) (pe_cal C_join (hr.mono (by decide)) (pa_cons (pe_callTy (T := "tuple") call_tuple_of (by rfl) m_tuple (by decide +kernel) (pa_cons (pv 1) pa_nil)) pa_nil)) (pv 3) (nomark _)))))
      (pss_one (ps_ret pe_bl))
      pss_nil)
    (pss_cons (ps_if (PW.pt (pw_or (pt_not (pt_val (pe_callB (id := "isinstance") call_isi (by rfl) m_isinstance (by decide +kernel) (pa_cons (pv 3) (pa_cons (pe_bltn (v := .ty "tuple") (by rfl) m_tuple (by decide +kernel) rfl) pa_nil))))) (pw_or (pt_cmpR op_ne (pe_callB call_len_seq (by rfl) m_len PySem.boot_len (pa_cons (pv 3) pa_nil)) pe_int (nomark _)) (pw_or1 (pt_not (pt_val (pe_callB (id := "isinstance") call_isi (by rfl) m_isinstance (by decide +kernel) (pa_cons (pe_ix ix_tup (pv 3) pe_int (fun _ _ => rfl)) (pa_cons (pe_bltn (v := .ty "tuple") (by rfl) m_tuple (by decide +kernel) rfl) pa_nil)))))))))
      (pss_one (ps_ret pe_bl))
      pss_nil)
    (pss_one (ps_ret (pe_and (pe_cmpR (op_eqD hr.units) (pe_ix ix_tup (pv 3) pe_int (fun _ _ => rfl)) (pe_cal C__law_union (hr.mono (by decide)) (pa_cons (pe_lc (own := [("_law_theory_here", 5)]) (tt := tYes) rfl sc__law_join_right.nd (pi_list (pv 1)) (blkOk_by (N := n__law_join_right) (sc := defScope s__law_join_right) (by decide +kernel)) (fun _ _ _ _ _ => pg_name (i := 5) sc__law_join_right.nd rfl (Or.inl rfl)) (fun _ _ _ _ _ => pts_nil) (fun _ _ _ _ _ => (pe_ix (ix_tupK (K := K) rfl) (pv 5) pe_int (fun _ _ => rfl)))) pa_nil)) (nomark _)) (pe_one (pe_cmpR (op_eqD hr.units) (pe_callTy (T := "list") call_list_of (by rfl) m_list (by decide +kernel) (pa_cons (pe_ix ix_tup (pv 3) pe_int (fun _ _ => rfl)) pa_nil)) (pv 4) (nomark _))))))))))))), ?_⟩
    walk_at "rd"
    refine draw_of (lim := 5) hA (by decide) fun n H1 hn0 hn1 b1 A1 => ?_
    walk_at "rd"
    refine ⟨by omega, by omega, ?_⟩
    intro D hD
    have aD : a ≠ D := src_ne A1 hD
    refine lc_range (lo := 0) (n := n.toNat) (fun i H' => ∃ vs ts, H' D = some (.lst vs) ∧ DpAll K (mn H' [a, D]) vs (ts.map thD) ∧ ts.length = i ∧ (∀ t ∈ ts, Good t) ∧ SameBut a H1 H' ∧ Src H' a) ⟨[], [], upd_same, .nil, rfl, (fun _ h => by cases h), but_new hD (SameBut.refl a H1), src_upd A1 aD⟩ ?_ ?_
    · rintro i H2 hi ⟨vs, ts, hd, hda, hl, hg, b2, A2⟩
      refine ⟨rfl, ?_⟩
      walk_at "rd"
      refine ⟨a, [a, D], rfl, A2, by simp, ?_, fun v H3 t b3 A3 dt t1 t2 t3 => ?_⟩
      · intro b hb
        obtain ⟨x, y, e⟩ := A2
        rcases List.mem_cons.mp hb with h | h
        · exact ⟨_, h ▸ e⟩
        · exact ⟨_, (List.mem_singleton.mp h) ▸ hd⟩
      refine ⟨_, b3 _ _ aD.symm hd, ?_, vs ++ [v], ts ++ [t], upd_same, ?_, by rw [List.length_append, hl]; rfl, ?_, but_new hD (b2.trans b3), src_upd A3 aD⟩
      · rw [da_len hda, List.length_map, hl]
        exact szl (by omega)
      · rw [mn_upd (S := [a, D]) (by simp), List.map_append]
        refine da_app (dpAll_same (mn_but (S := [a, D]) (by simp) b3) hda) (da_one dt)
      · intro x hx
        rcases List.mem_append.mp hx with h | h
        · exact hg x h
        · rw [List.mem_singleton.mp h]
          exact ⟨t1, t2, t3⟩
    · rintro H3 ⟨vs, ts, hd3, hda, hl, hg, b3, A3⟩
      have dall : DpAll K H3 vs (ts.map thD) := dpAll_same mn_same hda
      have hvl : vs.length = ts.length := by rw [da_len dall, List.length_map]
      have h1f := flat_len (f := fun t : List Str × List PyData => t.1) (n := 8) (l := ts) fun t ht => (hg t ht).1.length_le
      have h2f := flat_len (f := fun t : List Str × List PyData => t.2) (n := 3) (l := ts) fun t ht => (hg t ht).2.1
      have hlay := flat_lay hg
      have cb := b1.trans b3
      generalize hfl : (ts.map fun t => t.2).flatten = fl at h2f hlay
      walk_at "rd"
      refine ⟨_, _, rfl, .inl (sq hd3), fun P nP => ?_⟩
      have s4 : Same H3 (upd H3 P (.lst vs)) := same_new nP
      walk_at "rd"
      refine ⟨.ref P, ts, rfl, .inl (.lst (sq upd_same) (dpAll_same s4 dall)), by omega, by omega, by rw [hfl]; omega, fun r H5 ys s5 d5 asc5 m5 => ?_⟩
      rw [hfl] at d5
      have s35 := Same.trans s4 s5
      walk_at "rd"
      refine ⟨sz (by show 0 ≤ 100000; decide), fun E nE => ?_⟩
      have hD5 := s35 _ _ hd3
      walk_at "rd"
      refine ⟨⟨_, sq (same_new nE _ _ hD5)⟩, for_list (K := K) (a := D) (xs := vs) (fun i σ H' => ∃ (y5 y6 : Option V) (us : List V), σ = [some (.ref a), some (.ref D), some (.ref P), some r, some (.ref E), y5, y6, none] ∧ H' E = some (.lst us) ∧ DpAll K H5 us ((ts.take i).map fun t => t.2).flatten ∧ Same H5 H')
        ⟨none, none, [], rfl, upd_same, .nil, same_new nE⟩ (fun i σ H' _ ⟨_, _, _, _, _, _, s⟩ => sq (s _ _ hD5)) ?_ ?_⟩
      · rintro i x σ H6 hx ⟨y5, y6, us, rfl, hE, du, s6⟩
        obtain ⟨d, e, hxd⟩ := da_at dall hx
        obtain ⟨t, ht, rfl⟩ : ∃ t, ts[i]? = some t ∧ d = thD t := by
          rw [List.getElem?_map] at e
          cases e2 : ts[i]? with
          | none =>
            rw [e2] at e
            cases e
          | some y =>
            rw [e2] at e
            exact ⟨y, rfl, (Option.some.inj e).symm⟩
        obtain ⟨a1, na, ca, cs, rfl, s1, s2, s3, d3⟩ := th_inv hxd
        have s36 := Same.trans s35 s6
        have hfl2 : ((ts.take (i + 1)).map fun t => t.2).flatten = ((ts.take i).map fun t => t.2).flatten ++ t.2 := by
          rw [List.take_add_one, ht, List.map_append, List.flatten_append]
          simp
        have hle : (((ts.take i).map fun t => t.2).flatten).length + t.2.length ≤ 100 := by
          have e := List.take_append_drop (i + 1) ts
          have e2 : fl.length = ((ts.take (i + 1)).map fun t => t.2).flatten.length + ((ts.drop (i + 1)).map fun t => t.2).flatten.length := by
            rw [← hfl, ← List.length_append, ← List.flatten_append, ← List.map_append, e]
          rw [hfl2, List.length_append] at e2
          omega
        walk_at "rd"
        refine ⟨_, _, _, _, rfl, rfl, Bx.Same.tup s36 s1, atI_nat (j := 1) rfl, ?_⟩
        walk_at "rd"
        refine ⟨⟨_, Bx.Same.tup s36 s3⟩, for_tup (K := K) (a := ca) (xs := cs) (fun j σ H' => ∃ (y6 : Option V) (us : List V), σ = [some (.ref a), some (.ref D), some (.ref P), some r, some (.ref E), some (.ref a1), y6, none] ∧ H' E = some (.lst us) ∧ DpAll K H5 us (((ts.take i).map fun t => t.2).flatten ++ t.2.take j) ∧ Same H5 H')
          ⟨y6, us, rfl, hE, by rw [List.take_zero, List.append_nil]; exact du, s6⟩ (fun j σ H' _ ⟨_, _, _, _, _, s⟩ => Bx.Same.tup (Same.trans s35 s) s3) ?_ ?_⟩
        · rintro j x σ H7 hx2 ⟨y6, us, rfl, hE, du, s7⟩
          obtain ⟨d, hd2, hxd⟩ := da_at d3 hx2
          walk_at "rd"
          refine ⟨.inl ⟨rfl, _, sq hE⟩, ?_⟩
          walk_at "rd"
          refine ⟨_, _, _, rfl, rfl, hE, ?_, ?_⟩
          · rw [da_len du, List.length_append, List.length_take]
            exact szl (by omega)
          refine ⟨_, _, rfl, upd_same, ?_, same_at nE s7⟩
          rw [List.take_add_one, hd2, ← List.append_assoc]
          exact da_app du (da_one (dp_same s35 hxd))
        · rintro σ H7 ⟨y6, us, rfl, hE, du, s7⟩
          refine ⟨_, _, us, rfl, hE, ?_, s7⟩
          rw [da_len d3, List.take_length, ← hfl2] at du
          exact du
      · rintro σ H6 ⟨y5, y6, us, rfl, hE, du, s6⟩
        rw [hvl, List.take_length, hfl] at du
        have s36 := Same.trans s35 s6
        walk_at "rd"
        have lts : Lay 6 (.list (ts.map thD)) := lay_list (lays_of fun d hd => by
          obtain ⟨t, ht, rfl⟩ := List.mem_map.mp hd
          exact good_lay (hg t ht))
        have dD : Dp K H6 (.ref D) (.list (ts.map thD)) := .lst (sq (s36 _ _ hd3)) (dpAll_same s36 dall)
        refine ⟨_, _, .lst (sq ((Same.trans s5 s6) _ _ upd_same)) (dpAll_same s36 dall), dD, shape lts (by decide), shape lts (by decide), ?_⟩
        rw [eq_refl lts]
        walk_at "rd"
        refine ⟨_, _, rfl, .inl ⟨sq (s36 _ _ hd3), fun t nt => ?_⟩⟩
        have sT : Same H6 (upd H6 t (.tup vs)) := same_new nt
        have s37 := Same.trans s36 sT
        refine ⟨.ref t, ts, rfl, .inr (.tup (sqt upd_same) (dpAll_same s37 dall)), by omega, by omega, by rw [hfl]; omega, fun r2 H8 ys2 s8 d8 asc8 m8 => ?_⟩
        rw [hfl] at d8
        have e2 : ys2 = ys := asc_eq asc8 asc5 fun x => (m8 x).trans (m5 x).symm
        subst e2
        have s38 := Same.trans s37 s8
        have s58 := Same.trans (Same.trans s6 sT) s8
        have hys : ∀ x ∈ ys2, x ∈ poolS := fun x hx => by
          obtain ⟨l, hl, hx⟩ := List.mem_flatten.mp ((m5 x).mp hx)
          obtain ⟨t, ht, rfl⟩ := List.mem_map.mp hl
          exact (hg t ht).1.subset hx
        have lth := th_lay hys hlay
        walk_at "rd"
        refine ⟨_, _, d8, dp_same s58 d5, shape lth (by decide), shape lth (by decide), ?_⟩
        rw [eq_refl lth]
        walk_at "rd"
        obtain ⟨a1, na, ca, cs, rfl, s1, s2, s3, d3⟩ := th_inv d5
        walk_at "rd"
        refine ⟨_, _, _, _, _, rfl, .ty _, ty_tup (Bx.Same.tup s58 s1), rfl, ?_⟩
        walk_at "rd"
        refine ⟨_, _, rfl, .inr (Bx.Same.tup s58 s1), ?_⟩
        walk_at "rd"
        refine ⟨_, _, _, _, rfl, rfl, Bx.Same.tup s58 s1, atI_nat (j := 1) rfl, ?_⟩
        walk_at "rd"
        refine ⟨_, _, _, _, _, rfl, .ty _, ty_tup (Bx.Same.tup s58 s3), rfl, ?_⟩
        walk_at "rd"
        refine ⟨_, _, _, _, rfl, rfl, Bx.Same.tup s58 s1, atI_nat (j := 0) rfl, ?_⟩
        walk_at "rd"
        refine ⟨⟨_, sq (s38 _ _ hd3)⟩, fun M nM => ?_⟩
        refine lc_it walk_list (fun i H' => ∃ us, H' M = some (.lst us) ∧ DpAll K H3 us ((ts.take i).map fun t => PyData.tuple (t.1.map PyData.str)) ∧ Same H8 H') ⟨[], upd_same, .nil, same_new nM⟩ (fun i H' _ ⟨_, _, _, s⟩ => sq (s _ _ (s38 _ _ hd3))) ?_ ?_
        · rintro i x H9 H9' hi ⟨us, hM, du2, s9⟩ ⟨rfl, hx⟩
          obtain ⟨d, e, hxd⟩ := da_at dall hx
          obtain ⟨t, ht, rfl⟩ : ∃ t, ts[i]? = some t ∧ d = thD t := by
            rw [List.getElem?_map] at e
            cases e2 : ts[i]? with
            | none =>
              rw [e2] at e
              cases e
            | some y =>
              rw [e2] at e
              exact ⟨y, rfl, (Option.some.inj e).symm⟩
          obtain ⟨a9, na9, ca9, cs9, rfl, t1, t2, t3, _⟩ := th_inv hxd
          refine ⟨rfl, ?_⟩
          walk_at "rd"
          refine ⟨_, _, _, _, rfl, rfl, Bx.Same.tup (Same.trans s38 s9) t1, atI_nat (j := 0) rfl, ?_⟩
          refine ⟨_, hM, ?_, us ++ [.ref na9], upd_same, ?_, same_at nM s9⟩
          · rw [da_len du2, List.length_map, List.length_take]
            exact szl (by omega)
          · rw [List.take_add_one, ht, List.map_append]
            exact da_app du2 (da_one (names_dp t2))
        · rintro H9 ⟨us2, hM, du2, s9⟩
          rw [hvl, List.take_length] at du2
          obtain ⟨L, e1, e2, e3⟩ := join_lists du2
          subst e1
          have s39 := Same.trans s38 s9
          refine ⟨M, L, rfl, sq hM, fun x hx => .inr (Bx.Same.tup s39 (e3 x hx)), fun r3 H10 s10 nr3 hr3 => ?_⟩
          rw [e2] at hr3
          have e4 : ys2 = unionS (ts.map fun t => t.1) := asc_eq asc5 (union_asc _) fun x => by
            rw [m5 x, union_mem, List.mem_flatten]
            refine ⟨fun ⟨l, hl, hx⟩ => ⟨?_, l, hl, hx⟩, fun h => h.2⟩
            obtain ⟨t, ht, rfl⟩ := List.mem_map.mp hl
            exact (hg t ht).1.subset hx
          have s5_10 := Same.trans (Same.trans s58 s9) s10
          have lay1 := names_lay hys
          refine ⟨_, _, names_dp (Bx.Same.tup s5_10 s2), e4 ▸ names_dp (sqt hr3), shape lay1 (by decide), shape lay1 (by decide), ?_⟩
          rw [eq_refl lay1]
          walk_at "rd"
          refine ⟨_, _, _, _, rfl, rfl, Bx.Same.tup s5_10 s1, atI_nat (j := 1) rfl, ?_⟩
          walk_at "rd"
          refine ⟨_, _, rfl, .inr (Bx.Same.tup s5_10 s3), fun Z nZ => ?_⟩
          walk_at "rd"
          have sZ := Same.trans s5_10 (same_new nZ (o := .lst cs))
          have lay2 : Lay 4 (.list fl) := lay_list hlay
          refine ⟨_, _, .lst (sq upd_same) (dpAll_same sZ d3), .lst (sq ((Same.trans (Same.trans (Same.trans (Same.trans sT s8) s9) s10) (same_new nZ)) _ _ hE)) (dpAll_same sZ du), shape lay2 (by decide), shape lay2 (by decide), ?_⟩
          rw [eq_refl lay2]
          exact q _ (cb.trans (Same.but (Same.trans s35 sZ)))
end
end K01
namespace K01
local macro_rules | `(tactic| walk_at "rd") => `(tactic| repeat (first | refine ⟨rfl, ?_⟩ | refine ⟨_, rfl, ?_⟩ | refine ⟨_, _, rfl, rfl, ?_⟩ | refine ⟨⟨_, rfl⟩, ?_⟩))
open PySem PySem.Spec PyProof.Rows L2 Bx TL Dx
section
variable {P : Program} {w : World} {K : PySem.W.Frag} {mg : Str → Option Value} {base : Heap}
/-! ### widen is right -/
theorem ok_widen_right {f : Addr} {fd : FuncData} (F : Fun K "_law_widen_right" "_law_widen_right" s__law_widen_right f fd) (m_list : mg "list" = none) (m_isinstance : mg "isinstance" = none) (m_tuple : mg "tuple" = none)
    (C__law_theory : Cal P w K mg base "_law_theory" 3 ["_law_source_here"] (spTheory K)) (C__law_union : Cal P w K mg base "_law_union" 2 ["_law_lists"] (spUnion K)) (C_widen : CalR P w K mg base "widen" 2 (spWiden K)) (C__law_pool : Cal P w K mg base "_law_pool" 1 [] spPool)
    (C__law_some : Cal P w K mg base "_law_some" 2 ["_law_source_here", "_law_names", "_law_share"] (spSome K)) :
    FnOk P w K mg base CX0 4 f fd ["_law_source_here"] spRight := by
  refine F.ok sc__law_widen_right (fun vs H Q E h => ?_) (fun cdv A outer s H vs Q E hr h => ?_)
  · obtain ⟨a, rfl, _⟩ := h
    rfl
  · obtain ⟨a, rfl, hA, q⟩ := h
    refine ⟨_, (pss_cons (ps_set (i := 1) sc__law_widen_right.nd rfl (Or.inl rfl) (pe_cal C__law_theory (hr.mono (by decide)) (pa_cons (pv 0) pa_nil)))
    (pss_cons (ps_if (pt_cmpR (op_neD hr.units) (pe_calR C_widen (hr.mono (by decide)) (pa_cons (pv 1) pa_nil)) (pv 1) (nomark _))
      (pss_one (ps_ret pe_bl))
      pss_nil)
    (pss_cons (ps_set (i := 2) sc__law_widen_right.nd rfl (Or.inl rfl) (pe_op op_cat (pe_callTy (T := "list") call_list_of (by rfl) m_list (by decide +kernel) (pa_cons (pe_ix ix_tup (pv 1) pe_int (fun _ _ => rfl)) pa_nil)) (pe_lst (pa_cons pe_str pa_nil))))
    (pss_cons (ps_set (i := 3) sc__law_widen_right.nd rfl (Or.inl rfl) (pe_calR C_widen (hr.mono (by decide)) (pa_cons (pv 1) (pa_cons pe_str pa_nil))))
    (pss_cons (ps_for PassesOwn.never rfl (pi_list (pe_cal C__law_some (hr.mono (by decide)) (pa_cons (pv 0) (pa_cons (pe_cal0 C__law_pool (hr.mono (by decide))) (pa_cons pe_int pa_nil))))) (pg_name (i := 4) sc__law_widen_right.nd rfl (Or.inl rfl))
      (pss_cons (ps_if (pt_cmpR (op_neD hr.units) (pv 3) (pe_tup (pa_cons (pe_cal C__law_union (hr.mono (by decide)) (pa_cons (pe_lst (pa_cons (pv 2) pa_nil)) pa_nil)) (pa_cons (pe_ix ix_tup (pv 1) pe_int (fun _ _ => rfl)) pa_nil))) (nomark _))
      (pss_one (ps_ret pe_bl))
      pss_nil)
    (pss_cons (ps_set (i := 3) sc__law_widen_right.nd rfl (Or.inl rfl) (pe_calR C_widen (hr.mono (by decide)) (pa_cons (pv 3) (pa_cons (pv 4) (pa_cons pe_str pa_nil)))))
    (pss_one (ps_set (i := 2) sc__law_widen_right.nd rfl (Or.inl rfl) (pe_op op_cat (pv 2) (pe_lst (pa_cons pe_str (pa_cons (pv 4) pa_nil)))))))))
    (pss_cons (ps_if (PW.pt (pw_or (pt_not (pt_val (pe_callB (id := "isinstance") call_isi (by rfl) m_isinstance (by decide +kernel) (pa_cons (pv 3) (pa_cons (pe_bltn (v := .ty "tuple") (by rfl) m_tuple (by decide +kernel) rfl) pa_nil))))) (pw_or1 (pt_not (pt_val (pe_callB (id := "isinstance") call_isi (by rfl) m_isinstance (by decide +kernel) (pa_cons (pe_ix ix_tup (pv 3) pe_int (fun _ _ => rfl)) (pa_cons (pe_bltn (v := .ty "tuple") (by rfl) m_tuple (by decide +kernel) rfl) pa_nil))))))))
      (pss_one (ps_ret pe_bl))
      pss_nil)
    (pss_one (ps_ret (pe_cmpR (op_eqD hr.units) (pv 3) (pe_tup (pa_cons (pe_cal C__law_union (hr.mono (by decide)) (pa_cons (pe_lst (pa_cons (pv 2) pa_nil)) pa_nil)) (pa_cons (pe_ix ix_tup (pv 1) pe_int (fun _ _ => rfl)) pa_nil))) (nomark _)))))))))), ?_⟩
    walk_at "rd"
    refine ⟨a, [a], rfl, hA, by simp, fun b hb => ?_, fun v H1 t b1 A1 d1 hts htl htc => ?_⟩
    · obtain ⟨x, y, e⟩ := hA
      exact ⟨_, (List.mem_singleton.mp hb) ▸ e⟩
    have hg : Good t := ⟨hts, htl, htc⟩
    have htn := hts.length_le
    rw [pool_len] at htn
    have d1' : Dp K H1 v (thD t) := dp_same mn_same d1
    walk_at "rd"
    have hS : ∀ {H' : Hp}, Src H' a → ∀ b ∈ [a], ∃ o, H' b = some o := fun A b hb => by
      obtain ⟨x, y, e⟩ := A
      exact ⟨_, (List.mem_singleton.mp hb) ▸ e⟩
    have srcS : ∀ {H' H'' : Hp}, Src H' a → Same H' H'' → Src H'' a := fun A s => by
      obtain ⟨x, y, e⟩ := A
      exact ⟨x, y, s _ _ e⟩
    refine ⟨v, t, [], [a], rfl, hS A1, d1, by omega, by simp, fun r H2 ys s2 d2 asc2 m2 => ?_⟩
    have e2 : ys = t.1 := asc_eq asc2 (List.Pairwise.sublist hts pool_asc) fun x => by
      rw [m2 x]
      simp
    subst e2
    have lt := good_lay hg
    walk_at "rd"
    refine ⟨_, _, dp_same mn_same d2, dp_same s2 d1', shape lt (by decide), shape lt (by decide), ?_⟩
    rw [eq_refl lt]
    walk_at "rd"
    obtain ⟨a1, na, ca, cs, rfl, s1, sn, sc, d3⟩ := th_inv d1
    have s1' := Bx.Same.tup (Same.trans mn_same s2) s1
    have sn' := Bx.Same.tup (Same.trans mn_same s2) sn
    walk_at "rd"
    refine ⟨_, _, _, _, rfl, rfl, s1', atI_nat (j := 0) rfl, ?_⟩
    walk_at "rd"
    refine ⟨_, _, rfl, .inr sn', fun l1 nl1 => ?_⟩
    walk_at "rd"
    refine ⟨sz (by show 1 ≤ 100000; decide), fun l2 nl2 => ?_⟩
    walk_at "rd"
    refine ⟨_, _, _, _, rfl, rfl, (same_new nl2) _ _ upd_same, upd_same, sz ?_, fun ea nea => ?_⟩
    · rw [List.length_map]
      show _ + 1 ≤ _
      omega
    have hea : upd (upd (upd H2 l1 (.lst (t.1.map V.str))) l2 (.lst [V.str (Str.ofString "ab")])) ea (.lst (t.1.map V.str ++ [V.str (Str.ofString "ab")])) ea = some (.lst ((t.1 ++ [Str.ofString "ab"]).map V.str)) := by
      rw [upd_same, List.map_append]
      rfl
    have s3 := Same.trans s2 (Same.trans (Same.trans (same_new nl1) (same_new nl2)) (same_new nea (o := .lst (t.1.map V.str ++ [V.str (Str.ofString "ab")]))))
    generalize hH3 : upd (upd (upd H2 l1 (.lst (t.1.map V.str))) l2 (.lst [V.str (Str.ofString "ab")])) ea (.lst (t.1.map V.str ++ [V.str (Str.ofString "ab")])) = H3 at hea s3
    walk_at "rd"
    refine ⟨_, t, [Str.ofString "ab"], [a], rfl, hS (srcS A1 s3), dp_same (mn_all s3) d1, by omega, by decide, fun r4 H4 ys4 s4 d4 asc4 m4 => ?_⟩
    have s14 := Same.trans s3 s4
    have A4 := srcS A1 s14
    have hea4 := s4 _ _ hea
    walk_at "rd"
    intro p np
    walk_at "rd"
    refine ⟨a, p, poolS, 3, rfl, src_upd A4 (src_ne A4 np), sq upd_same, src_ne A4 np, by decide, by decide, by decide, fun r5 H5 ns b5 A5 nr5 hr5 hns => ?_⟩
    have sm4 : Same (mn H4 [a]) (mn H5 [a]) := Same.trans (mn_all (same_new np)) (mn_but (by simp) b5)
    have sm : Same (mn H1 [a]) H5 := Same.trans (Same.trans (mn_all s14) sm4) mn_same
    have s1_5 := Bx.Same.tup sm s1
    have sc_5 := Bx.Same.tup sm sc
    have d3_5 := dpAll_same sm d3
    have nea : ea ≠ a := fun e => by
      obtain ⟨x, y, eA⟩ := A4
      rw [← e, hea4] at eA
      have z : List.map V.str (t.1 ++ [Str.ofString "ab"]) = [V.int x, V.int y] := by
        injection eA with eA
        injection eA
      have w := congrArg (fun l => l.head?) z
      cases hh : t.1 with
      | nil =>
        rw [hh] at w
        simp at w
      | cons c cs =>
        rw [hh] at w
        simp at w
    have hea5 := b5 _ _ nea (same_new np _ _ hea4)
    have hnl := hns.length_le
    rw [pool_len] at hnl
    have cb : SameBut a H H5 := b1.trans ((Same.but (Same.trans s14 (same_new np))).trans b5)
    refine ⟨r5, rfl, ⟨_, sq hr5⟩, for_list (K := K) (a := r5) (xs := ns.map V.str) (fun i σ H' => ∃ (y4 : Option V) (ea : Addr) (av : V) (es ys : List Str), σ = [some (.ref a), some (.ref a1), some (.ref ea), some av, y4] ∧ H' ea = some (.lst (es.map V.str)) ∧ Dp K H' av (thD (ys, t.2)) ∧ Asc ys ∧ (∀ x, x ∈ ys ↔ x ∈ es) ∧ (∀ x ∈ es, x ∈ poolS) ∧ es.length ≤ 9 + 2 * i ∧ Same H5 H')
      ⟨none, ea, r4, _, ys4, rfl, hea5, dp_same (Same.trans sm4 mn_same) d4, asc4, fun x => by rw [m4 x, List.mem_append], fun x hx => ?_, by rw [List.length_append]; show _ + 1 ≤ _; omega, Same.refl _⟩ (fun i σ H' _ ⟨_, _, _, _, _, _, _, _, _, _, _, _, s⟩ => sq (s _ _ hr5)) ?_ ?_⟩
    · rcases List.mem_append.mp hx with h | h
      · exact hts.subset h
      · rw [List.mem_singleton.mp h]
        decide +kernel
    · rintro i x σ H6 hx ⟨y4, ea, av, es, ys, rfl, he, dv, asc, mem, hpool, hel, s6⟩
      obtain ⟨n, hn, rfl⟩ := at_map hx
      have hi : i < 8 := by
        have := (List.getElem?_eq_some_iff.mp hn).1
        omega
      have hnp : n ∈ poolS := hns.subset (List.mem_of_getElem? hn)
      walk_at "rd"
      refine ⟨sz (by show 1 ≤ 100000; decide), fun l nl => ?_⟩
      have sl : Same H6 (upd H6 l (.lst [.ref ea])) := same_new nl
      walk_at "rd"
      refine ⟨l, [(ea, es)], rfl, sq upd_same, fun x hx => .inl ?_, fun r7 H7 s7 nr7 hr7 => ?_⟩
      · rw [List.mem_singleton.mp hx]
        exact sq (sl _ _ he)
      have s67 := Same.trans sl s7
      have s57 := Same.trans s6 s67
      walk_at "rd"
      refine ⟨_, _, _, _, rfl, rfl, Bx.Same.tup s57 s1_5, atI_nat (j := 1) rfl, ?_⟩
      walk_at "rd"
      refine ⟨sz (by show 2 ≤ 100000; decide), fun z nz => ?_⟩
      have s68 := Same.trans s67 (same_new nz (o := .tup [.ref r7, .ref ca]))
      have s58 := Same.trans s6 s68
      have e7 : ys = unionS [es] := asc_eq asc (union_asc _) fun x => by
        rw [mem x, union_mem]
        exact ⟨fun h => ⟨hpool x h, es, List.mem_singleton.mpr rfl, h⟩, fun ⟨_, l, hl, h⟩ => List.mem_singleton.mp hl ▸ h⟩
      have lth : Lay 5 (thD (ys, t.2)) := th_lay (fun x hx => hpool x ((mem x).mp hx)) htc
      have dz : Dp K _ (.ref z) (thD (ys, t.2)) := .tup (sqt upd_same) (.cons (names_dp (sqt ((same_new nz) _ _ (e7 ▸ hr7)))) (da_one (.tup (Bx.Same.tup s58 sc_5) (dpAll_same s58 d3_5))))
      walk_at "rd"
      refine ⟨_, _, dp_same s68 dv, dz, shape lth (by decide), shape lth (by decide), ?_⟩
      rw [eq_refl lth]
      walk_at "rd"
      have ysl : ys.length ≤ 8 := by
        rw [e7]
        exact List.length_filter_le ..
      refine ⟨av, (ys, t.2), [n, Str.ofString "b"], [], rfl, (fun b hb => by cases hb), by rw [mn_nil]; exact dp_same s68 dv, by show ys.length ≤ 1000; omega, by show 2 ≤ 1000; decide, fun r9 H9 ys9 s9 d9 asc9 m9 => ?_⟩
      rw [mn_nil] at d9
      walk_at "rd"
      refine ⟨sz (by show 2 ≤ 100000; decide), fun l2 nl2 => ?_⟩
      have s6_9 := Same.trans s68 s9
      have s6_10 := Same.trans s6_9 (same_new nl2 (o := .lst [V.str (Str.ofString "b"), V.str n]))
      walk_at "rd"
      refine ⟨_, _, _, _, rfl, rfl, s6_10 _ _ he, upd_same, sz ?_, fun e2 ne2 => ?_⟩
      · rw [List.length_map]
        show _ + 2 ≤ _
        omega
      refine ⟨_, e2, r9, es ++ [Str.ofString "b", n], ys9, rfl, ?_, dp_same (Same.trans (same_new nl2) (same_new ne2)) d9, asc9, fun x => ?_, fun x hx => ?_, ?_, Same.trans s6 (Same.trans s6_10 (same_new ne2))⟩
      · rw [upd_same, List.map_append]
        rfl
      · rw [m9 x, List.mem_append, mem x]
        simp only [List.mem_cons, List.not_mem_nil, or_false]
        exact or_congr_right or_comm
      · rcases List.mem_append.mp hx with h | h
        · exact hpool x h
        · rcases List.mem_cons.mp h with e | e
          · rw [e]
            decide +kernel
          · rw [List.mem_singleton.mp e]
            exact hnp
      · rw [List.length_append]
        show _ + 2 ≤ _
        omega
    · rintro σ H6 ⟨y4, ea, av, es, ys, rfl, he, dv, asc, mem, hpool, hel, s6⟩
      obtain ⟨av1, xv1, xv2, xv3, rfl, t1, t2, t3, _⟩ := th_inv dv
      walk_at "rd"
      refine ⟨_, _, _, _, _, rfl, .ty _, ty_tup t1, rfl, ?_⟩
      walk_at "rd"
      refine ⟨_, _, _, _, rfl, rfl, t1, atI_nat (j := 0) rfl, ?_⟩
      walk_at "rd"
      refine ⟨_, _, _, _, _, rfl, .ty _, ty_tup t2, rfl, ?_⟩
      walk_at "rd"
      refine ⟨sz (by show 1 ≤ 100000; decide), fun l nl => ?_⟩
      have sl : Same H6 (upd H6 l (.lst [.ref ea])) := same_new nl
      walk_at "rd"
      refine ⟨l, [(ea, es)], rfl, sq upd_same, fun x hx => .inl ?_, fun r7 H7 s7 nr7 hr7 => ?_⟩
      · rw [List.mem_singleton.mp hx]
        exact sq (sl _ _ he)
      have s67 := Same.trans sl s7
      have s57 := Same.trans s6 s67
      walk_at "rd"
      refine ⟨_, _, _, _, rfl, rfl, Bx.Same.tup s57 s1_5, atI_nat (j := 1) rfl, ?_⟩
      walk_at "rd"
      refine ⟨sz (by show 2 ≤ 100000; decide), fun z nz => ?_⟩
      have s68 := Same.trans s67 (same_new nz (o := .tup [.ref r7, .ref ca]))
      have s58 := Same.trans s6 s68
      have e7 : ys = unionS [es] := asc_eq asc (union_asc _) fun x => by
        rw [mem x, union_mem]
        exact ⟨fun h => ⟨hpool x h, es, List.mem_singleton.mpr rfl, h⟩, fun ⟨_, l, hl, h⟩ => List.mem_singleton.mp hl ▸ h⟩
      have lth : Lay 5 (thD (ys, t.2)) := th_lay (fun x hx => hpool x ((mem x).mp hx)) htc
      have dz : Dp K _ (.ref z) (thD (ys, t.2)) := .tup (sqt upd_same) (.cons (names_dp (sqt ((same_new nz) _ _ (e7 ▸ hr7)))) (da_one (.tup (Bx.Same.tup s58 sc_5) (dpAll_same s58 d3_5))))
      walk_at "rd"
      refine ⟨_, _, dp_same s68 dv, dz, shape lth (by decide), shape lth (by decide), ?_⟩
      rw [eq_refl lth]
      exact q _ (cb.trans (Same.but s58))
end
end K01
namespace K01
local macro_rules | `(tactic| walk_at "rd") => `(tactic| repeat (first | refine ⟨rfl, ?_⟩ | refine ⟨_, rfl, ?_⟩ | refine ⟨_, _, rfl, rfl, ?_⟩ | refine ⟨⟨_, rfl⟩, ?_⟩))
open PySem PySem.Spec PyProof.Rows L2 Bx TL Dx
section
variable {P : Program} {w : World} {K : PySem.W.Frag} {mg : Str → Option Value} {base : Heap}
/-! ### restrict is right -/
theorem kv_keys {keys : List Str} {get : Str → Int} : (kvOf keys get).map (·.1) = keys.map Sum.inr := by
  unfold kvOf
  rw [List.map_map]
  rfl
def pairD (get : Str → Int) (n : Str) : PyData := .tuple [.str n, .int (get n)]
theorem pair_inv {H : Hp} {v : V} {get : Str → Int} {n : Str} (h : Dp K H v (pairD get n)) : ∃ a, v = .ref a ∧ SqT K H a [.str n, .int (get n)] := by
  obtain ⟨a, xs, rfl, s, d⟩ := dp_tup h
  cases d with
  | cons h1 d =>
    cases d with
    | cons h2 d =>
      cases d
      rw [dp_str h1, dp_int h2] at s
      exact ⟨a, rfl, s⟩
def poolE : List Str := Str.ofString "" :: poolS
theorem poolE_ok : ∀ s ∈ poolE, PyData.strOk s = true := by decide +kernel
theorem pairs_lay {get : Str → Int} {ys : List Str} (h : ∀ x ∈ ys, x ∈ poolE) : Lay 2 (.list (ys.map (pairD get))) := lay_list (lays_of fun d hd => by
  obtain ⟨x, hx, rfl⟩ := List.mem_map.mp hd
  exact lay_tuple (lays_cons (lay_str (poolE_ok x (h x hx))) (lays_cons lay_int lays_nil)))
theorem kept_nodup {keys ns : List Str} (h : ns.Nodup) (h0 : Str.ofString "" ∉ ns) : (keptKeys keys ns).Nodup := by
  unfold keptKeys
  split
  · refine List.nodup_append.mpr ⟨h, List.nodup_cons.mpr ⟨List.not_mem_nil, List.nodup_nil⟩, fun x hx y hy e => ?_⟩
    rw [e, List.mem_singleton.mp hy] at hx
    exact h0 hx
  · rw [List.append_nil]
    exact h
theorem kept_mem {keys ns : List Str} {x : Str} : x ∈ keptKeys keys ns ↔ x ∈ ns ∨ (x = Str.ofString "" ∧ Str.ofString "" ∈ keys) := by
  unfold keptKeys
  rw [List.mem_append]
  refine or_congr_right ?_
  split
  · rename_i h
    rw [List.mem_singleton]
    exact ⟨fun e => ⟨e, h⟩, fun e => e.1⟩
  · rename_i h
    exact ⟨fun z => (List.not_mem_nil z).elim, fun z => absurd z.2 h⟩
theorem asc_perm {ys ks : List Str} (p : ys.Perm ks) (s : sortedS ys = true) (nd : ks.Nodup) : Asc ys := asc_of s (p.nodup_iff.mpr nd)
theorem cont_of {R X : Hp → Prop} {G : Prop} (first : (∀ H, R H → X H) → G) (rest : ∀ H, R H → X H) : G := first rest
theorem pool_noE : Str.ofString "" ∉ poolS := by decide +kernel
theorem ok_restrict_right {f : Addr} {fd : FuncData} (F : Fun K "_law_restrict_right" "_law_restrict_right" s__law_restrict_right f fd) (m_list : mg "list" = none) (m_isinstance : mg "isinstance" = none) (m_tuple : mg "tuple" = none) (m_sorted : mg "sorted" = none) (m_dict : mg "dict" = none)
    (C__law_draw : Cal P w K mg base "_law_draw" 1 ["_law_source_here", "_law_limit"] spDraw) (C_restrict : Cal P w K mg base "restrict" 1 ["assignment", "names"] (spRestrict K)) (C__law_pool : Cal P w K mg base "_law_pool" 1 [] spPool)
    (C__law_some : Cal P w K mg base "_law_some" 2 ["_law_source_here", "_law_names", "_law_share"] (spSome K)) :
    FnOk P w K mg base CX0 3 f fd ["_law_source_here"] spRight := by
  refine F.ok sc__law_restrict_right (fun vs H Q E h => ?_) (fun cdv A outer s H vs Q E hr h => ?_)
  · obtain ⟨a, rfl, _⟩ := h
    rfl
  · obtain ⟨a, rfl, hA, q⟩ := h
    have hu := hu_of hr
    refine ⟨_, (pss_cons (ps_set (i := 1) sc__law_restrict_right.nd rfl (Or.inl rfl) (pe_cal C__law_some (hr.mono (by decide)) (pa_cons (pv 0) (pa_cons (pe_cal0 C__law_pool (hr.mono (by decide))) (pa_cons pe_int pa_nil)))))
    (pss_cons (ps_set (i := 2) sc__law_restrict_right.nd rfl (Or.inr rfl) pe_dnewK)
    (pss_cons (ps_for PassesOwn.never rfl (pi_list (pv 1)) (pg_name (i := 3) sc__law_restrict_right.nd rfl (Or.inl rfl))
      (pss_one (ps_dput hu (pv 2) (pv 3) (pe_op op_sub (pe_cal C__law_draw (hr.mono (by decide)) (pa_cons (pv 0) (pa_cons pe_int pa_nil))) pe_int) rfl)))
    (pss_cons (ps_if (pt_cmpR op_eq (pe_cal C__law_draw (hr.mono (by decide)) (pa_cons (pv 0) (pa_cons pe_int pa_nil))) pe_int (nomark _))
      (pss_one (ps_dput hu (pv 2) pe_str (pe_cal C__law_draw (hr.mono (by decide)) (pa_cons (pv 0) (pa_cons pe_int pa_nil))) rfl))
      pss_nil)
    (pss_cons (ps_set (i := 4) sc__law_restrict_right.nd rfl (Or.inr rfl) (pe_cal C__law_some (hr.mono (by decide)) (pa_cons (pv 0) (pa_cons (pv 1) (pa_cons pe_int pa_nil)))))
    (pss_cons (ps_setLc (i := 5) (own := [("_law_name", 3)]) (tt := tYes) rfl sc__law_restrict_right.nd rfl rfl (sw_true rfl rfl rfl (by decide +kernel)) (pi_list (pe_callB (id := "sorted") (call_sortedD rfl) (by rfl) m_sorted (by decide +kernel) (pa_cons (pv 2) pa_nil))) (blkOk_by (N := n__law_restrict_right) (sc := defScope s__law_restrict_right) (by decide +kernel)) (fun _ _ _ _ _ => pg_name (i := 3) sc__law_restrict_right.nd rfl (Or.inl rfl)) (fun _ _ _ _ _ => pts_nil) (fun _ _ _ _ _ => (pe_tup (pa_cons (pv 3) (pa_cons (pe_dget hu (pv 2) (pv 3) (fun _ _ => rfl)) pa_nil)))))
    (pss_cons (ps_set (i := 6) sc__law_restrict_right.nd rfl (Or.inr rfl) (pe_cal C_restrict (hr.mono (by decide)) (pa_cons (pv 2) (pa_cons (pe_callTy (T := "list") call_list_of (by rfl) m_list (by decide +kernel) (pa_cons (pv 4) pa_nil)) pa_nil))))
    (pss_cons (ps_setLc (i := 7) (own := [("_law_pair", 9)]) rfl sc__law_restrict_right.nd rfl rfl (sw_true rfl rfl rfl (by decide +kernel)) (pi_list (pv 5)) (blkOk_by (N := n__law_restrict_right) (sc := defScope s__law_restrict_right) (by decide +kernel)) (fun _ _ _ _ _ => pg_name (i := 9) sc__law_restrict_right.nd rfl (Or.inl rfl)) (fun _ _ _ _ _ => pts_one (PW.pt (pw_or (pt_cmpR (op_in_seqK (K := K) rfl) (pe_ix (ix_tupK (K := K) rfl) (pv 9) pe_int (fun _ _ => rfl)) (pv 4) (by rfl)) (pw_or1 (pt_cmpR op_eq (pe_ix (ix_tupK (K := K) rfl) (pv 9) pe_int (fun _ _ => rfl)) pe_str (nomark _)))))) (fun _ _ _ _ _ => (pv 9)))
    (pss_cons (ps_if (PW.pt (pw_or (pt_not (pt_val (pe_callB (id := "isinstance") call_isi (by rfl) m_isinstance (by decide +kernel) (pa_cons (pv 6) (pa_cons (pe_bltn (v := .ty "dict") (by rfl) m_dict (by decide +kernel) rfl) pa_nil))))) (pw_or1 (pt_cmpR (op_neD hr.units) (pe_lc (own := [("_law_name", 3)]) (tt := tYes) rfl sc__law_restrict_right.nd (pi_list (pe_callB (id := "sorted") (call_sortedD rfl) (by rfl) m_sorted (by decide +kernel) (pa_cons (pv 6) pa_nil))) (blkOk_by (N := n__law_restrict_right) (sc := defScope s__law_restrict_right) (by decide +kernel)) (fun _ _ _ _ _ => pg_name (i := 3) sc__law_restrict_right.nd rfl (Or.inl rfl)) (fun _ _ _ _ _ => pts_nil) (fun _ _ _ _ _ => (pe_tup (pa_cons (pv 3) (pa_cons (pe_dget hu (pv 6) (pv 3) (fun _ _ => rfl)) pa_nil))))) (pv 7) (nomark _)))))
      (pss_one (ps_ret pe_bl))
      pss_nil)
    (pss_cons (ps_dput hu (pv 6) pe_str pe_int rfl)
    (pss_cons (ps_set (i := 8) sc__law_restrict_right.nd rfl (Or.inr rfl) (pe_cal C_restrict (hr.mono (by decide)) (pa_cons (pv 2) (pa_cons (pe_callTy (T := "tuple") call_tuple_of (by rfl) m_tuple (by decide +kernel) (pa_cons (pv 4) pa_nil)) pa_nil))))
    (pss_cons (ps_if (pt_cmpR (op_neD hr.units) (pe_lc (own := [("_law_name", 3)]) (tt := tYes) rfl sc__law_restrict_right.nd (pi_list (pe_callB (id := "sorted") (call_sortedD rfl) (by rfl) m_sorted (by decide +kernel) (pa_cons (pv 2) pa_nil))) (blkOk_by (N := n__law_restrict_right) (sc := defScope s__law_restrict_right) (by decide +kernel)) (fun _ _ _ _ _ => pg_name (i := 3) sc__law_restrict_right.nd rfl (Or.inl rfl)) (fun _ _ _ _ _ => pts_nil) (fun _ _ _ _ _ => (pe_tup (pa_cons (pv 3) (pa_cons (pe_dget hu (pv 2) (pv 3) (fun _ _ => rfl)) pa_nil))))) (pv 5) (nomark _))
      (pss_one (ps_ret pe_bl))
      pss_nil)
    (pss_one (ps_ret (pe_cmpR (op_eqD hr.units) (pe_lc (own := [("_law_name", 3)]) (tt := tYes) rfl sc__law_restrict_right.nd (pi_list (pe_callB (id := "sorted") (call_sortedD rfl) (by rfl) m_sorted (by decide +kernel) (pa_cons (pv 8) pa_nil))) (blkOk_by (N := n__law_restrict_right) (sc := defScope s__law_restrict_right) (by decide +kernel)) (fun _ _ _ _ _ => pg_name (i := 3) sc__law_restrict_right.nd rfl (Or.inl rfl)) (fun _ _ _ _ _ => pts_nil) (fun _ _ _ _ _ => (pe_tup (pa_cons (pv 3) (pa_cons (pe_dget hu (pv 8) (pv 3) (fun _ _ => rfl)) pa_nil))))) (pv 7) (nomark _)))))))))))))))), ?_⟩
    walk_at "rd"
    intro p0 np0
    walk_at "rd"
    refine ⟨a, p0, poolS, 2, rfl, src_upd hA (src_ne hA np0), sq upd_same, src_ne hA np0, by decide, by decide, by decide, fun r0 H1 ns b1 A1 nr0 hr0 hns => ?_⟩
    have c1 : SameBut a H H1 := (Same.but (same_new np0)).trans b1
    have hnl := hns.length_le
    rw [pool_len] at hnl
    have hnd : ns.Nodup := asc_nodup (List.Pairwise.sublist hns pool_asc)
    have a0 : a ≠ r0 := by
      obtain ⟨x, y, e⟩ := hA
      exact ne_of_none (same_new np0 _ _ e) nr0
    walk_at "rd"
    intro D nD
    have aD := src_ne A1 nD
    walk_at "rd"
    refine ⟨⟨_, sq (same_new nD _ _ hr0)⟩, for_list (K := K) (a := r0) (xs := ns.map V.str) (fun i σ H' => ∃ (y3 : Option V) (get : Str → Int), σ = [some (.ref a), some (.ref r0), some (.ref D), y3, none, none, none, none, none, none] ∧ H' D = some (.dK (kvOf (ns.take i) get)) ∧ SameBut a H1 H' ∧ Src H' a)
      ⟨none, fun _ => 0, rfl, upd_same, but_new nD (SameBut.refl a H1), src_upd A1 aD⟩ (fun i σ H' _ ⟨_, _, _, _, s, _⟩ => sq (s _ _ a0.symm hr0)) ?_ ?_⟩
    · rintro i x σ H2 hx ⟨y3, get, rfl, hd, b2, A2⟩
      obtain ⟨n, hn, rfl⟩ := at_map hx
      have hni : n ∉ ns.take i := fun z => by
        obtain ⟨j, hj⟩ := List.mem_iff_getElem?.mp z
        rw [List.getElem?_take] at hj
        split at hj
        · rename_i hji
          obtain ⟨i1, e1⟩ := List.getElem?_eq_some_iff.mp hj
          obtain ⟨i2, e2⟩ := List.getElem?_eq_some_iff.mp hn
          exact List.pairwise_iff_getElem.mp hnd j i i1 i2 hji (e1.trans e2.symm)
        · cases hj
      walk_at "rd"
      refine draw_of (lim := 1000) A2 (by decide) fun r3 H3 _ _ b3 A3 => ?_
      walk_at "rd"
      refine ⟨D, _, rfl, .inl ⟨_, Sum.inr n, b3 _ _ aD.symm hd, rfl, ?_, rfl⟩, ?_⟩
      · rw [kv_len, List.length_take]
        exact szl (by omega)
      refine ⟨_, (fun z => if z = n then r3 - 500 else get z), rfl, ?_, but_new nD (b2.trans b3), src_upd A3 aD⟩
      rw [upd_same, kv_put hni, List.take_add_one, hn]
      rfl
    rintro σ H2 ⟨y3, get0, rfl, hd2, b2, A2⟩
    rw [List.length_map, List.take_length] at hd2
    walk_at "rd"
    refine draw_of (lim := 2) A2 (by decide) fun r3 H3 _ _ b3 A3 => ?_
    walk_at "rd"
    have noE : Str.ofString "" ∉ ns := fun h => pool_noE (hns.subset h)
    apply cont_of (R := fun H' => ∃ (keys : List Str) (get : Str → Int), H' D = some (.dK (kvOf keys get)) ∧ (keys = ns ∨ keys = ns ++ [Str.ofString ""]) ∧ SameBut a H1 H' ∧ Src H' a)
    · intro k
      refine ite2 (fun _ => ?_) (fun _ => ?_)
      · walk_at "rd"
        refine draw_of (lim := 9) A3 (by decide) fun r4 H4 _ _ b4 A4 => ?_
        walk_at "rd"
        refine ⟨D, _, rfl, .inl ⟨_, Sum.inr (Str.ofString ""), b4 _ _ aD.symm (b3 _ _ aD.symm hd2), rfl, ?_, rfl⟩, ?_⟩
        · rw [kv_len]
          exact szl (by omega)
        have hR : ∃ (keys : List Str) (get : Str → Int), (upd H4 D (.dK (putK (kvOf ns get0) (Sum.inr (Str.ofString "")) (.int r4)))) D = some (.dK (kvOf keys get)) ∧ (keys = ns ∨ keys = ns ++ [Str.ofString ""]) ∧ SameBut a H1 (upd H4 D (.dK (putK (kvOf ns get0) (Sum.inr (Str.ofString "")) (.int r4)))) ∧ Src (upd H4 D (.dK (putK (kvOf ns get0) (Sum.inr (Str.ofString "")) (.int r4)))) a := by
          refine ⟨_, (fun z => if z = Str.ofString "" then r4 else get0 z), ?_, .inr rfl, but_new nD ((b2.trans b3).trans b4), src_upd A4 aD⟩
          rw [upd_same, kv_put noE]
        revert hR
        generalize upd H4 D (.dK (putK (kvOf ns get0) (Sum.inr (Str.ofString "")) (.int r4))) = H5
        exact fun hR => k H5 hR
      · exact k H3 ⟨ns, get0, b3 _ _ aD.symm hd2, .inl rfl, b2.trans b3, A3⟩
    rintro H4 ⟨keys, get, hd4, hkeys, b4, A4⟩
    have hkl : keys.length ≤ 9 := by
      rcases hkeys with e | e
      · rw [e]
        omega
      · rw [e, List.length_append]
        show _ + 1 ≤ _
        omega
    have hkn : keys.Nodup := by
      rcases hkeys with e | e
      · exact e ▸ hnd
      · rw [e]
        refine List.nodup_append.mpr ⟨hnd, List.nodup_cons.mpr ⟨List.not_mem_nil, List.nodup_nil⟩, fun x hx y hy e => ?_⟩
        rw [e, List.mem_singleton.mp hy] at hx
        exact noE hx
    have hkp : ∀ x ∈ keys, x ∈ poolE := fun x hx => by
      rcases hkeys with e | e
      · rw [e] at hx
        exact List.mem_cons_of_mem _ (hns.subset hx)
      · rw [e] at hx
        rcases List.mem_append.mp hx with h | h
        · exact List.mem_cons_of_mem _ (hns.subset h)
        · rw [List.mem_singleton.mp h]
          exact List.mem_cons_self
    have hnk : ∀ x ∈ ns, x ∈ keys := fun x hx => by
      rcases hkeys with e | e
      · exact e ▸ hx
      · rw [e]
        exact List.mem_append_left _ hx
    walk_at "rd"
    refine ⟨a, r0, ns, 2, rfl, A4, sq (b4 _ _ a0.symm hr0), a0, by decide, by decide, by omega, fun kA H5 ks b5 A5 nkA hkA hks => ?_⟩
    have cb := c1.trans (b4.trans b5)
    have hd5 := b5 _ _ aD.symm hd4
    have hksn : ks.Nodup := hnd.sublist hks
    have hksl := hks.length_le
    have hks0 : Str.ofString "" ∉ ks := fun h => noE (hks.subset h)
    have hksk : ∀ x ∈ ks, x ∈ keys := fun x hx => hnk x (hks.subset hx)
    walk_at "rd"
    refine ⟨D, kvOf keys get, keys, rfl, .inl hd5, kv_keys, by omega, fun ys p1 pm1 st1 np1 => ?_⟩
    have asc1 : Asc ys := asc_perm pm1 st1 hkn
    have sp1 := same_new np1 (o := .lst (ys.map V.str))
    have hp1 := sp1 _ _ hd5
    walk_at "rd"
    refine ⟨⟨_, sq upd_same⟩, fun M1 nM1 => ?_⟩
    refine lc_it walk_list (fun i H' => ∃ us, H' M1 = some (.lst us) ∧ DpAll K (mn H' [M1]) us ((ys.take i).map (pairD get)) ∧ Same (upd H5 p1 (.lst (ys.map V.str))) H') ⟨[], upd_same, .nil, same_new nM1⟩ (fun i H' _ ⟨_, _, _, s⟩ => sq (s _ _ upd_same)) ?_ ?_
    · rintro i x H1 H1' hi ⟨us, hM, dM, s1⟩ ⟨rfl, hx⟩
      obtain ⟨n, hn, rfl⟩ := at_map hx
      have hnk : n ∈ keys := pm1.mem_iff.mp (List.mem_of_getElem? hn)
      refine ⟨rfl, ?_⟩
      walk_at "rd"
      refine ⟨D, _, rfl, (kv_in (get := get) hnk) ▸ DGet.k (k := Sum.inr n) (s1 _ _ hp1), ?_⟩
      walk_at "rd"
      refine ⟨sz (by show 2 ≤ 100000; decide), fun t nt => ?_⟩
      have st := same_new nt (o := .tup [V.str n, V.int (get n)])
      refine ⟨_, st _ _ hM, ?_, us ++ [.ref t], upd_same, ?_, same_at nM1 (Same.trans s1 st)⟩
      · rw [da_len dM, List.length_map, List.length_take]
        have := (List.getElem?_eq_some_iff.mp hn).1
        have := pm1.length_eq
        exact szl (by omega)
      · rw [mn_upd (S := [M1]) List.mem_cons_self, List.take_add_one, hn, List.map_append]
        refine da_app (dpAll_same (mn_all st) dM) (da_one (.tup (sqt (mn_at ?_ upd_same)) (.cons (.str _) (da_one (.int _)))))
        exact fun z => ne_of_none hM nt (List.mem_singleton.mp z).symm
    · rintro H6 ⟨us, hM6, dM1, s11⟩
      rw [List.length_map, List.take_length] at dM1
      have s6 := Same.trans sp1 s11
      have dp6 : DpAll K H6 us (ys.map (pairD get)) := dpAll_same mn_same dM1
      have hyp : ∀ x ∈ ys, x ∈ poolE := fun x hx => hkp x (pm1.mem_iff.mp hx)
      walk_at "rd"
      refine ⟨_, _, rfl, .inl (sq (s6 _ _ hkA)), fun kL nkL => ?_⟩
      walk_at "rd"
      refine ⟨D, kL, keys, get, ks, rfl, (Same.trans s6 (same_new nkL)) _ _ hd5, .inl (sq upd_same), hksn, hksk, hks0, by omega, fun r H7 s7 nr hr => ?_⟩
      have s67 := Same.trans (same_new nkL) s7
      have s57 := Same.trans s6 s67
      have nr6 : H6 r = none := (same_new nkL).free nr
      walk_at "rd"
      refine ⟨⟨_, sq (s67 _ _ hM6)⟩, fun E nE => ?_⟩
      refine lc_it walk_list (fun i H' => ∃ vs, H' E = some (.lst vs) ∧ DpAll K H6 vs (((ys.take i).filter fun n => decide (n ∈ ks) || decide (n = Str.ofString "")).map (pairD get)) ∧ Same H7 H') ⟨[], upd_same, .nil, same_new nE⟩ (fun i H' _ ⟨_, _, _, s⟩ => sq (s _ _ (s67 _ _ hM6))) ?_ ?_
      · rintro i x H8' H8 hi ⟨vs, hE, dE, s8⟩ ⟨rfl, hx⟩
        obtain ⟨d, e, hxd⟩ := da_at dp6 hx
        obtain ⟨n, hn, rfl⟩ : ∃ n, ys[i]? = some n ∧ d = pairD get n := by
          rw [List.getElem?_map] at e
          cases e2 : ys[i]? with
          | none =>
            rw [e2] at e
            cases e
          | some y =>
            rw [e2] at e
            exact ⟨y, rfl, (Option.some.inj e).symm⟩
        obtain ⟨pa, rfl, spa⟩ := pair_inv hxd
        have spa8 := Bx.Same.tup (Same.trans s67 s8) spa
        have hfil : ((ys.take (i + 1)).filter fun n => decide (n ∈ ks) || decide (n = Str.ofString "")) = ((ys.take i).filter fun n => decide (n ∈ ks) || decide (n = Str.ofString "")) ++ if (decide (n ∈ ks) || decide (n = Str.ofString "")) = true then [n] else [] := by
          rw [List.take_add_one, hn, List.filter_append]
          show _ ++ List.filter _ [n] = _
          rw [List.filter_cons, List.filter_nil]
        have hlen : ((ys.take i).filter fun n => decide (n ∈ ks) || decide (n = Str.ofString "")).length ≤ 100 := by
          have e1 : ((ys.take i).filter fun n => decide (n ∈ ks) || decide (n = Str.ofString "")).length ≤ (ys.take i).length := List.length_filter_le ..
          have e2 := pm1.length_eq
          rw [List.length_take] at e1
          omega
        have app : (decide (n ∈ ks) || decide (n = Str.ofString "")) = true → ∃ acc, H8 E = some (.lst acc) ∧ acc.length < sizeLine ∧ ∃ vs, (upd H8 E (.lst (acc ++ [.ref pa]))) E = some (.lst vs) ∧ DpAll K H6 vs (((ys.take (i + 1)).filter fun n => decide (n ∈ ks) || decide (n = Str.ofString "")).map (pairD get)) ∧ Same H7 (upd H8 E (.lst (acc ++ [.ref pa]))) := fun hb => by
          refine ⟨_, hE, ?_, vs ++ [.ref pa], upd_same, ?_, same_at nE s8⟩
          · rw [da_len dE, List.length_map]
            exact szl (by omega)
          · rw [hfil, if_pos hb, List.map_append]
            exact da_app dE (da_one hxd)
        refine ⟨rfl, ?_⟩
        walk_at "rd"
        refine ⟨_, _, _, _, rfl, rfl, spa8, atI_nat (j := 0) rfl, ?_⟩
        walk_at "rd"
        refine ⟨_, _, rfl, .inl (sq ((Same.trans s57 s8) _ _ hkA)), rfl, flat_all _, ?_⟩
        rw [inV_str]
        refine ⟨_, rfl, ?_⟩
        refine ite2 (fun h1 => ?_) (fun h1 => ?_)
        · have h1 : decide (n ∈ ks) = true := h1
          walk_at "rd"
          exact app (by rw [h1]; rfl)
        · have h1 : ¬ (decide (n ∈ ks) = true) := h1
          walk_at "rd"
          refine ⟨_, _, _, _, rfl, rfl, spa8, atI_nat (j := 0) rfl, ?_⟩
          walk_at "rd"
          refine ite2 (fun h2 => ?_) (fun h2 => ?_)
          · have e : n = Str.ofString "" := V.str.inj (of_decide_eq_true h2)
            walk_at "rd"
            exact app (by rw [decide_eq_true e, Bool.or_true])
          · have e : ¬ n = Str.ofString "" := fun e => h2 (decide_eq_true (congrArg V.str e))
            refine ⟨vs, hE, ?_, s8⟩
            rw [hfil, if_neg (by rw [decide_eq_false e, Bool.or_false]; exact h1), List.append_nil]
            exact dE
      · rintro H8 ⟨vs, hE, dE, s8⟩
        rw [da_len dp6, List.length_map, List.take_length] at dE
        generalize hfs : (ys.filter fun n => decide (n ∈ ks) || decide (n = Str.ofString "")) = fs at dE
        have hfa : Asc fs := hfs ▸ List.Pairwise.filter _ asc1
        have hfm : ∀ x, x ∈ keptKeys keys ks ↔ x ∈ fs := fun x => by
          rw [kept_mem, ← hfs, List.mem_filter, Bool.or_eq_true, decide_eq_true_iff, decide_eq_true_iff, pm1.mem_iff]
          refine ⟨fun h => h.elim (fun h => ⟨hksk x h, .inl h⟩) fun h => ⟨h.1 ▸ h.2, .inr h.1⟩, fun h => h.2.elim .inl fun e => .inr ⟨e, e ▸ h.1⟩⟩
        have hfp : ∀ x ∈ fs, x ∈ poolE := fun x hx => by
          rw [← hfs] at hx
          exact hyp x (List.mem_filter.mp hx).1
        have hkk : (keptKeys keys ks).Nodup := kept_nodup hksn hks0
        have hkkl : (keptKeys keys ks).length ≤ 9 := by
          unfold keptKeys
          rw [List.length_append]
          split
          · show _ + 1 ≤ _
            omega
          · show _ + 0 ≤ _
            omega
        have hr8 := s8 _ _ hr
        have layE : Lay 2 (.list (fs.map (pairD get))) := pairs_lay hfp
        have layB : Lay 2 (.list (ys.map (pairD get))) := pairs_lay hyp
        walk_at "rd"
        refine ⟨_, _, _, _, _, rfl, .ty _, .base (.dK hr8), rfl, ?_⟩
        walk_at "rd"
        refine ⟨r, kvOf (keptKeys keys ks) get, (keptKeys keys ks), rfl, .inl hr8, kv_keys, by omega, fun zs2 p2 pm2 st2 np2 => ?_⟩
        have asc2 : Asc zs2 := asc_perm pm2 st2 hkk
        have sp2 := same_new np2 (o := .lst (zs2.map V.str))
        have hp2 := sp2 _ _ hr8
        walk_at "rd"
        refine ⟨⟨_, sq upd_same⟩, fun M2 nM2 => ?_⟩
        refine lc_it walk_list (fun i H' => ∃ us, H' M2 = some (.lst us) ∧ DpAll K (mn H' [M2]) us ((zs2.take i).map (pairD get)) ∧ Same (upd H8 p2 (.lst (zs2.map V.str))) H') ⟨[], upd_same, .nil, same_new nM2⟩ (fun i H' _ ⟨_, _, _, s⟩ => sq (s _ _ upd_same)) ?_ ?_
        · rintro i x H1 H1' hi ⟨us, hM, dM, s1⟩ ⟨rfl, hx⟩
          obtain ⟨n, hn, rfl⟩ := at_map hx
          have hnk : n ∈ (keptKeys keys ks) := pm2.mem_iff.mp (List.mem_of_getElem? hn)
          refine ⟨rfl, ?_⟩
          walk_at "rd"
          refine ⟨r, _, rfl, (kv_in (get := get) hnk) ▸ DGet.k (k := Sum.inr n) (s1 _ _ hp2), ?_⟩
          walk_at "rd"
          refine ⟨sz (by show 2 ≤ 100000; decide), fun t nt => ?_⟩
          have st := same_new nt (o := .tup [V.str n, V.int (get n)])
          refine ⟨_, st _ _ hM, ?_, us ++ [.ref t], upd_same, ?_, same_at nM2 (Same.trans s1 st)⟩
          · rw [da_len dM, List.length_map, List.length_take]
            have := (List.getElem?_eq_some_iff.mp hn).1
            have := pm2.length_eq
            exact szl (by omega)
          · rw [mn_upd (S := [M2]) List.mem_cons_self, List.take_add_one, hn, List.map_append]
            refine da_app (dpAll_same (mn_all st) dM) (da_one (.tup (sqt (mn_at ?_ upd_same)) (.cons (.str _) (da_one (.int _)))))
            exact fun z => ne_of_none hM nt (List.mem_singleton.mp z).symm
        · rintro H9 ⟨us2, hM9, dM2, s12⟩
          rw [List.length_map, List.take_length] at dM2
          have s9 := Same.trans sp2 s12
          have dp9 : DpAll K H9 us2 (zs2.map (pairD get)) := dpAll_same mn_same dM2
          have e2 : zs2 = fs := asc_eq asc2 hfa fun x => pm2.mem_iff.trans (hfm x)
          have s69 := Same.trans (Same.trans s67 s8) s9
          walk_at "rd"
          refine ⟨_, _, .lst (sq hM9) (e2 ▸ dp9), .lst (sq (s9 _ _ hE)) (dpAll_same s69 dE), shape layE (by decide), shape layE (by decide), ?_⟩
          rw [eq_refl layE]
          walk_at "rd"
          have hr9 := s9 _ _ hr8
          have nEr : E ≠ r := (ne_of_none hr nE).symm
          refine ⟨r, _, rfl, .inl ⟨_, Sum.inr (Str.ofString "a"), hr9, rfl, by rw [kv_len]; exact szl (by omega), rfl⟩, ?_⟩
          generalize hu10 : putK (kvOf (keptKeys keys ks) get) (Sum.inr (Str.ofString "a")) (V.int 1000) = kv10
          have s6_10 : Same H6 (upd H9 r (.dK kv10)) := same_at nr6 s69
          have hE10 : (upd H9 r (.dK kv10)) E = some (.lst vs) := by
            rw [upd_ne nEr]
            exact s9 _ _ hE
          generalize hH10 : upd H9 r (.dK kv10) = H10 at s6_10 hE10
          have s5_10 := Same.trans s6 s6_10
          walk_at "rd"
          refine ⟨_, _, rfl, .inl ⟨sq (s5_10 _ _ hkA), fun kT nkT => ?_⟩⟩
          have sT := same_new nkT (o := .tup (ks.map V.str))
          walk_at "rd"
          refine ⟨D, kT, keys, get, ks, rfl, (Same.trans s5_10 sT) _ _ hd5, .inr (sqt upd_same), hksn, hksk, hks0, by omega, fun r2 H11 s11 nr2 hr2 => ?_⟩
          have s10_11 := Same.trans sT s11
          have s5_11 := Same.trans s5_10 s10_11
          have hd11 := s5_11 _ _ hd5
          walk_at "rd"
          refine ⟨D, kvOf keys get, keys, rfl, .inl hd11, kv_keys, by omega, fun zs3 p3 pm3 st3 np3 => ?_⟩
          have asc3 : Asc zs3 := asc_perm pm3 st3 hkn
          have sp3 := same_new np3 (o := .lst (zs3.map V.str))
          have hp3 := sp3 _ _ hd11
          walk_at "rd"
          refine ⟨⟨_, sq upd_same⟩, fun M3 nM3 => ?_⟩
          refine lc_it walk_list (fun i H' => ∃ us, H' M3 = some (.lst us) ∧ DpAll K (mn H' [M3]) us ((zs3.take i).map (pairD get)) ∧ Same (upd H11 p3 (.lst (zs3.map V.str))) H') ⟨[], upd_same, .nil, same_new nM3⟩ (fun i H' _ ⟨_, _, _, s⟩ => sq (s _ _ upd_same)) ?_ ?_
          · rintro i x H1 H1' hi ⟨us, hM, dM, s1⟩ ⟨rfl, hx⟩
            obtain ⟨n, hn, rfl⟩ := at_map hx
            have hnk : n ∈ keys := pm3.mem_iff.mp (List.mem_of_getElem? hn)
            refine ⟨rfl, ?_⟩
            walk_at "rd"
            refine ⟨D, _, rfl, (kv_in (get := get) hnk) ▸ DGet.k (k := Sum.inr n) (s1 _ _ hp3), ?_⟩
            walk_at "rd"
            refine ⟨sz (by show 2 ≤ 100000; decide), fun t nt => ?_⟩
            have st := same_new nt (o := .tup [V.str n, V.int (get n)])
            refine ⟨_, st _ _ hM, ?_, us ++ [.ref t], upd_same, ?_, same_at nM3 (Same.trans s1 st)⟩
            · rw [da_len dM, List.length_map, List.length_take]
              have := (List.getElem?_eq_some_iff.mp hn).1
              have := pm3.length_eq
              exact szl (by omega)
            · rw [mn_upd (S := [M3]) List.mem_cons_self, List.take_add_one, hn, List.map_append]
              refine da_app (dpAll_same (mn_all st) dM) (da_one (.tup (sqt (mn_at ?_ upd_same)) (.cons (.str _) (da_one (.int _)))))
              exact fun z => ne_of_none hM nt (List.mem_singleton.mp z).symm
          · rintro H12 ⟨us3, hM12, dM3, s13⟩
            rw [List.length_map, List.take_length] at dM3
            have s12 := Same.trans sp3 s13
            have dp12 : DpAll K H12 us3 (zs3.map (pairD get)) := dpAll_same mn_same dM3
            have e3 : zs3 = ys := asc_eq asc3 asc1 fun x => pm3.mem_iff.trans pm1.mem_iff.symm
            have s6_12 := Same.trans (Same.trans s6_10 s10_11) s12
            walk_at "rd"
            refine ⟨_, _, .lst (sq hM12) (e3 ▸ dp12), .lst (sq (s6_12 _ _ hM6)) (dpAll_same s6_12 dp6), shape layB (by decide), shape layB (by decide), ?_⟩
            rw [eq_refl layB]
            walk_at "rd"
            have hr12 := s12 _ _ hr2
            refine ⟨r2, kvOf (keptKeys keys ks) get, (keptKeys keys ks), rfl, .inl hr12, kv_keys, by omega, fun zs4 p4 pm4 st4 np4 => ?_⟩
            have asc4 : Asc zs4 := asc_perm pm4 st4 hkk
            have sp4 := same_new np4 (o := .lst (zs4.map V.str))
            have hp4 := sp4 _ _ hr12
            walk_at "rd"
            refine ⟨⟨_, sq upd_same⟩, fun M4 nM4 => ?_⟩
            refine lc_it walk_list (fun i H' => ∃ us, H' M4 = some (.lst us) ∧ DpAll K (mn H' [M4]) us ((zs4.take i).map (pairD get)) ∧ Same (upd H12 p4 (.lst (zs4.map V.str))) H') ⟨[], upd_same, .nil, same_new nM4⟩ (fun i H' _ ⟨_, _, _, s⟩ => sq (s _ _ upd_same)) ?_ ?_
            · rintro i x H1 H1' hi ⟨us, hM, dM, s1⟩ ⟨rfl, hx⟩
              obtain ⟨n, hn, rfl⟩ := at_map hx
              have hnk : n ∈ (keptKeys keys ks) := pm4.mem_iff.mp (List.mem_of_getElem? hn)
              refine ⟨rfl, ?_⟩
              walk_at "rd"
              refine ⟨r2, _, rfl, (kv_in (get := get) hnk) ▸ DGet.k (k := Sum.inr n) (s1 _ _ hp4), ?_⟩
              walk_at "rd"
              refine ⟨sz (by show 2 ≤ 100000; decide), fun t nt => ?_⟩
              have st := same_new nt (o := .tup [V.str n, V.int (get n)])
              refine ⟨_, st _ _ hM, ?_, us ++ [.ref t], upd_same, ?_, same_at nM4 (Same.trans s1 st)⟩
              · rw [da_len dM, List.length_map, List.length_take]
                have := (List.getElem?_eq_some_iff.mp hn).1
                have := pm4.length_eq
                exact szl (by omega)
              · rw [mn_upd (S := [M4]) List.mem_cons_self, List.take_add_one, hn, List.map_append]
                refine da_app (dpAll_same (mn_all st) dM) (da_one (.tup (sqt (mn_at ?_ upd_same)) (.cons (.str _) (da_one (.int _)))))
                exact fun z => ne_of_none hM nt (List.mem_singleton.mp z).symm
            · rintro H13 ⟨us4, hM13, dM4, s14⟩
              rw [List.length_map, List.take_length] at dM4
              have s13 := Same.trans sp4 s14
              have dp13 : DpAll K H13 us4 (zs4.map (pairD get)) := dpAll_same mn_same dM4
              have e4 : zs4 = fs := asc_eq asc4 hfa fun x => pm4.mem_iff.trans (hfm x)
              have s6_13 := Same.trans s6_12 s13
              walk_at "rd"
              refine ⟨_, _, .lst (sq hM13) (e4 ▸ dp13), .lst (sq ((Same.trans (Same.trans s10_11 s12) s13) _ _ hE10)) (dpAll_same s6_13 dE), shape layE (by decide), shape layE (by decide), ?_⟩
              rw [eq_refl layE]
              exact q _ (cb.trans (Same.but (Same.trans s6 s6_13)))
end
end K01
namespace K01
local macro_rules | `(tactic| walk_at "rd") => `(tactic| repeat (first | refine ⟨rfl, ?_⟩ | refine ⟨_, rfl, ?_⟩ | refine ⟨_, _, rfl, rfl, ?_⟩ | refine ⟨⟨_, rfl⟩, ?_⟩))
open PySem PySem.Spec PyProof.Rows L2 Bx TL Dx
section
variable {P : Program} {w : World} {K : PySem.W.Frag} {mg : Str → Option Value} {base : Heap}
/-! ### the law -/
def spLaw (K : PySem.W.Frag) : Sp := fun vs H Q _ => ∃ (a : Addr) (ns : List Int), vs = [.ref a] ∧ SqL K H a (ns.map V.int) ∧ ns.length ≤ 63 ∧ ∀ H', Q (.bl true) H'
theorem ok_law {f : Addr} {fd : FuncData} (F : Fun K "law" "law" s_law f fd)
    (C__law_source : Cal P w K mg base "_law_source" 1 ["_law_script", "_law_k"] (spSource K)) (C__law_join_right : Cal P w K mg base "_law_join_right" 4 ["_law_source_here"] spRight) (C__law_widen_right : Cal P w K mg base "_law_widen_right" 4 ["_law_source_here"] spRight)
    (C__law_restrict_right : Cal P w K mg base "_law_restrict_right" 3 ["_law_source_here"] spRight) : FnOk P w K mg base CX0 5 f fd ["_law_script"] (spLaw K) := by
  refine F.ok sc_law (fun vs H Q E h => ?_) (fun cdv A outer s H vs Q E hr h => ?_)
  · obtain ⟨a, ns, rfl, _⟩ := h
    rfl
  · obtain ⟨a, ns, rfl, hS, hlen, q⟩ := h
    have keep : ∀ {H' H'' : Hp} {b : Addr} {o : HO}, Same H H' → H' b = none → SameBut b (upd H' b o) H'' → Same H H'' := fun s n b3 => SameBut.same s (s.free n) (SameBut.trans SameBut.upd b3)
    refine ⟨_, (pss_cons (ps_if (pt_not (pt_val (pe_cal C__law_join_right (hr.mono (by decide)) (pa_cons (pe_cal C__law_source (hr.mono (by decide)) (pa_cons (pv 0) (pa_cons pe_int pa_nil))) pa_nil))))
      (pss_one (ps_ret pe_bl))
      pss_nil)
    (pss_cons (ps_if (pt_not (pt_val (pe_cal C__law_widen_right (hr.mono (by decide)) (pa_cons (pe_cal C__law_source (hr.mono (by decide)) (pa_cons (pv 0) (pa_cons pe_int pa_nil))) pa_nil))))
      (pss_one (ps_ret pe_bl))
      pss_nil)
    (pss_one (ps_ret (pe_cal C__law_restrict_right (hr.mono (by decide)) (pa_cons (pe_cal C__law_source (hr.mono (by decide)) (pa_cons (pv 0) (pa_cons pe_int pa_nil))) pa_nil)))))), ?_⟩
    walk_at "rd"
    refine ⟨_, _, 0, rfl, hS, by decide, fun b n c nb => ?_⟩
    walk_at "rd"
    refine ⟨⟨n, c, upd_same⟩, fun H2 b2 => ?_⟩
    have s2 := keep (Same.refl H) nb b2
    walk_at "rd"
    refine ⟨_, _, 1, rfl, s2.seq hS, by decide, fun b n c nb => ?_⟩
    walk_at "rd"
    refine ⟨⟨n, c, upd_same⟩, fun H3 b3 => ?_⟩
    have s3 := keep s2 nb b3
    walk_at "rd"
    refine ⟨_, _, 2, rfl, s3.seq hS, by decide, fun b n c nb => ?_⟩
    walk_at "rd"
    exact ⟨⟨n, c, upd_same⟩, fun H4 _ => q H4⟩
end
end K01
namespace K01
open PySem PySem.Spec PyProof.Rows L2 Bx TL
/-! ### what the top leaves -/
theorem all_mk {l : PySem.W.OpenLaw} {w : World} {K : PySem.W.Frag} {h : Heap} {mg : Str → Option Value} {fa : Addr} (X : K.In h) (G : h.Ns mainGlobals mg) (hfa : mg "law" = some (.ref fa))
    {f_merge_names : Addr} {oc_merge_names kV_merge_names dc_merge_names pm_merge_names cd_merge_names ct_merge_names : Value} {od_merge_names an_merge_names : Option Addr} {sl_merge_names : Array (Option Value)}
    {f_join : Addr} {oc_join kV_join dc_join pm_join cd_join ct_join : Value} {od_join an_join : Option Addr} {sl_join : Array (Option Value)}
    {f_widen : Addr} {oc_widen kV_widen dc_widen pm_widen cd_widen ct_widen : Value} {od_widen an_widen : Option Addr} {sl_widen : Array (Option Value)}
    {f_restrict : Addr} {oc_restrict kV_restrict dc_restrict pm_restrict cd_restrict ct_restrict : Value} {od_restrict an_restrict : Option Addr} {sl_restrict : Array (Option Value)}
    {f__law_source : Addr} {oc__law_source kV__law_source dc__law_source pm__law_source cd__law_source ct__law_source : Value} {od__law_source an__law_source : Option Addr} {sl__law_source : Array (Option Value)}
    {f__law_draw : Addr} {oc__law_draw kV__law_draw dc__law_draw pm__law_draw cd__law_draw ct__law_draw : Value} {od__law_draw an__law_draw : Option Addr} {sl__law_draw : Array (Option Value)}
    {f__law_pool : Addr} {oc__law_pool kV__law_pool dc__law_pool pm__law_pool cd__law_pool ct__law_pool : Value} {od__law_pool an__law_pool : Option Addr} {sl__law_pool : Array (Option Value)}
    {f__law_some : Addr} {oc__law_some kV__law_some dc__law_some pm__law_some cd__law_some ct__law_some : Value} {od__law_some an__law_some : Option Addr} {sl__law_some : Array (Option Value)}
    {f__law_theory : Addr} {oc__law_theory kV__law_theory dc__law_theory pm__law_theory cd__law_theory ct__law_theory : Value} {od__law_theory an__law_theory : Option Addr} {sl__law_theory : Array (Option Value)}
    {f__law_union : Addr} {oc__law_union kV__law_union dc__law_union pm__law_union cd__law_union ct__law_union : Value} {od__law_union an__law_union : Option Addr} {sl__law_union : Array (Option Value)}
    {f__law_join_right : Addr} {oc__law_join_right kV__law_join_right dc__law_join_right pm__law_join_right cd__law_join_right ct__law_join_right : Value} {od__law_join_right an__law_join_right : Option Addr} {sl__law_join_right : Array (Option Value)}
    {f__law_widen_right : Addr} {oc__law_widen_right kV__law_widen_right dc__law_widen_right pm__law_widen_right cd__law_widen_right ct__law_widen_right : Value} {od__law_widen_right an__law_widen_right : Option Addr} {sl__law_widen_right : Array (Option Value)}
    {f__law_restrict_right : Addr} {oc__law_restrict_right kV__law_restrict_right dc__law_restrict_right pm__law_restrict_right cd__law_restrict_right ct__law_restrict_right : Value} {od__law_restrict_right an__law_restrict_right : Option Addr} {sl__law_restrict_right : Array (Option Value)}
    {f_law : Addr} {oc_law kV_law dc_law pm_law cd_law ct_law : Value} {od_law an_law : Option Addr} {sl_law : Array (Option Value)}
    (a_merge_names : PySem.W.nsIn K mainGlobals "merge_names" = some (some (.ref f_merge_names))) (l_merge_names : K.lookup f_merge_names = some ⟨oc_merge_names, od_merge_names, .func (PySem.W.fnOf "merge_names" "merge_names" (defArgs s_merge_names) (defBody s_merge_names) (defScope s_merge_names) .none kV_merge_names dc_merge_names pm_merge_names an_merge_names cd_merge_names ct_merge_names), sl_merge_names⟩) (c_merge_names : PySem.W.codeIn K cd_merge_names "merge_names" = true) (k_merge_names : PySem.W.keepIn K (.ref f_merge_names) = true)
    (a_join : PySem.W.nsIn K mainGlobals "join" = some (some (.ref f_join))) (l_join : K.lookup f_join = some ⟨oc_join, od_join, .func (PySem.W.fnOf "join" "join" (defArgs s_join) (defBody s_join) (defScope s_join) .none kV_join dc_join pm_join an_join cd_join ct_join), sl_join⟩) (c_join : PySem.W.codeIn K cd_join "join" = true) (k_join : PySem.W.keepIn K (.ref f_join) = true)
    (a_widen : PySem.W.nsIn K mainGlobals "widen" = some (some (.ref f_widen))) (l_widen : K.lookup f_widen = some ⟨oc_widen, od_widen, .func (PySem.W.fnOf "widen" "widen" (defArgs s_widen) (defBody s_widen) (defScope s_widen) .none kV_widen dc_widen pm_widen an_widen cd_widen ct_widen), sl_widen⟩) (c_widen : PySem.W.codeIn K cd_widen "widen" = true) (k_widen : PySem.W.keepIn K (.ref f_widen) = true)
    (a_restrict : PySem.W.nsIn K mainGlobals "restrict" = some (some (.ref f_restrict))) (l_restrict : K.lookup f_restrict = some ⟨oc_restrict, od_restrict, .func (PySem.W.fnOf "restrict" "restrict" (defArgs s_restrict) (defBody s_restrict) (defScope s_restrict) .none kV_restrict dc_restrict pm_restrict an_restrict cd_restrict ct_restrict), sl_restrict⟩) (c_restrict : PySem.W.codeIn K cd_restrict "restrict" = true) (k_restrict : PySem.W.keepIn K (.ref f_restrict) = true)
    (a__law_source : PySem.W.nsIn K mainGlobals "_law_source" = some (some (.ref f__law_source))) (l__law_source : K.lookup f__law_source = some ⟨oc__law_source, od__law_source, .func (PySem.W.fnOf "_law_source" "_law_source" (defArgs s__law_source) (defBody s__law_source) (defScope s__law_source) .none kV__law_source dc__law_source pm__law_source an__law_source cd__law_source ct__law_source), sl__law_source⟩) (c__law_source : PySem.W.codeIn K cd__law_source "_law_source" = true) (k__law_source : PySem.W.keepIn K (.ref f__law_source) = true)
    (a__law_draw : PySem.W.nsIn K mainGlobals "_law_draw" = some (some (.ref f__law_draw))) (l__law_draw : K.lookup f__law_draw = some ⟨oc__law_draw, od__law_draw, .func (PySem.W.fnOf "_law_draw" "_law_draw" (defArgs s__law_draw) (defBody s__law_draw) (defScope s__law_draw) .none kV__law_draw dc__law_draw pm__law_draw an__law_draw cd__law_draw ct__law_draw), sl__law_draw⟩) (c__law_draw : PySem.W.codeIn K cd__law_draw "_law_draw" = true) (k__law_draw : PySem.W.keepIn K (.ref f__law_draw) = true)
    (a__law_pool : PySem.W.nsIn K mainGlobals "_law_pool" = some (some (.ref f__law_pool))) (l__law_pool : K.lookup f__law_pool = some ⟨oc__law_pool, od__law_pool, .func (PySem.W.fnOf "_law_pool" "_law_pool" (defArgs s__law_pool) (defBody s__law_pool) (defScope s__law_pool) .none kV__law_pool dc__law_pool pm__law_pool an__law_pool cd__law_pool ct__law_pool), sl__law_pool⟩) (c__law_pool : PySem.W.codeIn K cd__law_pool "_law_pool" = true) (k__law_pool : PySem.W.keepIn K (.ref f__law_pool) = true)
    (a__law_some : PySem.W.nsIn K mainGlobals "_law_some" = some (some (.ref f__law_some))) (l__law_some : K.lookup f__law_some = some ⟨oc__law_some, od__law_some, .func (PySem.W.fnOf "_law_some" "_law_some" (defArgs s__law_some) (defBody s__law_some) (defScope s__law_some) .none kV__law_some dc__law_some pm__law_some an__law_some cd__law_some ct__law_some), sl__law_some⟩) (c__law_some : PySem.W.codeIn K cd__law_some "_law_some" = true) (k__law_some : PySem.W.keepIn K (.ref f__law_some) = true)
    (a__law_theory : PySem.W.nsIn K mainGlobals "_law_theory" = some (some (.ref f__law_theory))) (l__law_theory : K.lookup f__law_theory = some ⟨oc__law_theory, od__law_theory, .func (PySem.W.fnOf "_law_theory" "_law_theory" (defArgs s__law_theory) (defBody s__law_theory) (defScope s__law_theory) .none kV__law_theory dc__law_theory pm__law_theory an__law_theory cd__law_theory ct__law_theory), sl__law_theory⟩) (c__law_theory : PySem.W.codeIn K cd__law_theory "_law_theory" = true) (k__law_theory : PySem.W.keepIn K (.ref f__law_theory) = true)
    (a__law_union : PySem.W.nsIn K mainGlobals "_law_union" = some (some (.ref f__law_union))) (l__law_union : K.lookup f__law_union = some ⟨oc__law_union, od__law_union, .func (PySem.W.fnOf "_law_union" "_law_union" (defArgs s__law_union) (defBody s__law_union) (defScope s__law_union) .none kV__law_union dc__law_union pm__law_union an__law_union cd__law_union ct__law_union), sl__law_union⟩) (c__law_union : PySem.W.codeIn K cd__law_union "_law_union" = true) (k__law_union : PySem.W.keepIn K (.ref f__law_union) = true)
    (a__law_join_right : PySem.W.nsIn K mainGlobals "_law_join_right" = some (some (.ref f__law_join_right))) (l__law_join_right : K.lookup f__law_join_right = some ⟨oc__law_join_right, od__law_join_right, .func (PySem.W.fnOf "_law_join_right" "_law_join_right" (defArgs s__law_join_right) (defBody s__law_join_right) (defScope s__law_join_right) .none kV__law_join_right dc__law_join_right pm__law_join_right an__law_join_right cd__law_join_right ct__law_join_right), sl__law_join_right⟩) (c__law_join_right : PySem.W.codeIn K cd__law_join_right "_law_join_right" = true) (k__law_join_right : PySem.W.keepIn K (.ref f__law_join_right) = true)
    (a__law_widen_right : PySem.W.nsIn K mainGlobals "_law_widen_right" = some (some (.ref f__law_widen_right))) (l__law_widen_right : K.lookup f__law_widen_right = some ⟨oc__law_widen_right, od__law_widen_right, .func (PySem.W.fnOf "_law_widen_right" "_law_widen_right" (defArgs s__law_widen_right) (defBody s__law_widen_right) (defScope s__law_widen_right) .none kV__law_widen_right dc__law_widen_right pm__law_widen_right an__law_widen_right cd__law_widen_right ct__law_widen_right), sl__law_widen_right⟩) (c__law_widen_right : PySem.W.codeIn K cd__law_widen_right "_law_widen_right" = true) (k__law_widen_right : PySem.W.keepIn K (.ref f__law_widen_right) = true)
    (a__law_restrict_right : PySem.W.nsIn K mainGlobals "_law_restrict_right" = some (some (.ref f__law_restrict_right))) (l__law_restrict_right : K.lookup f__law_restrict_right = some ⟨oc__law_restrict_right, od__law_restrict_right, .func (PySem.W.fnOf "_law_restrict_right" "_law_restrict_right" (defArgs s__law_restrict_right) (defBody s__law_restrict_right) (defScope s__law_restrict_right) .none kV__law_restrict_right dc__law_restrict_right pm__law_restrict_right an__law_restrict_right cd__law_restrict_right ct__law_restrict_right), sl__law_restrict_right⟩) (c__law_restrict_right : PySem.W.codeIn K cd__law_restrict_right "_law_restrict_right" = true) (k__law_restrict_right : PySem.W.keepIn K (.ref f__law_restrict_right) = true)
    (a_law : PySem.W.nsIn K mainGlobals "law" = some (some (.ref f_law))) (l_law : K.lookup f_law = some ⟨oc_law, od_law, .func (PySem.W.fnOf "law" "law" (defArgs s_law) (defBody s_law) (defScope s_law) .none kV_law dc_law pm_law an_law cd_law ct_law), sl_law⟩) (c_law : PySem.W.codeIn K cd_law "law" = true) (k_law : PySem.W.keepIn K (.ref f_law) = true)
    (z_set : PySem.W.nsIn K mainGlobals "set" = some none)
    (z_sorted : PySem.W.nsIn K mainGlobals "sorted" = some none)
    (z_tuple : PySem.W.nsIn K mainGlobals "tuple" = some none)
    (z_len : PySem.W.nsIn K mainGlobals "len" = some none)
    (z_int : PySem.W.nsIn K mainGlobals "int" = some none)
    (z_range : PySem.W.nsIn K mainGlobals "range" = some none)
    (z_list : PySem.W.nsIn K mainGlobals "list" = some none)
    (z_isinstance : PySem.W.nsIn K mainGlobals "isinstance" = some none)
    (z_dict : PySem.W.nsIn K mainGlobals "dict" = some none)
    : ∃ fd : FuncData, (∀ (s : Shared) (v : Value), BindsTo s fd ⟨[v], []⟩ [("_law_script", v)]) ∧ ∀ base : Heap, K.In base → base.Ns mainGlobals mg → FnOk l.prog w K mg base CX0 5 fa fd ["_law_script"] (spLaw K) := by
  have e := hfa.symm.trans (PySem.W.mg_of X G a_law)
  cases e
  have F_merge_names := fun_mk (st := s_merge_names) l_merge_names c_merge_names k_merge_names
  have F_join := fun_mk (st := s_join) l_join c_join k_join
  have b_join := F_join.binds (ps := ["theories"]) fun _ _ _ _ _ _ us hl => match us, hl with | [_], _ => rfl
  have F_widen := fun_mk (st := s_widen) l_widen c_widen k_widen
  have F_restrict := fun_mk (st := s_restrict) l_restrict c_restrict k_restrict
  have b_restrict := F_restrict.binds (ps := ["assignment", "names"]) fun _ _ _ _ _ _ us hl => match us, hl with | [_, _], _ => rfl
  have F__law_source := fun_mk (st := s__law_source) l__law_source c__law_source k__law_source
  have b__law_source := F__law_source.binds (ps := ["_law_script", "_law_k"]) fun _ _ _ _ _ _ us hl => match us, hl with | [_, _], _ => rfl
  have F__law_draw := fun_mk (st := s__law_draw) l__law_draw c__law_draw k__law_draw
  have b__law_draw := F__law_draw.binds (ps := ["_law_source_here", "_law_limit"]) fun _ _ _ _ _ _ us hl => match us, hl with | [_, _], _ => rfl
  have F__law_pool := fun_mk (st := s__law_pool) l__law_pool c__law_pool k__law_pool
  have b__law_pool := F__law_pool.binds (ps := []) fun _ _ _ _ _ _ us hl => match us, hl with | [], _ => rfl
  have F__law_some := fun_mk (st := s__law_some) l__law_some c__law_some k__law_some
  have b__law_some := F__law_some.binds (ps := ["_law_source_here", "_law_names", "_law_share"]) fun _ _ _ _ _ _ us hl => match us, hl with | [_, _, _], _ => rfl
  have F__law_theory := fun_mk (st := s__law_theory) l__law_theory c__law_theory k__law_theory
  have b__law_theory := F__law_theory.binds (ps := ["_law_source_here"]) fun _ _ _ _ _ _ us hl => match us, hl with | [_], _ => rfl
  have F__law_union := fun_mk (st := s__law_union) l__law_union c__law_union k__law_union
  have b__law_union := F__law_union.binds (ps := ["_law_lists"]) fun _ _ _ _ _ _ us hl => match us, hl with | [_], _ => rfl
  have F__law_join_right := fun_mk (st := s__law_join_right) l__law_join_right c__law_join_right k__law_join_right
  have b__law_join_right := F__law_join_right.binds (ps := ["_law_source_here"]) fun _ _ _ _ _ _ us hl => match us, hl with | [_], _ => rfl
  have F__law_widen_right := fun_mk (st := s__law_widen_right) l__law_widen_right c__law_widen_right k__law_widen_right
  have b__law_widen_right := F__law_widen_right.binds (ps := ["_law_source_here"]) fun _ _ _ _ _ _ us hl => match us, hl with | [_], _ => rfl
  have F__law_restrict_right := fun_mk (st := s__law_restrict_right) l__law_restrict_right c__law_restrict_right k__law_restrict_right
  have b__law_restrict_right := F__law_restrict_right.binds (ps := ["_law_source_here"]) fun _ _ _ _ _ _ us hl => match us, hl with | [_], _ => rfl
  have F_law := fun_mk (st := s_law) l_law c_law k_law
  have m_set := PySem.W.mg_none_of X G z_set
  have m_sorted := PySem.W.mg_none_of X G z_sorted
  have m_tuple := PySem.W.mg_none_of X G z_tuple
  have m_len := PySem.W.mg_none_of X G z_len
  have m_int := PySem.W.mg_none_of X G z_int
  have m_range := PySem.W.mg_none_of X G z_range
  have m_list := PySem.W.mg_none_of X G z_list
  have m_isinstance := PySem.W.mg_none_of X G z_isinstance
  have m_dict := PySem.W.mg_none_of X G z_dict
  refine ⟨PySem.W.fnOf "law" "law" (defArgs s_law) (defBody s_law) (defScope s_law) .none kV_law dc_law pm_law an_law cd_law ct_law, fun s v => .of_eq rfl, fun base _ _ => ?_⟩
  have C_merge_names : CalR l.prog w K mg base "merge_names" 1 (spMerge K) := ⟨_, ok_merge_names F_merge_names (m_set := m_set) (m_sorted := m_sorted) (m_tuple := m_tuple), PySem.W.mg_of X G a_merge_names, F_merge_names.kp⟩
  have C_join : Cal l.prog w K mg base "join" 2 ["theories"] (spJoin K) := ⟨_, _, ok_join F_join (m_tuple := m_tuple) (C_merge_names := C_merge_names), PySem.W.mg_of X G a_join, F_join.kp, b_join⟩
  have C_widen : CalR l.prog w K mg base "widen" 2 (spWiden K) := ⟨_, ok_widen F_widen (C_merge_names := C_merge_names), PySem.W.mg_of X G a_widen, F_widen.kp⟩
  have C_restrict : Cal l.prog w K mg base "restrict" 1 ["assignment", "names"] (spRestrict K) := ⟨_, _, ok_restrict F_restrict , PySem.W.mg_of X G a_restrict, F_restrict.kp, b_restrict⟩
  have C__law_source : Cal l.prog w K mg base "_law_source" 1 ["_law_script", "_law_k"] (spSource K) := ⟨_, _, ok_source F__law_source (m_len := m_len) (m_int := m_int), PySem.W.mg_of X G a__law_source, F__law_source.kp, b__law_source⟩
  have C__law_draw : Cal l.prog w K mg base "_law_draw" 1 ["_law_source_here", "_law_limit"] spDraw := ⟨_, _, ok_draw F__law_draw (m_int := m_int), PySem.W.mg_of X G a__law_draw, F__law_draw.kp, b__law_draw⟩
  have C__law_pool : Cal l.prog w K mg base "_law_pool" 1 [] spPool := ⟨_, _, ok_pool F__law_pool , PySem.W.mg_of X G a__law_pool, F__law_pool.kp, b__law_pool⟩
  have C__law_some : Cal l.prog w K mg base "_law_some" 2 ["_law_source_here", "_law_names", "_law_share"] (spSome K) := ⟨_, _, ok_some F__law_some (C__law_draw := C__law_draw), PySem.W.mg_of X G a__law_some, F__law_some.kp, b__law_some⟩
  have C__law_theory : Cal l.prog w K mg base "_law_theory" 3 ["_law_source_here"] (spTheory K) := ⟨_, _, ok_theory F__law_theory (m_len := m_len) (m_range := m_range) (m_sorted := m_sorted) (m_tuple := m_tuple) (C__law_draw := C__law_draw) (C__law_pool := C__law_pool) (C__law_some := C__law_some), PySem.W.mg_of X G a__law_theory, F__law_theory.kp, b__law_theory⟩
  have C__law_union : Cal l.prog w K mg base "_law_union" 2 ["_law_lists"] (spUnion K) := ⟨_, _, ok_union F__law_union (m_tuple := m_tuple) (C__law_pool := C__law_pool), PySem.W.mg_of X G a__law_union, F__law_union.kp, b__law_union⟩
  have C__law_join_right : Cal l.prog w K mg base "_law_join_right" 4 ["_law_source_here"] spRight := ⟨_, _, ok_join_right F__law_join_right (m_len := m_len) (m_range := m_range) (m_list := m_list) (m_isinstance := m_isinstance) (m_tuple := m_tuple) (C__law_draw := C__law_draw) (C__law_theory := C__law_theory) (C__law_union := C__law_union) (C_join := C_join), PySem.W.mg_of X G a__law_join_right, F__law_join_right.kp, b__law_join_right⟩
  have C__law_widen_right : Cal l.prog w K mg base "_law_widen_right" 4 ["_law_source_here"] spRight := ⟨_, _, ok_widen_right F__law_widen_right (m_list := m_list) (m_isinstance := m_isinstance) (m_tuple := m_tuple) (C__law_theory := C__law_theory) (C__law_union := C__law_union) (C_widen := C_widen) (C__law_pool := C__law_pool) (C__law_some := C__law_some), PySem.W.mg_of X G a__law_widen_right, F__law_widen_right.kp, b__law_widen_right⟩
  have C__law_restrict_right : Cal l.prog w K mg base "_law_restrict_right" 3 ["_law_source_here"] spRight := ⟨_, _, ok_restrict_right F__law_restrict_right (m_list := m_list) (m_isinstance := m_isinstance) (m_tuple := m_tuple) (m_sorted := m_sorted) (m_dict := m_dict) (C__law_draw := C__law_draw) (C_restrict := C_restrict) (C__law_pool := C__law_pool) (C__law_some := C__law_some), PySem.W.mg_of X G a__law_restrict_right, F__law_restrict_right.kp, b__law_restrict_right⟩
  exact ok_law F_law (C__law_source := C__law_source) (C__law_join_right := C__law_join_right) (C__law_widen_right := C__law_widen_right) (C__law_restrict_right := C__law_restrict_right)
end K01
open PySem PySem.W PyProof.Rows
set_option maxRecDepth 100000 in
set_option maxHeartbeats 0 in
theorem PySem.Challenge.cw_shadowlinks_k01_join_widen_restrict_holds : PySem.Challenge.rw_shadowlinks_k01_join_widen_restrict.Holds := by
  w_on; o_law; k_head; (case hw => w_witness2)
  k_fill
  refine L2.walk_of (l := PySem.Challenge.rw_shadowlinks_k01_join_widen_restrict) (n := 63) (k := 5) (x := "_law_script") (CX := fun _ => L2.CX0) (sp := fun w => K01.spLaw _) rfl (by decide) rfl ⟨rfl, by decide, by decide⟩ (fun w h Y => PySem.W.kIn_of Y) ?F (fun _ _ a ns hl _ hS => ⟨a, ns, rfl, hS, hl, fun _ => rfl⟩) (fun _ _ _ _ _ h => h)
  case F =>
    intro w mg fa h KX G hmg
    refine' K01.all_mk KX G hmg ?a_merge_names ?l_merge_names ?c_merge_names ?k_merge_names ?a_join ?l_join ?c_join ?k_join ?a_widen ?l_widen ?c_widen ?k_widen ?a_restrict ?l_restrict ?c_restrict ?k_restrict ?a__law_source ?l__law_source ?c__law_source ?k__law_source ?a__law_draw ?l__law_draw ?c__law_draw ?k__law_draw ?a__law_pool ?l__law_pool ?c__law_pool ?k__law_pool ?a__law_some ?l__law_some ?c__law_some ?k__law_some ?a__law_theory ?l__law_theory ?c__law_theory ?k__law_theory ?a__law_union ?l__law_union ?c__law_union ?k__law_union ?a__law_join_right ?l__law_join_right ?c__law_join_right ?k__law_join_right ?a__law_widen_right ?l__law_widen_right ?c__law_widen_right ?k__law_widen_right ?a__law_restrict_right ?l__law_restrict_right ?c__law_restrict_right ?k__law_restrict_right ?a_law ?l_law ?c_law ?k_law ?z_set ?z_sorted ?z_tuple ?z_len ?z_int ?z_range ?z_list ?z_isinstance ?z_dict
    (case a_merge_names => k_is)
    (case l_merge_names => k_is)
    (case c_merge_names => k_is)
    (case k_merge_names => k_is)
    (case a_join => k_is)
    (case l_join => k_is)
    (case c_join => k_is)
    (case k_join => k_is)
    (case a_widen => k_is)
    (case l_widen => k_is)
    (case c_widen => k_is)
    (case k_widen => k_is)
    (case a_restrict => k_is)
    (case l_restrict => k_is)
    (case c_restrict => k_is)
    (case k_restrict => k_is)
    (case a__law_source => k_is)
    (case l__law_source => k_is)
    (case c__law_source => k_is)
    (case k__law_source => k_is)
    (case a__law_draw => k_is)
    (case l__law_draw => k_is)
    (case c__law_draw => k_is)
    (case k__law_draw => k_is)
    (case a__law_pool => k_is)
    (case l__law_pool => k_is)
    (case c__law_pool => k_is)
    (case k__law_pool => k_is)
    (case a__law_some => k_is)
    (case l__law_some => k_is)
    (case c__law_some => k_is)
    (case k__law_some => k_is)
    (case a__law_theory => k_is)
    (case l__law_theory => k_is)
    (case c__law_theory => k_is)
    (case k__law_theory => k_is)
    (case a__law_union => k_is)
    (case l__law_union => k_is)
    (case c__law_union => k_is)
    (case k__law_union => k_is)
    (case a__law_join_right => k_is)
    (case l__law_join_right => k_is)
    (case c__law_join_right => k_is)
    (case k__law_join_right => k_is)
    (case a__law_widen_right => k_is)
    (case l__law_widen_right => k_is)
    (case c__law_widen_right => k_is)
    (case k__law_widen_right => k_is)
    (case a__law_restrict_right => k_is)
    (case l__law_restrict_right => k_is)
    (case c__law_restrict_right => k_is)
    (case k__law_restrict_right => k_is)
    (case a_law => k_is)
    (case l_law => k_is)
    (case c_law => k_is)
    (case k_law => k_is)
    (case z_set => k_is)
    (case z_sorted => k_is)
    (case z_tuple => k_is)
    (case z_len => k_is)
    (case z_int => k_is)
    (case z_range => k_is)
    (case z_list => k_is)
    (case z_isinstance => k_is)
    (case z_dict => k_is)
#print axioms PySem.Challenge.cw_shadowlinks_k01_join_widen_restrict_holds
