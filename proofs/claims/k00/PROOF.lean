import PyProof.Rows.All
import Wide.All
import OpenK.AllK
import Wide.FinOn
import HandS.ForExc
import PyProof.Rows.SortShellAny
import HandS.SetTxt0
import HandS.TupSets
import HandS.ForMost
import HandS.Walk
import HandS.IsInst
import HandS.IterVal
import HandS.Star
import PySem.Challenge.RW_shadowlinks_k00_names_and_merging
set_option Elab.async false
set_option linter.all false
set_option maxRecDepth 100000
/-! Sets of texts, made of a list or a tuple, and sorted: any texts, in whatever order the world walks them. -/
namespace Sx
open PySem PySem.Spec PyProof.Rows L2 PySem.Froz

/-! ### lists -/
/-- a list without twins whose members all stand in a list of the same length is that list in another order -/
theorem perm_of_sub : ∀ (l ks : List Str), l.Nodup → (∀ x, x ∈ l → x ∈ ks) → ks.length = l.length → l.Perm ks
  | [], ks, _, _, e => by
    have z : ks = [] := List.length_eq_zero_iff.mp e
    rw [z]
  | x :: l, ks, nd, sub, e => by
    obtain ⟨hx, nd'⟩ := List.nodup_cons.mp nd
    have hm : x ∈ ks := sub x List.mem_cons_self
    have p := List.perm_cons_erase hm
    have hl : (ks.erase x).length = l.length := by
      have q := p.length_eq
      simp only [List.length_cons] at q e
      omega
    refine ((perm_of_sub l (ks.erase x) nd' (fun y hy => ?_) hl).cons x).trans p.symm
    have hne : y ≠ x := fun z => hx (z ▸ hy)
    exact (List.mem_erase_of_ne hne).mpr (sub y (List.mem_cons_of_mem _ hy))

/-! ### the payload behind an add -/
theorem tail_ris {ep : Nat} {es : Array (Int × Value)} {t : SetTable} {d : Bool} (r : Ris t.place.toList) : Ris (tailTx ep es t d).2.2.place.toList := by
  unfold tailTx
  split
  · exact relayAll_ris t es _
  · exact r
theorem tail_led {ep : Nat} {es : Array (Int × Value)} {t : SetTable} {d : Bool} : (tailTx ep es t d).2.2.led = t.led := by
  unfold tailTx
  split
  · exact relayAll_led t es _
  · rfl
theorem add_ris {D : SD} (h : Int) (v : Value) (r : Ris D.2.2.place.toList) : Ris (addTx h v D).2.2.place.toList := by
  have r1 := layNew_ris D.2.2 D.1 h v r
  unfold addTx
  apply tail_ris
  split
  · exact r1
  · exact r1
theorem add_led {D : SD} (h : Int) (v : Value) : (addTx h v D).2.2.led = D.2.2.led := by
  have r1 := layNew_led D.2.2 D.1 h v
  unfold addTx
  rw [tail_led]
  split
  · exact r1
  · exact r1

/-- the set of the texts l stands at a -/
def SetX (P : Program) (w : World) (h : Heap) (a : Addr) (l : List Str) : Prop :=
  ∃ D : SD, h.get? a = some (sObj "set" D) ∧ TxOk P w D l ∧ l.Nodup ∧ Ris D.2.2.place.toList ∧ (w.params.followText "set-order" = true ∨ D.2.2.led = true)

section
variable {P : Program} {w : World} {A : Around} {E : Value → Shared → Prop} {s : Shared}

theorem SetX.at {h h' : Heap} {a : Addr} {l : List Str} (R : SetX P w h a l) (k : ∀ o, h.get? a = some o → h'.get? a = some o) : SetX P w h' a l := by
  obtain ⟨D, ho, r⟩ := R
  exact ⟨D, k _ ho, r⟩
theorem setX_fresh {h : Heap} {a : Addr} (ho : h.get? a = some { cls := .type "set", dict := none, data := .set #[] 0 (.fresh 0 0 (!w.params.followText "set-order")) }) : SetX P w h a [] := by
  refine ⟨(#[], 0, .fresh 0 0 (!w.params.followText "set-order")), ho, TxOk.nil rfl, List.nodup_nil, List.Pairwise.nil, ?_⟩
  show _ ∨ (!w.params.followText "set-order") = true
  cases w.params.followText "set-order"
  · exact .inr rfl
  · exact .inl rfl

/-- one text more, new or there already -/
theorem add_any {a : Addr} {l : List Str} {k : Str} {u : Tok} {Q : Bool → Shared → Prop} (R : SetX P w s.heap a l) (hb : l.length + 1 < scanBound)
    (hQ : ∀ b h' l', Heap.SameBut a s.heap h' → SetX P w h' a l' → (∀ x, x ∈ l' ↔ x = k ∨ x ∈ l) → l'.length ≤ l.length + 1 → Q b { s with heap := h' }) :
    wpAny (model P w) A (setAddHashed a (.str k u) (hashStr w k)) Q E s := by
  obtain ⟨D, ho, F, nd, r, hl⟩ := R
  rcases Classical.em (k ∈ l) with hk | hk
  · obtain ⟨es, ep, t⟩ := D
    have hd : (sObj "set" (es, ep, t)).data = .set es ep t := rfl
    have hf : t.fits es.size = true := F.fit
    have hel : ElemsOf (PySem.strKind P w) es.toList := F.el
    have hb0 : es.size < scanBound := by
      have z : es.size = l.length := F.sz
      omega
    have hkey : (PySem.strKind P w).is k (.str k u) = true := is_str k u
    unfold setAddHashed setAddHashedIn
    refine wpAny_holding (wpAny_bind (wpAny_setState_of ho hd hf ?_))
    dsimp only
    rw [byScan_of rfl hb0 hel]
    simp only [↓reduceIte]
    unfold setAddByScan
    refine wpAny_bind ?_
    refine wpAny_bind (wpAny_rule ?_)
    refine wpAny_bind (wpAny_setScan_of (knd := PySem.strKind P w) (k := k) hkey ho hd hf hel ?_)
    cases hfi : List.findIdx? (fun e => (PySem.strKind P w).is k e.2) es.toList with
    | none =>
      obtain ⟨e, he, q⟩ := (F.mem k).mp hk
      have c := List.findIdx?_eq_none_iff.mp hfi e he
      rw [q] at c
      cases c
    | some j =>
      dsimp only
      refine wpAny_pure (wpAny_pure ?_)
      exact hQ _ s.heap l (Heap.SameBut.refl a s.heap) ⟨(es, ep, t), ho, F, nd, r, hl⟩ (fun x => ⟨.inr, fun z => z.elim (fun e => e ▸ hk) id⟩) (Nat.le_succ _)
  · refine add_x ho F hk hb (hQ _ _ (k :: l) (Heap.SameBut.update s.heap a _) ⟨_, get_upd _ ho rfl, add_ok u F, List.nodup_cons.mpr ⟨hk, nd⟩, add_ris _ _ r, ?_⟩ (fun x => List.mem_cons) (Nat.le_refl _))
    exact hl.imp id fun z => by
      rw [add_led]
      exact z
end

/-! ### set(xs): the loop -/
section
variable {P : Program} {w : World} {A : Around} {R : Result → Shared → Prop} {I : Addr} {fp wr : List Addr} {G : Array GenState → Array GenState → Prop} {n : Nat} {Pv : Nat → Value → Prop} {St : Nat → Shared → Prop}
theorem fill_loop (W : WalksS P w A.in1 I fp wr G n Pv St) (S : Addr) (hSf : S ∉ fp) (xs : List Str) (hn : xs.length = n) (hval : ∀ i v, Pv i v → ∃ t, v = .str (xs.getD i Str.empty) t) (hb : n + 1 < scanBound) :
    ∀ (k i : Nat) (s : Shared) (l : List Str), n - i = k → i ≤ n → St i s → SetX P w s.heap S l → (∀ x, x ∈ l ↔ x ∈ xs.take i) → l.length ≤ i →
      (∀ s' l', Moved (S :: wr) G s s' → SetX P w s'.heap S l' → (∀ x, x ∈ l' ↔ x ∈ xs) → l'.length ≤ n → R (.ok (.ret .none)) s') →
      codeAny (model P w) A (.builtin "set.update.loop" ⟨[.ref S, .ref I], []⟩) R s := by
  have hSw : S ∉ wr := fun h => hSf (W.sub _ h)
  have hsub : ∀ b ∈ wr, b ∈ S :: wr := fun b hb => List.mem_cons_of_mem _ hb
  intro k
  induction k with
  | zero =>
    intro i s l hk hi hst hS hm hlen hR
    have hin : i = n := by omega
    subst hin
    refine codeAny_builtin PyProof.Rows.F.entry_set_update_loop ?_
    rw [Around.under_plainId PyProof.Rows.F.plain_set_update_loop _]
    show wpAny _ A.in1 (pyNext (.ref I) >>= _) _ _ s
    refine wpAny_bind (W.done s _ _ hst fun s' hmv => ?_)
    show wpAny _ A.in1 (ret Value.none) _ _ s'
    refine wpAny_pure (hR s' l (hmv.mono hsub) (hS.at fun o e => hmv.heap S o hSw e) (fun x => ?_) hlen)
    rw [hm x, ← hn, List.take_length]
  | succ k ih =>
    intro i s l hk hi hst hS hm hlen hR
    have hlt : i < n := by omega
    refine codeAny_builtin PyProof.Rows.F.entry_set_update_loop ?_
    rw [Around.under_plainId PyProof.Rows.F.plain_set_update_loop _]
    show wpAny _ A.in1 (pyNext (.ref I) >>= _) _ _ s
    refine wpAny_bind (W.item i s _ _ hlt hst fun v s' hP hst' hmv => ?_)
    obtain ⟨t, rfl⟩ := hval i v hP
    have hS' : SetX P w s'.heap S l := hS.at fun o e => hmv.heap S o hSw e
    show wpAny _ A.in1 (holding [Value.str (xs.getD i Str.empty) t] (setAdd S (.str (xs.getD i Str.empty) t)) >>= _) _ _ s'
    refine wpAny_bind (wpAny_holding ?_)
    unfold setAdd
    refine wpAny_holding ?_
    refine wpAny_bind ((PySem.strKind P w).pyHash (k := xs.getD i Str.empty) (strKind_is _ _ _ _) ?_)
    have hroom : l.length + 1 < scanBound := by omega
    refine add_any (s := { s' with toks := s'.toks + 1 }) hS' hroom fun b h' l' hsb hS2 hm2 hl2 => ?_
    have hix : i < xs.length := by omega
    have eg : xs.getD i Str.empty = xs[i] := by
      rw [List.getD_eq_getElem?_getD, List.getElem?_eq_getElem hix]
      rfl
    have hm3 : ∀ x, x ∈ l' ↔ x ∈ xs.take (i + 1) := fun x => by
      rw [hm2 x, List.take_succ, List.getElem?_eq_getElem hix, eg]
      show _ ↔ x ∈ xs.take i ++ [xs[i]]
      rw [List.mem_append, List.mem_singleton, hm x]
      exact Or.comm
    refine wpAny_pure ⟨plainId_quiet PyProof.Rows.F.plain_set_update_loop _, ih (i + 1) _ l' (by omega) hlt (W.frame _ s' _ _ hst' (Nat.le_succ _) fun b hb o e => ?_) hS2 hm3 (by omega) fun s'' l'' hmv'' hS'' hm'' hl'' => ?_⟩
    · rw [hsb.2 b (fun h : b = S => hSf (by rw [← h]; exact hb))]
      exact e
    · refine hR s'' l'' (Moved.trans W.gtrans ((hmv.mono hsub).then_heap (Nat.le_succ _) fun b o hb e => ?_) hmv'') hS'' hm'' hl''
      rw [hsb.2 b (fun h : b = S => hb (by rw [h]; exact List.mem_cons_self))]
      exact e
end

/-! ### set(xs): the call -/
section
variable {P : Program} {w : World} {A : Around} {E : Value → Shared → Prop} {s : Shared}
abbrev emptyObj (w : World) : Obj := { cls := .type "set", dict := none, data := .set #[] 0 (.fresh 0 0 (!w.params.followText "set-order")) }
theorem str_at {us : List Value} {xs : List Str} (h : StrsAre us xs) : ∀ (i : Nat) (v : Value), us[i]? = some v → ∃ t, v = .str (xs.getD i Str.empty) t := by
  induction h with
  | nil =>
    intro i v e
    cases e
  | cons y t h ih =>
    intro i v e
    cases i with
    | zero =>
      have q : Value.str y t = v := Option.some.inj e
      exact ⟨t, q.symm⟩
    | succ i => exact ih i v e

set_option maxRecDepth 100000 in
set_option maxHeartbeats 4000000 in
/-- set(xs), xs a list or a tuple of texts -/
theorem call_set {l : Addr} {items : Array Value} {xs : List Str} {Q : Value → Shared → Prop} (hh : A.handled = none) (hl : s.heap.IsList l items ∨ s.heap.IsTuple l items) (hi : StrsAre items.toList xs) (hb : xs.length + 1 < scanBound)
    (h : ∀ (h' : Heap) (tk : Nat) (ys : List Str), SetX P w h' s.heap.objs.size ys → (∀ x, x ∈ ys ↔ x ∈ xs) → ys.length ≤ xs.length → (∀ b o, s.heap.get? b = some o → h'.get? b = some o) → Q (.ref s.heap.objs.size) { s with heap := h', toks := tk }) :
    wpAny (model P w) A (call (.type "set") [.ref l]) Q E s := by
  have hisz : xs.length = items.size := by rw [← StrsAre.len_eq hi, Array.length_toList]
  have hval : ∀ (i : Nat) (v : Value), items[i]? = some v → ∃ t, v = .str (xs.getD i Str.empty) t := fun i v hv => str_at hi i v (by rw [Array.getElem?_toList]; exact hv)
  obtain ⟨c, tl, hmro⟩ := PySem.F.called_set.mro
  have hmade := PySem.F.called_set.made
  have hsub := PySem.F.called_set.sub
  refine wpAny_call (codeAny_of_tree ?_)
  show wpAny _ _ (callAny (.type "set") _) _ _ _
  refine wpAny_pure ⟨Code.quiet_builtin _ (by decide +kernel), codeAny_builtin PySem.F.entry_type_call ?_⟩
  rw [Around.under_plain (weight_type_call_type "set" [.ref l] []) rfl]
  have h1 := PySem.F.called_set.notType
  have h2 := PySem.F.called_set.canCreate
  have hct := PySem.F.typeCall_set_1 (.ref l)
  repeat (any_goals (first | assumption | wp_step))
  refine codeAny_mono (code_set_led1 (.ref l) (E := E) (Q₁ := fun obj s₁ => obj = .ref s.heap.objs.size ∧ s₁ = { s with heap := s.heap.push (emptyObj w) }) ⟨rfl, rfl⟩) fun r s₁ hr => ?_
  cases r with
  | error e => exact hr
  | ok fl =>
    cases fl with
    | ret obj =>
      obtain ⟨rfl, rfl⟩ := hr
      have hS : (s.heap.push (emptyObj w)).get? s.heap.objs.size = some (emptyObj w) := Heap.get?_push_size _ rfl
      have hT : Shared.TypeIs { s with heap := s.heap.push (emptyObj w) } (.ref s.heap.objs.size) "set" := ⟨_, hS, rfl⟩
      have hli := PySem.F.called_set.init.lookup
      have hbi := PySem.F.called_set.init.bind (.ref s.heap.objs.size)
      repeat (any_goals (first | assumption | wp_step))
      refine codeAny_mono (codeAny_call_builtin (R := wants (fun r s₂ => r = .none ∧ ∃ h' tk ys, s₂ = { s with heap := h', toks := tk } ∧ SetX P w h' s.heap.objs.size ys ∧ (∀ x, x ∈ ys ↔ x ∈ xs) ∧ ys.length ≤ xs.length ∧
          (∀ b o, s.heap.get? b = some o → h'.get? b = some o)) E) PySem.F.called_set.init.plain PySem.F.entry_set_init (check_set_init_1 hT ?_)) fun r₂ s₂ hr₂ => ?_
      · have hh3 : A.in1.in1.in1.handled = none := by simp [hh]
        have hz1 : (s.heap.push (emptyObj w)).objs.size = s.heap.objs.size + 1 := Heap.size_push ..
        rcases hl with hl | hl
        · obtain ⟨ol, hol, hcl, nl, hdl⟩ := hl
          obtain ⟨ocls, odict, odata, oslots⟩ := ol
          simp only at hcl hdl
          subst hcl; subst hdl
          have hol' : (s.heap.push (emptyObj w)).get? l = some { cls := .type "list", dict := odict, data := .seq items nl, slots := oslots } := Heap.get?_push_of_some _ hol
          have hsls := PySem.F.sub_list_set
          have hslf := PySem.F.sub_list_frozenset
          have hne : (Value.type "list" == Value.type "dict") = false := by decide
          have hl1 : (s.heap.push (emptyObj w)).IsList l items := ⟨_, hol', rfl, nl, rfl⟩
          unfold Builtin.«set.__init__» noKeywords Builtin.Frozenset.updateFrom
          generalize hPI : pyIter = PI
          wp_walk
          subst hPI
          refine wpAny_pyIter_list hl1 ?_
          refine wpAny_bind (wpAny_runValue ?_)
          have hlS : l < s.heap.objs.size := Heap.lt_size hol
          have hneI : l ≠ (s.heap.push (emptyObj w)).objs.size := by
            rw [hz1]
            exact Nat.ne_of_lt (Nat.lt_succ_of_lt hlS)
          have hSf : s.heap.objs.size ∉ [(s.heap.push (emptyObj w)).objs.size, l] := by
            simp only [List.mem_cons, List.mem_singleton, List.not_mem_nil, or_false, not_or]
            rw [hz1]
            exact ⟨Nat.ne_of_lt (Nat.lt_succ_self _), Nat.ne_of_gt hlS⟩
          have hget : ((s.heap.push (emptyObj w)).push { cls := .type "list_iterator", data := .fields #[.ref l, .int 0 0] }).get? s.heap.objs.size = some (emptyObj w) := Heap.get?_push_of_some _ hS
          refine fill_loop ((Walks.list hh3 _ l hneI items).toS) s.heap.objs.size hSf xs hisz hval (by omega) (items.size - 0) 0 _ [] (by omega) (Nat.zero_le _)
            ⟨⟨_, Heap.get?_push_size _ rfl, rfl, rfl⟩, (hl1.push _)⟩ (setX_fresh hget) (fun x => Iff.rfl) (Nat.le_refl _) ?hR
          case hR =>
            intro s' ys hm hS' hmm hlen
            obtain ⟨h', g', d', tk', os'⟩ := s'
            have eg : g' = s.gens := hm.gens
            have ed : d' = s.drawn := hm.drawn
            have eo : os' = s.os := hm.os
            subst eg; subst ed; subst eo
            show wpAny _ _ _ _ _ _
            refine wpAny_pure ?_
            show wpAny _ _ (ret Value.none) _ _ _
            refine wpAny_pure ⟨rfl, h', tk', ys, rfl, hS', hmm, by omega, fun b o e => ?_⟩
            have hb0 : b < s.heap.objs.size := Heap.lt_size e
            refine hm.heap b o ?_ (Heap.get?_push_of_some _ (Heap.get?_push_of_some _ e))
            simp only [List.mem_cons, List.mem_singleton, List.not_mem_nil, or_false, not_or]
            rw [hz1]
            exact ⟨Nat.ne_of_lt hb0, Nat.ne_of_lt (Nat.lt_succ_of_lt hb0)⟩
        · obtain ⟨ol, hol, hcl, nl, hdl⟩ := hl
          obtain ⟨ocls, odict, odata, oslots⟩ := ol
          simp only at hcl hdl
          subst hcl; subst hdl
          have hol' : (s.heap.push (emptyObj w)).get? l = some { cls := .type "tuple", dict := odict, data := .seq items nl, slots := oslots } := Heap.get?_push_of_some _ hol
          have hsls := PySem.F.sub_tuple_set
          have hslf := PySem.F.sub_tuple_frozenset
          have hne : (Value.type "tuple" == Value.type "dict") = false := by decide
          have hl1 : (s.heap.push (emptyObj w)).IsTuple l items := ⟨_, hol', rfl, nl, rfl⟩
          unfold Builtin.«set.__init__» noKeywords Builtin.Frozenset.updateFrom
          generalize hPI : pyIter = PI
          wp_walk
          subst hPI
          refine wpAny_pyIter_tuple hl1 ?_
          refine wpAny_bind (wpAny_runValue ?_)
          have hlS : l < s.heap.objs.size := Heap.lt_size hol
          have hneI : l ≠ (s.heap.push (emptyObj w)).objs.size := by
            rw [hz1]
            exact Nat.ne_of_lt (Nat.lt_succ_of_lt hlS)
          have hSf : s.heap.objs.size ∉ [(s.heap.push (emptyObj w)).objs.size, l] := by
            simp only [List.mem_cons, List.mem_singleton, List.not_mem_nil, or_false, not_or]
            rw [hz1]
            exact ⟨Nat.ne_of_lt (Nat.lt_succ_self _), Nat.ne_of_gt hlS⟩
          have hget : ((s.heap.push (emptyObj w)).push { cls := .type "tuple_iterator", data := .fields #[.ref l, .int 0 0] }).get? s.heap.objs.size = some (emptyObj w) := Heap.get?_push_of_some _ hS
          refine fill_loop ((Walks.tuple hh3 _ l hneI items).toS) s.heap.objs.size hSf xs hisz hval (by omega) (items.size - 0) 0 _ [] (by omega) (Nat.zero_le _)
            ⟨⟨_, Heap.get?_push_size _ rfl, rfl, rfl⟩, (hl1.push _)⟩ (setX_fresh hget) (fun x => Iff.rfl) (Nat.le_refl _) ?hR
          case hR =>
            intro s' ys hm hS' hmm hlen
            obtain ⟨h', g', d', tk', os'⟩ := s'
            have eg : g' = s.gens := hm.gens
            have ed : d' = s.drawn := hm.drawn
            have eo : os' = s.os := hm.os
            subst eg; subst ed; subst eo
            show wpAny _ _ _ _ _ _
            refine wpAny_pure ?_
            show wpAny _ _ (ret Value.none) _ _ _
            refine wpAny_pure ⟨rfl, h', tk', ys, rfl, hS', hmm, by omega, fun b o e => ?_⟩
            have hb0 : b < s.heap.objs.size := Heap.lt_size e
            refine hm.heap b o ?_ (Heap.get?_push_of_some _ (Heap.get?_push_of_some _ e))
            simp only [List.mem_cons, List.mem_singleton, List.not_mem_nil, or_false, not_or]
            rw [hz1]
            exact ⟨Nat.ne_of_lt hb0, Nat.ne_of_lt (Nat.lt_succ_of_lt hb0)⟩
      · cases r₂ with
        | error e => exact hr₂
        | ok fl₂ =>
          cases fl₂ with
          | ret r =>
            obtain ⟨rfl, h', tk, ys, rfl, hS', hmm, hlen, hk'⟩ := hr₂
            repeat (any_goals (first | assumption | wp_step))
            exact h _ _ _ hS' hmm hlen hk'
          | _ => exact hr₂.elim
    | _ => exact hr.elim

/-! ### sorted(set) -/
theorem strs_of : ∀ (l : List Value), (∀ v ∈ l, ∃ k tk, v = Value.str k tk) → StrsAre l (l.map strOf)
  | [], _ => .nil
  | v :: l, h => by
    obtain ⟨k, tk, rfl⟩ := h v List.mem_cons_self
    exact .cons k tk (strs_of l fun u hu => h u (List.mem_cons_of_mem _ hu))
theorem sorted_setX {a : Addr} {l : List Str} {Q : Value → Shared → Prop} (R : SetX P w s.heap a l) (hh : A.handled = none) (hlen : l.length + 1 < scanBound)
    (hQ : ∀ s' p (out : Array Value) (c : Nat) (ys : List Str), (∀ b o, s.heap.get? b = some o → s'.heap.get? b = some o) → s'.gens = s.gens → s'.os = s.os → s.heap.objs.size ≤ p →
      s'.heap.get? p = some (seqObj "list" out c) → StrsAre out.toList ys → sortedS ys = true → ys.Perm l → Q (.ref p) s') :
    wpAny (model P w) A (call (.builtin "sorted") [.ref a]) Q E s := by
  obtain ⟨⟨es, ep, t⟩, ho, F, nd, r, hl⟩ := R
  have hf : t.fits es.size = true := F.fit
  have hsz : es.size = l.length := F.sz
  refine Calls.call_function_entry kind_sorted plain_sorted entry_sorted (args_sorted1 _) ?_
  unfold Builtin.«sorted»
  refine wpAny_bind (m := checkCount "sorted" 1 1 _) (wpAny_pure ?_)
  refine wpAny_bind (collect_set (A := A.in1) hh ⟨_, ho, rfl, rfl⟩ hf (by show es.size < scanBound; rw [hsz]; omega) r hl fun s1 vs k1 hz g1 o1 pm => ?_)
  have hvl : vs.length = l.length := by rw [pm.length_eq, List.length_map, Array.length_toList]; exact hsz
  have hst : ∀ v ∈ vs, ∃ k tk, v = Value.str k tk ∧ k ∈ l := fun v hv => by
    obtain ⟨e, he, q⟩ := List.mem_map.mp (pm.mem_iff.mp hv)
    obtain ⟨⟨k, h1, _⟩, _⟩ := F.el e he
    obtain ⟨tk, h2⟩ := Value.isStrOf_shape h1
    exact ⟨k, tk, by rw [← q]; exact h2, (F.mem k).mpr ⟨e, he, h1⟩⟩
  have hI : StrsAre vs (vs.map strOf) := strs_of vs fun v hv => let ⟨k, tk, e, _⟩ := hst v hv; ⟨k, tk, e⟩
  have pk : (vs.map strOf).Perm l := by
    refine (perm_of_sub l (vs.map strOf) nd (fun x hx => ?_) (by rw [List.length_map, hvl])).symm
    obtain ⟨e, he, h1⟩ := (F.mem x).mp hx
    obtain ⟨tk, h2⟩ := Value.isStrOf_shape h1
    exact List.mem_map.mpr ⟨e.2, pm.mem_iff.mpr (List.mem_map.mpr ⟨e, he, rfl⟩), by rw [h2]; rfl⟩
  have hline : vs.length ≤ sizeLine := by
    rw [hvl, sizeLine_eq]
    have z : scanBound = 4096 := rfl
    omega
  refine wpAny_bind (wpAny_newList ?_ hline)
  have hoL : (s1.heap.push (seqObj "list" vs.toArray 0)).get? s1.heap.objs.size = some (seqObj "list" vs.toArray 0) := Heap.get?_push_size _ rfl
  refine wpAny_bind (wpAny_holding (wpAny_call_entry slot_list_sort ⟨_, hoL, rfl⟩ entry_list_sort (list_sort_treeKAny strKind_oneLt hoL hI.keysOf (fun v₁ v₂ rest e => keyKind_strs (by rw [← e]; exact hI)) hline fun st' hp hs => ⟨_, rfl, ?_⟩) (args_list_sort _)))
  obtain ⟨ys, a1, a2, a3⟩ := sorted_out_str hI hp hs
  obtain ⟨c, hc⟩ := sortedHeap_at (vs := vs) (out := (arrOf st').map (·.2)) hoL
  refine wpAny_pure ⟨_, rfl, hQ _ s1.heap.objs.size _ c ys (fun b u e => ?_) g1 o1 hz hc a1 a3 (a2.trans pk)⟩
  have q := k1 b u e
  have hlt := Heap.lt_size q
  show (sortedHeap (s1.heap.push (seqObj "list" vs.toArray 0)) s1.heap.objs.size vs _).get? b = some u
  rw [sortedHeap_old (Nat.ne_of_lt hlt) (by rw [size_push']; exact Nat.lt_succ_of_lt hlt)]
  exact Heap.get?_push_of_some _ q
end

/-! ### over the layer -/
def SetV (P : Program) (w : World) (a : Addr) (l : List Str) : HO := .ext fun h => SetX P w h a l
section
variable {X : Cx}
theorem setV_new {P : Program} {w : World} {H : Hp} {h : Heap} {a : Addr} {l : List Str} (R : SetX P w h a l) : ObjOk P w H h a (SetV P w a l) := by
  have ⟨o, ho, _⟩ := R
  exact ⟨R, ⟨_, ho⟩, fun h1 h2 p k => SetX.at p k⟩
/-- set(xs), xs a list or a tuple of texts -/
def rSetX (K : PySem.W.Frag) (P : Program) (w : World) : List V → Hp → VK → Prop := fun vs H Q => ∃ (a : Addr) (xs : List Str), vs = [V.ref a] ∧ (SqL K H a (xs.map V.str) ∨ SqT K H a (xs.map V.str)) ∧ xs.length < 4000 ∧
  ∀ p ys, H p = none → (∀ x, x ∈ ys ↔ x ∈ xs) → ys.Nodup → ys.length ≤ xs.length → Q (.ref p) (upd H p (SetV P w p ys))
theorem cr_setX (hc : X.calm = true) : CallR X (.type "set") (rSetX X.K X.prog X.w) := by
  intro pins s σ H vs us Q I r h
  obtain ⟨a, xs, rfl, hs, hlen, q⟩ := h
  rw [Vals.ref1 r]
  have hn : H s.heap.objs.size = none := I.hok.fresh (Nat.le_refl _)
  have hz : xs.length + 1 < scanBound := by
    have z : scanBound = 4096 := rfl
    omega
  obtain ⟨its, rv, pl⟩ : ∃ its : List Value, Vals (xs.map V.str) its ∧ (s.heap.IsList a its.toArray ∨ s.heap.IsTuple a its.toArray) := by
    rcases hs with hs | hs
    · obtain ⟨its, rv, pl, _⟩ := I.list hs
      exact ⟨its, rv, .inl pl.isList⟩
    · obtain ⟨its, rv, pl, _⟩ := I.tuple hs
      exact ⟨its, rv, .inr pl⟩
  refine call_set (P := X.prog) (w := X.w) (I.ok.hd hc) pl (by simpa using rv.strs) hz fun h' tk ys R hm hl k => ?_
  have nd : ys.Nodup := by
    obtain ⟨_, _, _, z, _⟩ := R
    exact z
  exact ⟨.ref s.heap.objs.size, upd H s.heap.objs.size (SetV X.prog X.w s.heap.objs.size ys), I.laid (t' := tk) k (Nat.le_refl _) (setV_new R), rfl, q _ ys hn hm nd hl⟩
/-- sorted(a set of texts) -/
def rSortX (P : Program) (w : World) : List V → Hp → VK → Prop := fun vs H Q => ∃ (a : Addr) (l : List Str), vs = [V.ref a] ∧ H a = some (SetV P w a l) ∧ l.length < 4000 ∧
  ∀ ys p, ys.Perm l → sortedS ys = true → H p = none → Q (.ref p) (upd H p (.lst (ys.map V.str)))
theorem cr_sortX (hc : X.calm = true) : CallR X (.builtin "sorted") (rSortX X.prog X.w) := by
  intro pins s σ H vs us Q I r h
  obtain ⟨a, l, rfl, ha, hlen, q⟩ := h
  have R : SetX X.prog X.w s.heap a l := (I.hok a _ ha).1
  rw [Vals.ref1 r]
  have hz : l.length + 1 < scanBound := by
    have z : scanBound = 4096 := rfl
    omega
  refine sorted_setX R (I.ok.hd hc) hz fun s' p out c ys k g o hp hg hi hs pm => ?_
  have hl2 : (ys.map V.str).length ≤ sizeLine := by
    rw [List.length_map, pm.length_eq, sizeLine_eq]
    omega
  have hn : H p = none := I.hok.fresh hp
  have J : Inv X pins σ (upd H p (.lst (ys.map V.str))) { s with heap := s'.heap, gens := s'.gens, drawn := s'.drawn, toks := s'.toks } :=
    I.call (ch := []) (Un.laid k hp hn) (I.hok.laid k hp ⟨hl2, out.toList, c, vals_of_strs hi, hg⟩) (by rw [g]; exact I.bare) (fun _ z => nomatch z)
  have e : s' = { s with heap := s'.heap, gens := s'.gens, drawn := s'.drawn, toks := s'.toks } := by
    cases s'
    cases s
    cases o
    rfl
  rw [e]
  exact ⟨.ref p, _, J, rfl, q ys p pm hs hn⟩
end
end Sx
/-! Calls of the module's own defs by their promises, walks over a list or a tuple, data that stays. -/
namespace Bx
open PySem PySem.Spec PyProof.Rows L2 TL

/-- the module's name x holds a def that keeps sp, by at most level k -/
structure Cal (P : Program) (w : World) (K : PySem.W.Frag) (mg : Str → Option Value) (base : Heap) (x : Str) (k : Nat) (ps : List Str) (sp : Sp) : Prop where
  ex : ∃ (f : Addr) (fd : FuncData), FnOk P w K mg base CX0 k f fd ps sp ∧ mg x = some (.ref f) ∧ PySem.W.keepIn K (.ref f) = true ∧ Binds K fd ps []
/-- the same of a def with a star parameter alone -/
structure CalR (P : Program) (w : World) (K : PySem.W.Frag) (mg : Str → Option Value) (base : Heap) (x : Str) (k : Nat) (sp : Sp) : Prop where
  ex : ∃ f : Addr, FnR P w K mg base CX0 k f sp ∧ mg x = some (.ref f) ∧ PySem.W.keepIn K (.ref f) = true
section
variable {X : Cx} {x : Str} {k : Nat} {ps : List Str} {sp : Sp} {e : Expr} {es : List Expr} {t : TA} {p pos : Pos}
def tCal (sp : Sp) (t : TA) : TE := fun σ H Q => t σ H fun vs H1 => sp vs H1 Q E0
theorem pe_cal (c : Cal X.prog X.w X.K X.mg X.base x k ps sp) (hr : Room k X.A) (ha : PA X (e :: es) t) (hg : Gl X x := by rfl) (hdb : (x == ("__debug__" : Str)) = false := by decide)
    (he : starEach (e :: es) X.env = (false, eval e X.env) :: starEach es X.env := by rfl) (hpl : (backTo pos (starEach es X.env)).any (·.1) = false := by rfl) : PE X (.Call (.Name x p) (e :: es) [] pos) (tCal sp t) := by
  obtain ⟨f, fd, ok, g, kp, b⟩ := c.ex
  have z := pe_call (E := E0) ok hr hg g kp b .nil pass0 ha hdb he hpl (p := p)
  refine ⟨fun pins s σ H Q I h => z.run pins s σ H Q I ?_⟩
  unfold tCall
  simp only [List.append_nil]
  exact h
theorem pe_cal0 (c : Cal X.prog X.w X.K X.mg X.base x k ps sp) (hr : Room k X.A) (hg : Gl X x := by rfl) (hdb : (x == ("__debug__" : Str)) = false := by decide) : PE X (.Call (.Name x p) [] [] pos) (tCal sp tNil) := by
  obtain ⟨f, fd, ok, g, kp, b⟩ := c.ex
  have z := pe_call0 (E := E0) (pos := pos) ok hr hg g kp b .nil pass0 hdb (p := p)
  refine ⟨fun pins s σ H Q I h => z.run pins s σ H Q I ?_⟩
  exact h
theorem pe_calR (c : CalR X.prog X.w X.K X.mg X.base x k sp) (hr : Room k X.A) (ha : PA X (e :: es) t) (hg : Gl X x := by rfl) (hdb : (x == ("__debug__" : Str)) = false := by decide)
    (he : starEach (e :: es) X.env = (false, eval e X.env) :: starEach es X.env := by rfl) (hpl : (backTo pos (starEach es X.env)).any (·.1) = false := by rfl) : PE X (.Call (.Name x p) (e :: es) [] pos) (tCal sp t) := by
  obtain ⟨f, ok, g, kp⟩ := c.ex
  refine ⟨fun pins s σ H Q I h => ?_⟩
  refine wpAny_Call_Name_kw (ld_glob I hg g ?_ hdb)
  refine PySem.W.callWith_K (h₀ := X.base) I.ok.mod.kin kp (thn (ha.run pos pins s σ H _ I h) fun us s1 ⟨vs, H1, I1, r, q⟩ => ⟨I1.kIn, ?_⟩) he hpl
  exact wpAny_call (run_fnR ok hr pass0 I1 r q)
theorem pe_calR0 (c : CalR X.prog X.w X.K X.mg X.base x k sp) (hr : Room k X.A) (hg : Gl X x := by rfl) (hdb : (x == ("__debug__" : Str)) = false := by decide) : PE X (.Call (.Name x p) [] [] pos) (tCal sp tNil) := by
  obtain ⟨f, ok, g, kp⟩ := c.ex
  refine ⟨fun pins s σ H Q I h => ?_⟩
  refine wpAny_Call_Name_kw (ld_glob I hg g ?_ hdb)
  exact PySem.W.callWith_K0 I.kIn kp (wpAny_call (run_fnR ok hr pass0 I .nil h))

/-- a walk over a list or a tuple -/
def iSeq (K : PySem.W.Frag) (tl : TE) : TI := fun σ H R => tl σ H fun x H1 => ∃ a, x = .ref a ∧ (((∃ xs, SqL K H1 a xs) ∧ R (Itl K a) H1) ∨ ((∃ xs, SqT K H1 a xs) ∧ R (Itt K a) H1))
theorem pi_seq {tg l : Expr} {tl : TE} (hl : PE X l tl) : PI X tg l (iSeq X.K tl) := by
  refine ⟨fun pins s σ H R I h => ?_⟩
  refine thn (hl.run pins s σ H _ I h) fun v s1 ⟨x, H1, I1, r1, q1⟩ => ?_
  obtain ⟨a, e, q1⟩ := q1
  subst e
  cases r1
  rcases q1 with ⟨⟨xs, hq⟩, q⟩ | ⟨⟨xs, hq⟩, q⟩
  · obtain ⟨its, rv, p, hz⟩ := I1.list hq
    refine wpAny_pyIter_list p.isList ?_
    exact pi_one (tk := s1.toks) I1 _ (turn_list a _) ⟨_, Heap.get?_push_size _ rfl, rfl, rfl⟩ q
  · obtain ⟨its, rv, p, hz⟩ := I1.tuple hq
    refine wpAny_pyIter_tuple (show s1.heap.IsTuple a its.toArray from p) ?_
    exact pi_one (tk := s1.toks) I1 _ (turn_tuple a _) ⟨_, Heap.get?_push_size _ rfl, rfl, rfl⟩ q
end

/-! ### rules with the written part named (within a block) -/
section
variable {X : Cx} {K : PySem.W.Frag}
theorem ix_listK (h : X.K = K) : IxR X (rIxL K) := h ▸ ix_list
theorem ix_tupK (h : X.K = K) : IxR X (rIxT K) := h ▸ ix_tup
theorem op_in_seqK (h : X.K = K) : OpR X (compareOp .In) (rIn K false) := h ▸ op_in_seq
theorem call_list_ofK (h : X.K = K) : CallR X (.type "list") (fun xs H Q => ∃ p ys, xs = [.ref p] ∧ (SqL K H p ys ∨ SqT K H p ys) ∧ ∀ l, H l = none → Q (.ref l) (upd H l (.lst ys))) := by
  subst h
  exact call_list_of
theorem call_tuple_ofK (h : X.K = K) : CallR X (.type "tuple") (fun xs H Q => ∃ p ys, xs = [.ref p] ∧ ((SqL K H p ys ∧ ∀ l, H l = none → Q (.ref l) (upd H l (.tup ys))) ∨ (SqT K H p ys ∧ Q (.ref p) H))) := by
  subst h
  exact call_tuple_of
theorem call_len_seqK (h : X.K = K) : CallR X (.builtin "len") (fun xs H Q => ∃ p ys, xs = [.ref p] ∧ (SqL K H p ys ∨ SqT K H p ys) ∧ Q (.int ys.length) H) := by
  subst h
  exact call_len_seq
theorem cr_allK (h : X.K = K) (hc : X.calm = true) : CallR X (.builtin "all") (rAll K) := by
  subst h
  exact cr_all hc
theorem op_notIn_seqK (h : X.K = K) : OpR X (compareOp .NotIn) (rIn K true) := h ▸ op_notIn_seq
end

/-! ### heaps -/
theorem same_new {H : Hp} {p : Addr} {o : HO} (h : H p = none) : Same H (upd H p o) := fun b x e => by
  rw [upd_ne (ne_of_none e h)]
  exact e
theorem same_at {H H2 : Hp} {p : Addr} {o : HO} (h : H p = none) (s : Same H H2) : Same H (upd H2 p o) := fun b x e => by
  rw [upd_ne (ne_of_none e h)]
  exact s b x e
theorem Same.tup {K : PySem.W.Frag} {H H' : Hp} {a : Addr} {xs : List V} (e : Same H H') (h : SqT K H a xs) : SqT K H' a xs := by
  rcases h with (h | ⟨o, h⟩) | h
  · exact .inl (.inl (e _ _ h))
  · exact .inl (.inr ⟨o, e _ _ h⟩)
  · exact .inr h
theorem sq {K : PySem.W.Frag} {H : Hp} {a : Addr} {xs : List V} (h : H a = some (.lst xs)) : SqL K H a xs := Or.inl (Or.inl h)
theorem sqt {K : PySem.W.Frag} {H : Hp} {a : Addr} {xs : List V} (h : H a = some (.tup xs)) : SqT K H a xs := Or.inl (Or.inl h)
/-- all that was tracked but a is as it was -/
def SameBut (a : Addr) (H H' : Hp) : Prop := ∀ b o, b ≠ a → H b = some o → H' b = some o
theorem SameBut.refl (a : Addr) (H : Hp) : SameBut a H H := fun _ _ _ h => h
theorem SameBut.trans {a : Addr} {H H1 H2 : Hp} (x : SameBut a H H1) (y : SameBut a H1 H2) : SameBut a H H2 := fun b o n h => y b o n (x b o n h)
theorem Same.but {a : Addr} {H H' : Hp} (x : Same H H') : SameBut a H H' := fun b o _ h => x b o h
theorem SameBut.upd {a : Addr} {H : Hp} {o : HO} : SameBut a H (upd H a o) := fun b x n h => by
  rw [upd_ne n]
  exact h
/-- new objects do not disturb: what was tracked at H, where a was not -/
theorem SameBut.same {a : Addr} {H H1 H2 : Hp} (x : Same H H1) (n : H a = none) (y : SameBut a H1 H2) : Same H H2 := fun b o h => y b o (ne_of_none h n) (x b o h)
theorem sz {n : Nat} (h : n ≤ 100000) : n ≤ sizeLine := Nat.le_trans h (by decide)
theorem szl {n : Nat} (h : n < 100000) : n < sizeLine := Nat.lt_of_lt_of_le h (by decide)
/-- the source of draws at a -/
def Src (H : Hp) (a : Addr) : Prop := ∃ n c : Int, H a = some (.lst [.int n, .int c])

/-! ### data -/
mutual
theorem dp_same {K : PySem.W.Frag} {H H' : Hp} (e : Same H H') : ∀ {v : V} {d : PyData}, Dp K H v d → Dp K H' v d
  | _, _, .non => .non
  | _, _, .bl b => .bl b
  | _, _, .int i => .int i
  | _, _, .str x => .str x
  | _, _, .lst h a => .lst (e.seq h) (dpAll_same e a)
  | _, _, .tup h a => .tup (Bx.Same.tup e h) (dpAll_same e a)
theorem dpAll_same {K : PySem.W.Frag} {H H' : Hp} (e : Same H H') : ∀ {vs : List V} {ds : List PyData}, DpAll K H vs ds → DpAll K H' vs ds
  | _, _, .nil => .nil
  | _, _, .cons h a => .cons (dp_same e h) (dpAll_same e a)
end
theorem dp_strs {K : PySem.W.Frag} {H : Hp} : ∀ ys : List Str, DpAll K H (ys.map V.str) (ys.map PyData.str)
  | [] => .nil
  | y :: ys => .cons (.str y) (dp_strs ys)
theorem dp_ints {K : PySem.W.Frag} {H : Hp} : ∀ ys : List Int, DpAll K H (ys.map V.int) (ys.map PyData.int)
  | [] => .nil
  | y :: ys => .cons (.int y) (dp_ints ys)
theorem dp_map {K : PySem.W.Frag} {H : Hp} {α : Type} {f : α → V} {g : α → PyData} : ∀ {l : List α}, (∀ x ∈ l, Dp K H (f x) (g x)) → DpAll K H (l.map f) (l.map g)
  | [], _ => .nil
  | x :: l, h => .cons (h x List.mem_cons_self) (dp_map fun y hy => h y (List.mem_cons_of_mem _ hy))

/-! ### walks with any body -/
theorem walk_any {J : It} {n : Nat} {G : Hp → Prop} {Y : Nat → Hp → V → Hp → Prop} (w : Walk J n G Y) {Z : Hp → Prop} {B : (Hp → Prop) → V → Hp → Prop} {H0 : Hp} (Pv : Nat → Hp → Prop) (h0 : Pv 0 H0) (hG : ∀ i H, i ≤ n → Pv i H → G H)
    (hs : ∀ i x H H', i < n → Pv i H → Y i H x H' → B (Pv (i + 1)) x H') (hd : ∀ H, Pv n H → Z H) :
    ∃ W : Nat → Nat → Hp → Prop, (∃ m, W 0 m H0) ∧ ∀ i m H, W i m H → (J.stop i H ∧ Z H) ∨ (J.go i H ∧ ∃ Nx : Hp → Prop, (∀ H', Nx H' → ∃ m', m' < m ∧ W (i + 1) m' H') ∧ ∀ x H', J.yld i H x H' → B Nx x H') := by
  refine ⟨fun i m H => m = n - i ∧ i ≤ n ∧ Pv i H, ⟨n, by simp, Nat.zero_le _, h0⟩, ?_⟩
  rintro i m H ⟨rfl, hi, p⟩
  have q := hG i H hi p
  by_cases hlt : i < n
  · exact .inr ⟨w.goes i H hlt q, Pv (i + 1), fun H' p' => ⟨n - (i + 1), by omega, rfl, hlt, p'⟩, fun x H' y => hs i x H H' hlt p (w.yields i H x H' hlt q y)⟩
  · have e : i = n := by omega
    subst e
    exact .inl ⟨w.stops H q, hd H p⟩

/-! ### a def with a star parameter alone -/
theorem okStar {P : Program} {w : World} {K : PySem.W.Frag} {mg : Str → Option Value} {base : Heap} {x qual pn : Str} {st : Stmt} {f : Addr} {fd : FuncData} {N : List Str} {k : Nat} {sp : Sp} (F : Fun K x qual st f fd) (S : FnScope N [pn] (defScope st))
    (hb : ∀ (kV doc pm : Value) (an : Option Addr) (cdv ct : Value) (rest : List Value), bindArgs (PySem.W.fnOf x qual (defArgs st) (defBody st) (defScope st) .none kV doc pm an cdv ct) ⟨rest, []⟩ = (newTuple rest >>= fun t => pure [(pn, t)]))
    (hbody : ∀ (cdv : Value) (A : Around) (outer : List Env) (s : Shared) (H : Hp) (vs : List V) (Q : VK) (E : XK), Room k (A.deeper (envOfC qual (defScope st) s.heap.objs.size f cdv)) → sp vs H Q E →
      ∃ t, PSs (cxOf CX0 P w K mg base N qual (defScope st) f cdv A outer s H E) (defBody st) t ∧ t { nx := fun _ H' => Q .non H', rt := Q } (start N vs) H) :
    FnR P w K mg base CX0 (k + 1) f (fun vs H Q E => vs.length ≤ sizeLine ∧ ∀ p, H p = none → sp [V.ref p] (upd H p (.tup vs)) Q E) := by
  obtain ⟨oc, od, kV, doc, pm, an, cdv, ct, osl, rfl, lk, hcd⟩ := F.ex
  have z := StX.fn_star (P := P) (w := w) (K := K) (mg := mg) (base := base) (CX := CX0) (ps := []) (sp := sp) lk hcd S StX.cxUp_none (fun us rest hl => by
    have e : us = [] := List.length_eq_zero_iff.mp hl
    subst e
    exact hb kV doc pm an cdv ct rest) (hbody cdv)
  exact z.imp fun vs H Q E h => ⟨[], vs, rfl, rfl, h.1, h.2⟩

/-! ### texts in ascending order -/
theorem rising_at : ∀ (p : Str) (r : List Str), risingS p r = true → ∀ (k : Nat) (x y : Str), (p :: r)[k]? = some x → (p :: r)[k + 1]? = some y → ltCps y.cps.toList x.cps.toList = false
  | p, [], _, k, x, y, _, h2 => by
    simp at h2
  | p, q :: r, h, k, x, y, h1, h2 => by
    have h3 : (!ltCps q.cps.toList p.cps.toList && risingS q r) = true := h
    rw [Bool.and_eq_true] at h3
    cases k with
    | zero =>
      have e1 : p = x := Option.some.inj h1
      have e2 : q = y := Option.some.inj h2
      rw [← e1, ← e2]
      simpa using h3.1
    | succ k => exact rising_at q r h3.2 k x y h1 h2
theorem sorted_at {l : List Str} (h : sortedS l = true) (nd : l.Nodup) {k : Nat} {x y : Str} (h1 : l[k]? = some x) (h2 : l[k + 1]? = some y) : x.cps.toList < y.cps.toList := by
  cases l with
  | nil => cases h1
  | cons p r =>
    have a := rising_at p r h k x y h1 h2
    rw [ltCps_eq] at a
    refine Std.lt_of_le_of_ne (of_decide_eq_false a) fun e => ?_
    have e2 : x = y := ext_tl e
    obtain ⟨i1, e3⟩ := List.getElem?_eq_some_iff.mp h1
    obtain ⟨i2, e4⟩ := List.getElem?_eq_some_iff.mp h2
    have z := List.pairwise_iff_getElem.mp nd k (k + 1) i1 i2 (Nat.lt_succ_self k)
    exact z (e3.trans (e2.trans e4.symm))

/-! ### membership of texts -/
theorem inV_str (x : Str) (ys : List Str) : inV (.str x) (ys.map V.str) = decide (x ∈ ys) := by
  unfold inV
  rw [List.any_map]
  induction ys with
  | nil => rfl
  | cons y ys ih =>
    rw [List.any_cons, ih]
    show ((y == x) || _) = _
    by_cases e : y = x
    · subst e
      simp
    · have e2 : (y == x) = false := by simpa using e
      rw [e2, Bool.false_or]
      by_cases h : x ∈ ys
      · rw [decide_eq_true h, decide_eq_true (List.mem_cons_of_mem _ h)]
      · rw [decide_eq_false h, decide_eq_false (fun z => (List.mem_cons.mp z).elim (fun z => e z.symm) h)]
theorem flat_all (ys : List Str) : (ys.map V.str).all flatV = true := by
  rw [List.all_map, List.all_eq_true]
  intro y _
  rfl
theorem lay_strs : ∀ ys : List Str, (∀ y ∈ ys, PyData.strOk y = true) → PyData.canLayAll0 (ys.map PyData.str) = true ∧ PyData.depthAll (ys.map PyData.str) ≤ 1
  | [], _ => ⟨rfl, by decide⟩
  | y :: ys, h => by
    obtain ⟨a, b⟩ := lay_strs ys fun z hz => h z (List.mem_cons_of_mem _ hz)
    constructor
    · show (PyData.strOk y && PyData.canLayAll0 (ys.map PyData.str)) = true
      rw [a, h y List.mem_cons_self]
      rfl
    · show max (PyData.depth (.str y)) (PyData.depthAll (ys.map PyData.str)) ≤ 1
      exact Nat.max_le.mpr ⟨by first | exact Nat.zero_le _ | decide | exact Nat.le_refl _, b⟩
theorem lay_lists : ∀ L : List (List Str), (∀ ys ∈ L, ∀ y ∈ ys, PyData.strOk y = true) → PyData.canLayAll0 (L.map fun ys => PyData.list (ys.map PyData.str)) = true ∧ PyData.depthAll (L.map fun ys => PyData.list (ys.map PyData.str)) ≤ 2
  | [], _ => ⟨rfl, by decide⟩
  | ys :: L, h => by
    obtain ⟨a, b⟩ := lay_lists L fun z hz => h z (List.mem_cons_of_mem _ hz)
    obtain ⟨c, d⟩ := lay_strs ys (h ys List.mem_cons_self)
    constructor
    · show (PyData.canLayAll0 (ys.map PyData.str) && PyData.canLayAll0 (L.map fun ys => PyData.list (ys.map PyData.str))) = true
      rw [a, c]
      rfl
    · show max (PyData.depthAll (ys.map PyData.str) + 1) (PyData.depthAll (L.map fun ys => PyData.list (ys.map PyData.str))) ≤ 2
      exact Nat.max_le.mpr ⟨by omega, b⟩

/-! ### signs of a written text -/
theorem pick {L : Str} {r : Int} (h0 : 0 ≤ r) (h1 : r < (tl L).length) : ∃ c, atI L.cps.toList r = some c ∧ c ∈ tl L := by
  obtain ⟨n, rfl⟩ := Int.eq_ofNat_of_zero_le h0
  have hn : n < (tl L).length := by omega
  exact ⟨(tl L)[n], atI_nat (List.getElem?_eq_getElem hn), List.getElem_mem hn⟩
end Bx
namespace K00
local macro_rules | `(tactic| walk_at "rd") => `(tactic| repeat (first | refine ⟨rfl, ?_⟩ | refine ⟨_, rfl, ?_⟩ | refine ⟨_, _, rfl, rfl, ?_⟩ | refine ⟨⟨_, rfl⟩, ?_⟩))
open PySem PySem.Spec PyProof.Rows L2 Bx TL
def topS (i : Nat) : Stmt := PySem.Challenge.pw_shadowlinks_k00_names_and_merging.main.body.getD i (.Pass ⟨0, 0, 0, 0⟩)
abbrev s_is_name : Stmt := topS 4
abbrev n_is_name : List Str := ["text", "letter"]
theorem sc_is_name : FnScope n_is_name ["text"] (defScope s_is_name) := ⟨rfl, rfl, rfl, by decide +kernel, rfl, by decide +kernel, by decide +kernel⟩
abbrev s_is_full_name : Stmt := topS 5
abbrev n_is_full_name : List Str := ["text", "piece"]
theorem sc_is_full_name : FnScope n_is_full_name ["text"] (defScope s_is_full_name) := ⟨rfl, rfl, rfl, by decide +kernel, rfl, by decide +kernel, by decide +kernel⟩
abbrev s_merge_names : Stmt := topS 6
abbrev n_merge_names : List Str := ["lists", "names", "name"]
theorem sc_merge_names : FnScope n_merge_names ["lists"] (defScope s_merge_names) := ⟨rfl, rfl, rfl, by decide +kernel, rfl, by decide +kernel, by decide +kernel⟩
abbrev s__law_source : Stmt := topS 8
abbrev n__law_source : List Str := ["_law_script", "_law_k", "_law_number"]
theorem sc__law_source : FnScope n__law_source ["_law_script", "_law_k"] (defScope s__law_source) := ⟨rfl, rfl, rfl, by decide +kernel, rfl, by decide +kernel, by decide +kernel⟩
abbrev s__law_draw : Stmt := topS 9
abbrev n__law_draw : List Str := ["_law_source_here", "_law_limit", "_law_number", "_law_mixed"]
theorem sc__law_draw : FnScope n__law_draw ["_law_source_here", "_law_limit"] (defScope s__law_draw) := ⟨rfl, rfl, rfl, by decide +kernel, rfl, by decide +kernel, by decide +kernel⟩
abbrev s__law_piece : Stmt := topS 10
abbrev n__law_piece : List Str := ["_law_source_here", "_law_size", "_law_text", "_law_k", "_law_choice"]
theorem sc__law_piece : FnScope n__law_piece ["_law_source_here"] (defScope s__law_piece) := ⟨rfl, rfl, rfl, by decide +kernel, rfl, by decide +kernel, by decide +kernel⟩
abbrev s__law_is_name : Stmt := topS 11
abbrev n__law_is_name : List Str := ["_law_text", "_law_k"]
theorem sc__law_is_name : FnScope n__law_is_name ["_law_text"] (defScope s__law_is_name) := ⟨rfl, rfl, rfl, by decide +kernel, rfl, by decide +kernel, by decide +kernel⟩
abbrev s__law_is_bool : Stmt := topS 12
abbrev n__law_is_bool : List Str := ["_law_actual", "_law_expected"]
theorem sc__law_is_bool : FnScope n__law_is_bool ["_law_actual", "_law_expected"] (defScope s__law_is_bool) := ⟨rfl, rfl, rfl, by decide +kernel, rfl, by decide +kernel, by decide +kernel⟩
abbrev s__law_names_right : Stmt := topS 13
abbrev n__law_names_right : List Str := ["_law_source_here", "_law_pieces", "_law_k", "_law_text", "_law_full", "_law_piece_here", "_law_plain"]
theorem sc__law_names_right : FnScope n__law_names_right ["_law_source_here"] (defScope s__law_names_right) := ⟨rfl, rfl, rfl, by decide +kernel, rfl, by decide +kernel, by decide +kernel⟩
abbrev s__law_lists : Stmt := topS 14
abbrev n__law_lists : List Str := ["_law_source_here", "_law_lists_here", "_law_k", "_law_names", "_law_j", "_law_name"]
theorem sc__law_lists : FnScope n__law_lists ["_law_source_here"] (defScope s__law_lists) := ⟨rfl, rfl, rfl, by decide +kernel, rfl, by decide +kernel, by decide +kernel⟩
abbrev s__law_merged : Stmt := topS 15
abbrev n__law_merged : List Str := ["_law_lists_here", "_law_passed"]
theorem sc__law_merged : FnScope n__law_merged ["_law_lists_here", "_law_passed"] (defScope s__law_merged) := ⟨rfl, rfl, rfl, by decide +kernel, rfl, by decide +kernel, by decide +kernel⟩
abbrev s_law : Stmt := topS 16
abbrev n_law : List Str := ["_law_script", "_law_source_here", "_law_k", "_law_lists_here", "_law_passed", "_law_actual", "_law_name", "_law_names"]
theorem sc_law : FnScope n_law ["_law_script"] (defScope s_law) := ⟨rfl, rfl, rfl, by decide +kernel, rfl, by decide +kernel, by decide +kernel⟩
abbrev lett : List Nat := [97, 98, 99, 100, 101, 102, 103, 104, 105, 106, 107, 108, 109, 110, 111, 112, 113, 114, 115, 116, 117, 118, 119, 120, 121, 122]
abbrev digs : List Nat := [48, 49, 50, 51, 52, 53, 54, 55, 56, 57]
def okName : List Nat → Bool
  | [] => false
  | c :: l => decide ((c :: l).length ≤ 8) && decide (c ∈ lett) && (c :: l).all fun d => decide (d ∈ lett ++ digs)
theorem tl_lett : tl (Str.ofString "abcdefghijklmnopqrstuvwxyz") = lett := by decide +kernel
theorem tl_ld : tl (Str.ofString "abcdefghijklmnopqrstuvwxyz0123456789") = lett ++ digs := by decide +kernel
section
variable {P : Program} {w : World} {K : PySem.W.Frag} {mg : Str → Option Value} {base : Heap}
def spIsName : Sp := fun vs H Q _ => ∃ z : Str, vs = [.str z] ∧ z.length ≤ 1000 ∧ ∀ H', Same H H' → Q (.bl (okName (tl z))) H'
theorem ok_is_name {f : Addr} {fd : FuncData} (F : Fun K "is_name" "is_name" s_is_name f fd) (m_len : mg "len" = none) (m_all : mg "all" = none) {t1 t2 t3 : Tok} (m_LONGEST : mg "LONGEST" = some (.int 8 t1))
    (m_LETTERS : mg "LETTERS" = some (.str (Str.ofString "abcdefghijklmnopqrstuvwxyz") t2)) (m_LETTERS_AND_DIGITS : mg "LETTERS_AND_DIGITS" = some (.str (Str.ofString "abcdefghijklmnopqrstuvwxyz0123456789") t3)) : FnOk P w K mg base CX0 1 f fd ["text"] spIsName := by
  refine F.ok sc_is_name (fun vs H Q E h => ?_) (fun cdv A outer s H vs Q E hr h => ?_)
  · obtain ⟨z, rfl, _⟩ := h
    rfl
  · obtain ⟨z, rfl, hz, q⟩ := h
    have hu := hu_of hr
    refine ⟨_, (pss_cons (ps_if (PW.pt (pw_or (pt_cmpR op_eq (pv 0) pe_str (nomark _)) (pw_or1 (pt_cmpR op_gt (pe_callB call_len_str (by rfl) m_len PySem.boot_len (pa_cons (pv 0) pa_nil)) (pe_glob (v := .int _) rfl m_LONGEST ⟨_, rfl⟩) (nomark _)))))
      (pss_one (ps_ret pe_bl))
      pss_nil)
    (pss_one (ps_ret (pe_and (pe_cmpR op_in_sign (pe_ix ix_str (pv 0) pe_int (fun _ _ => rfl)) (pe_glob (v := .str _) rfl m_LETTERS ⟨_, rfl⟩) (by rfl)) (pe_one (pe_callB (id := "all") (cr_all rfl) (by rfl) m_all (by decide +kernel) (pa_cons (pe_lc (own := [("letter", 1)]) (tt := tYes) rfl sc_is_name.nd (pi_str (pv 0)) (blkOk_by (N := n_is_name) (sc := defScope s_is_name) (by decide +kernel)) (fun _ _ _ _ _ => pg_name (i := 1) sc_is_name.nd rfl (Or.inl rfl)) (fun _ _ _ _ _ => pts_nil) (fun _ _ _ _ _ => (pe_cmpR op_in_sign (pv 1) (pe_glob (v := .str _) rfl m_LETTERS_AND_DIGITS ⟨_, rfl⟩) (by rfl)))) pa_nil))))))), ?_⟩
    have hz2 : z.length ≤ sizeLine := sz (by omega)
    have hlen : (tl z).length = z.length := (len_tl z).symm
    walk_at "rd"
    refine ite2 (fun h0 => ?_) (fun h0 => ?_)
    · refine iteT ?_
      have e : z = Str.ofString "" := V.str.inj (of_decide_eq_true h0)
      have e2 : okName (tl z) = false := by
        rw [e]
        rfl
      rw [e2] at q
      exact q H (Same.refl H)
    · have hne : tl z ≠ [] := fun e => h0 (decide_eq_true (congrArg V.str (ext_tl (e.trans rfl))))
      walk_at "rd"
      refine ⟨hz2, ?_⟩
      walk_at "rd"
      refine ite2 (fun h1 => ?_) (fun h1 => ?_)
      · have h2 : (8 : Int) < z.length := of_decide_eq_true h1
        have e2 : okName (tl z) = false := by
          cases e : tl z with
          | nil => rfl
          | cons c l =>
            rw [e] at hlen
            show (decide ((c :: l).length ≤ 8) && _ && _) = false
            rw [decide_eq_false (by omega)]
            rfl
        rw [e2] at q
        exact q H (Same.refl H)
      · have h2 : ¬ (8 : Int) < z.length := fun c => h1 (decide_eq_true c)
        obtain ⟨c, l, e⟩ : ∃ c l, tl z = c :: l := by
          cases e : tl z with
          | nil => exact absurd e hne
          | cons c l => exact ⟨c, l, rfl⟩
        have hc : atI z.cps.toList 0 = some c := by
          show atI (tl z) ((0 : Nat) : Int) = some c
          exact atI_nat (by rw [e]; rfl)
        walk_at "rd"
        refine ⟨_, _, _, rfl, rfl, hz2, hc, ?_⟩
        walk_at "rd"
        have ha : decide (c ∈ (Str.ofString "abcdefghijklmnopqrstuvwxyz").cps.toList) = decide (c ∈ lett) := by
          rw [show (Str.ofString "abcdefghijklmnopqrstuvwxyz").cps.toList = lett from tl_lett]
        refine ite2 (fun h3 => ?_) (fun h3 => ?_)
        · rw [ha] at h3
          -- all([..])
          walk_at "rd"
          refine fun D hD => lc_it walk_str (fun i H' => Same H H' ∧ H' D = some (.lst (((tl z).take i).map fun c => V.bl (decide (c ∈ lett ++ digs))))) ⟨same_new hD, by rw [upd_same]; rfl⟩ (fun _ _ _ _ => trivial) ?_ ?_
          · rintro i x H1 H2 hi ⟨hs, hd⟩ ⟨rfl, c, hc, rfl⟩
            have hi2 : (tl z)[i]? = some c := by
              rw [← Array.getElem?_toList] at hc
              exact hc
            refine ⟨rfl, ?_⟩
            walk_at "rd"
            refine ⟨_, hd, ?_, ?_, ?_⟩
            · rw [List.length_map, List.length_take]
              exact szl (by omega)
            · exact fun b o eb => by
                rw [upd_ne (ne_of_none eb hD)]
                exact hs b o eb
            · rw [upd_same, List.take_add_one, hi2, List.map_append]
              rw [show (Str.ofString "abcdefghijklmnopqrstuvwxyz0123456789").cps.toList = lett ++ digs from tl_ld]
              rfl
          · rintro H1 ⟨hs, hd⟩
            rw [show z.cps.size = (tl z).length from (Array.length_toList).symm, List.take_length] at hd
            refine ⟨_, (tl z).map (fun c => decide (c ∈ lett ++ digs)), rfl, sq (by rw [hd, List.map_map]; rfl), ?_⟩
            have e2 : okName (tl z) = ((tl z).map fun c => decide (c ∈ lett ++ digs)).all id := by
              rw [List.all_map, e]
              rw [e] at hlen
              show (decide ((c :: l).length ≤ 8) && decide (c ∈ lett) && _) = _
              rw [decide_eq_true (show (c :: l).length ≤ 8 by omega), h3]
              rfl
            rw [e2] at q
            exact q H1 hs
        · rw [ha] at h3
          have e2 : okName (tl z) = false := by
            rw [e]
            show (_ && decide (c ∈ lett) && _) = false
            rw [Bool.eq_false_iff.mpr h3, Bool.and_false]
            rfl
          rw [e2] at q
          exact q H (Same.refl H)

def spFull : Sp := fun vs H Q _ => ∃ z : Str, vs = [.str z] ∧ z.length ≤ 1000 ∧ (∀ p ∈ Txt.split z ".", p.length ≤ 1000) ∧ (Txt.split z ".").length ≤ 1000 ∧ ∀ H', Same H H' → Q (.bl ((Txt.split z ".").all fun p => okName (tl p))) H'
theorem ok_is_full_name {f : Addr} {fd : FuncData} (F : Fun K "is_full_name" "is_full_name" s_is_full_name f fd) (m_all : mg "all" = none) (C_is_name : Cal P w K mg base "is_name" 1 ["text"] spIsName) : FnOk P w K mg base CX0 2 f fd ["text"] spFull := by
  refine F.ok sc_is_full_name (fun vs H Q E h => ?_) (fun cdv A outer s H vs Q E hr h => ?_)
  · obtain ⟨z, rfl, _⟩ := h
    rfl
  · obtain ⟨z, rfl, hz, hp, hn, q⟩ := h
    refine ⟨_, (pss_one (ps_ret (pe_callB (id := "all") (cr_all rfl) (by rfl) m_all (by decide +kernel) (pa_cons (pe_lc (own := [("piece", 1)]) (tt := tYes) rfl sc_is_full_name.nd (pi_list (pe_split (pv 0) pe_str)) (blkOk_by (N := n_is_full_name) (sc := defScope s_is_full_name) (by decide +kernel)) (fun _ _ _ _ _ => pg_name (i := 1) sc_is_full_name.nd rfl (Or.inl rfl)) (fun _ _ _ _ _ => pts_nil) (fun _ _ _ _ _ => (pe_cal C_is_name (hr.mono (by decide)) (pa_cons (pv 1) pa_nil)))) pa_nil)))), ?_⟩
    walk_at "rd"
    refine ⟨sz (by omega), fun p np => ?_⟩
    walk_at "rd"
    refine ⟨⟨_, sq upd_same⟩, fun D hD => ?_⟩
    have hDp : p ≠ D := fun e => by
      rw [e, upd_same] at hD
      cases hD
    refine lc_list (xs := (Txt.split z ".").map V.str) (fun i H' => Same H H' ∧ H' p = some (.lst ((Txt.split z ".").map V.str)) ∧ H' D = some (.lst ((((Txt.split z ".").take i).map fun c => V.bl (okName (tl c)))))) ⟨?_, ?_, by rw [upd_same]; rfl⟩ (fun i H' _ h => sq h.2.1) ?_ ?_
    · exact (same_new np).trans (same_new hD)
    · rw [upd_ne hDp, upd_same]
    · rintro i x H1 hi ⟨hs, h1, h2⟩
      obtain ⟨y, hy, rfl⟩ : ∃ y, (Txt.split z ".")[i]? = some y ∧ x = .str y := by
        rw [List.getElem?_map] at hi
        cases e : (Txt.split z ".")[i]? with
        | none =>
          rw [e] at hi
          cases hi
        | some y =>
          rw [e] at hi
          exact ⟨y, rfl, (Option.some.inj hi).symm⟩
      refine ⟨rfl, ?_⟩
      walk_at "rd"
      refine ⟨hp y (List.mem_of_getElem? hy), fun H2 s2 => ?_⟩
      refine ⟨_, s2 _ _ h2, ?_, ?_, ?_, ?_⟩
      · rw [List.length_map, List.length_take]
        exact szl (by omega)
      · exact same_at ((same_new np).free hD) (hs.trans s2)
      · rw [upd_ne hDp]
        exact s2 _ _ h1
      · rw [upd_same, List.take_add_one, hy, List.map_append]
        rfl
    · rintro H1 ⟨hs, h1, h2⟩
      rw [List.length_map, List.take_length] at h2
      refine ⟨_, (Txt.split z ".").map (fun c => okName (tl c)), rfl, sq (by rw [h2, List.map_map]; rfl), ?_⟩
      have e2 : ((Txt.split z ".").map fun c => okName (tl c)).all id = (Txt.split z ".").all fun p => okName (tl p) := by
        rw [List.all_map]
        rfl
      rw [e2]
      exact q H1 hs

/-! ### merge_names -/
def spMerge0 (K : PySem.W.Frag) : Sp := fun vs H Q _ => ∃ (p : Addr) (L : List (Addr × List Str)), vs = [.ref p] ∧ SqT K H p (L.map fun q => V.ref q.1) ∧ (∀ q ∈ L, SqL K H q.1 (q.2.map V.str) ∨ SqT K H q.1 (q.2.map V.str)) ∧ (L.map fun q => q.2).flatten.length ≤ 3000 ∧
  ∀ r H' ys, Same H H' → H r = none → H' r = some (.tup (ys.map V.str)) → sortedS ys = true → ys.Nodup → (∀ x, x ∈ ys ↔ x ∈ (L.map fun q => q.2).flatten) → Q (.ref r) H'
def spMerge (K : PySem.W.Frag) : Sp := fun vs H Q _ => ∃ (L : List (Addr × List Str)), vs = L.map (fun q => V.ref q.1) ∧ (∀ q ∈ L, SqL K H q.1 (q.2.map V.str) ∨ SqT K H q.1 (q.2.map V.str)) ∧ L.length ≤ 1000 ∧ (L.map fun q => q.2).flatten.length ≤ 3000 ∧
  ∀ r H' ys, Same H H' → H r = none → H' r = some (.tup (ys.map V.str)) → sortedS ys = true → ys.Nodup → (∀ x, x ∈ ys ↔ x ∈ (L.map fun q => q.2).flatten) → Q (.ref r) H'
theorem ok_merge_names {f : Addr} {fd : FuncData} (F : Fun K "merge_names" "merge_names" s_merge_names f fd) (m_set : mg "set" = none) (m_sorted : mg "sorted" = none) (m_tuple : mg "tuple" = none) : FnR P w K mg base CX0 1 f (spMerge K) := by
  have z := okStar (P := P) (w := w) (K := K) (mg := mg) (base := base) (sp := spMerge0 K) (k := 0) F sc_merge_names (fun _ _ _ _ _ _ rest => match rest with | [] => rfl | _ :: _ => rfl) (fun cdv A outer s H vs Q E hr h => ?_)
  · refine z.imp fun vs H Q E h => ?_
    obtain ⟨L, rfl, hL, hl, hn, q⟩ := h
    refine ⟨by rw [List.length_map]; exact sz (by omega), fun p np => ⟨p, L, rfl, sqt upd_same, fun x hx => (hL x hx).imp (Same.seq (same_new np)) (Bx.Same.tup (same_new np)), hn, fun r H' ys s1 n1 => q r H' ys ((same_new np).trans s1) ((same_new np).free n1)⟩⟩
  · obtain ⟨p, L, rfl, hT, hL, hn, q⟩ := h
    refine ⟨_, (pss_one (ps_ret (pe_callTy (T := "tuple") call_tuple_of (by rfl) m_tuple (by decide +kernel) (pa_cons (pe_callB (id := "sorted") (Sx.cr_sortX rfl) (by rfl) m_sorted (by decide +kernel) (pa_cons (pe_callTy (T := "set") (Sx.cr_setX rfl) (by rfl) m_set (by decide +kernel) (pa_cons (pe_lc2 (own := [("names", 1), ("name", 2)]) (vs1 := [2]) (wi1 := iSeq K (tVar 1)) (tt := tYes) (tt1 := tYes) rfl sc_merge_names.nd (pi_tup (pv 0)) (blkOk_by (N := n_merge_names) (sc := defScope s_merge_names) (by decide +kernel)) (by decide) (fun _ _ _ _ _ => pg_name (i := 1) sc_merge_names.nd rfl (Or.inl rfl)) (fun _ _ _ _ _ => pts_nil) (fun _ _ _ _ _ => (pi_seq (pv 1))) (fun _ _ _ _ _ => pg_name (i := 2) sc_merge_names.nd rfl (Or.inl rfl)) (fun _ _ _ _ _ => pts_nil) (fun _ _ _ _ _ => (pv 2))) pa_nil)) pa_nil)) pa_nil)))), ?_⟩
    walk_at "rd"
    refine ⟨⟨_, hT⟩, fun D hD => ?_⟩
    refine walk_any (walk_tup (K := K) (a := p) (xs := L.map fun q => V.ref q.1)) (fun i H' => Same H H' ∧ H' D = some (.lst (((L.take i).map fun q => q.2).flatten.map V.str))) ⟨same_new hD, by rw [upd_same]; rfl⟩ (fun i H' _ h => Bx.Same.tup h.1 hT) ?_ ?_
    · rintro i x H1 H2 hi ⟨hs, hd⟩ ⟨rfl, hx⟩
      rw [List.length_map] at hi
      obtain ⟨y, hy, rfl⟩ : ∃ y, L[i]? = some y ∧ x = .ref y.1 := by
        rw [List.getElem?_map, List.getElem?_eq_getElem hi] at hx
        exact ⟨_, List.getElem?_eq_getElem hi, (Option.some.inj hx).symm⟩
      refine ⟨rfl, ?_⟩
      have hy2 := hL y (List.mem_of_getElem? hy)
      have hfl : ((L.take (i + 1)).map fun q => q.2).flatten = ((L.take i).map fun q => q.2).flatten ++ y.2 := by
        rw [List.take_add_one, hy, List.map_append, List.flatten_append]
        simp
      have hle : ∀ j, (((L.take j).map fun q => q.2).flatten).length ≤ 3000 := fun j => by
        have e := List.take_append_drop j L
        have e2 : (L.map fun q => q.2).flatten.length = ((L.take j).map fun q => q.2).flatten.length + ((L.drop j).map fun q => q.2).flatten.length := by
          rw [← List.length_append, ← List.flatten_append, ← List.map_append, e]
        omega
      walk_at "rd"
      have hstep : ∀ (j : Nat) (x : V) (H1 : Hp), (y.2.map V.str)[j]? = some x → Same H H1 ∧ H1 D = some (.lst ((((L.take i).map fun q => q.2).flatten ++ y.2.take j).map V.str)) →
          ∃ acc, H1 D = some (.lst acc) ∧ acc.length < sizeLine ∧ Same H (upd H1 D (.lst (acc ++ [x]))) ∧ (upd H1 D (.lst (acc ++ [x]))) D = some (.lst ((((L.take i).map fun q => q.2).flatten ++ y.2.take (j + 1)).map V.str)) := by
        rintro j x H1 hj ⟨h1, h2⟩
        refine ⟨_, h2, ?_, same_at hD h1, ?_⟩
        · have e1 := hle (i + 1)
          rw [hfl, List.length_append] at e1
          rw [List.length_map, List.length_append, List.length_take]
          exact szl (by omega)
        · obtain ⟨u, hu, rfl⟩ : ∃ u, y.2[j]? = some u ∧ x = .str u := by
            rw [List.getElem?_map] at hj
            cases e : y.2[j]? with
            | none =>
              rw [e] at hj
              cases hj
            | some u =>
              rw [e] at hj
              exact ⟨u, rfl, (Option.some.inj hj).symm⟩
          rw [upd_same, List.take_add_one, hu, ← List.append_assoc, List.map_append (l₂ := (some u).toList)]
          rfl
      have hend : ∀ H1, Same H H1 ∧ H1 D = some (.lst ((((L.take i).map fun q => q.2).flatten ++ y.2.take (y.2.map V.str).length).map V.str)) → Same H H1 ∧ H1 D = some (.lst (((L.take (i + 1)).map fun q => q.2).flatten.map V.str)) := by
        rintro H1 ⟨h1, h2⟩
        rw [List.length_map, List.take_length, ← hfl] at h2
        exact ⟨h1, h2⟩
      have h0 : Same H H2 ∧ H2 D = some (.lst ((((L.take i).map fun q => q.2).flatten ++ y.2.take 0).map V.str)) := by
        rw [List.take_zero, List.append_nil]
        exact ⟨hs, hd⟩
      rcases hy2 with hl | ht
      · refine .inl ⟨⟨_, hs.seq hl⟩, walk_any walk_list (fun j H1 => Same H H1 ∧ H1 D = some (.lst ((((L.take i).map fun q => q.2).flatten ++ y.2.take j).map V.str))) h0 (fun j H' _ h => h.1.seq hl) ?_ hend⟩
        rintro j x H1 H' hj hp ⟨rfl, hx⟩
        refine ⟨rfl, ?_⟩
        walk_at "rd"
        exact hstep j x _ hx hp
      · refine .inr ⟨⟨_, Bx.Same.tup hs ht⟩, walk_any walk_tup (fun j H1 => Same H H1 ∧ H1 D = some (.lst ((((L.take i).map fun q => q.2).flatten ++ y.2.take j).map V.str))) h0 (fun j H' _ h => Bx.Same.tup h.1 ht) ?_ hend⟩
        rintro j x H1 H' hj hp ⟨rfl, hx⟩
        refine ⟨rfl, ?_⟩
        walk_at "rd"
        exact hstep j x _ hx hp
    · rintro H1 ⟨hs, hd⟩
      rw [List.length_map, List.take_length] at hd
      refine ⟨_, _, rfl, .inl (sq hd), by omega, fun p1 ys n1 hm nd hlen => ?_⟩
      refine ⟨_, _, rfl, upd_same, by omega, fun zs p2 pm hst n2 => ?_⟩
      refine ⟨_, _, rfl, .inl ⟨sq upd_same, fun r nr => ?_⟩⟩
      have s3 : Same H (upd (upd (upd H1 p1 (Sx.SetV P w p1 ys)) p2 (.lst (zs.map V.str))) r (.tup (zs.map V.str))) := ((hs.trans (same_new n1)).trans (same_new n2)).trans (same_new nr)
      refine q r _ zs s3 (((hs.trans (same_new n1)).trans (same_new n2)).free nr) upd_same hst (pm.nodup_iff.mpr nd) fun x => ?_
      rw [pm.mem_iff, hm x]

/-! ### the law's own: draws -/
theorem int_at {ns : List Int} {k : Nat} (h : k < ns.length) : atI (ns.map V.int) (k : Int) = some (V.int ns[k]) := atI_nat (by rw [List.getElem?_map, List.getElem?_eq_getElem h]; rfl)
def spSource (K : PySem.W.Frag) : Sp := fun vs H Q _ => ∃ (a : Addr) (ns : List Int) (k : Nat), vs = [.ref a, .int (k : Int)] ∧ SqL K H a (ns.map V.int) ∧ k ≤ 100 ∧ ∀ p n c, H p = none → Q (.ref p) (upd H p (.lst [.int n, .int c]))
theorem ok_source {f : Addr} {fd : FuncData} (F : Fun K "_law_source" "_law_source" s__law_source f fd) (m_len : mg "len" = none) (m_int : mg "int" = none) : FnOk P w K mg base CX0 1 f fd ["_law_script", "_law_k"] (spSource K) := by
  refine F.ok sc__law_source (fun vs H Q E h => ?_) (fun cdv A outer s H vs Q E hr h => ?_)
  · obtain ⟨a, ns, k, rfl, _⟩ := h
    rfl
  · obtain ⟨a, ns, k, rfl, hS, hk, q⟩ := h
    refine ⟨_, (pss_cons (ps_set (i := 2) sc__law_source.nd rfl (Or.inl rfl) pe_int)
    (pss_cons (ps_if (pt_cmpR op_lt (pv 1) (pe_callB call_len_seq (by rfl) m_len PySem.boot_len (pa_cons (pv 0) pa_nil)) (nomark _))
      (pss_one (ps_set (i := 2) sc__law_source.nd rfl (Or.inl rfl) (pe_callTy (T := "int") call_int1 (by rfl) m_int (by decide +kernel) (pa_cons (pe_ix ix_list (pv 0) (pv 1) (fun _ _ => rfl)) pa_nil))))
      pss_nil)
    (pss_one (ps_ret (pe_lst (pa_cons (pv 2) (pa_cons (pe_op op_add (pe_op op_mul pe_int (pv 1)) (pe_callB call_len_seq (by rfl) m_len PySem.boot_len (pa_cons (pv 0) pa_nil))) pa_nil))))))), ?_⟩
    walk_at "rd"
    refine ⟨_, _, rfl, .inl hS, ?_⟩
    walk_at "rd"
    refine ite2 (fun h0 => ?_) (fun h0 => ?_)
    · have h1 : (k : Int) < ((ns.map V.int).length : Nat) := of_decide_eq_true h0
      rw [List.length_map] at h1
      walk_at "rd"
      refine ⟨_, _, _, _, rfl, rfl, hS, int_at (k := k) (by omega), ?_⟩
      refine .inl ⟨_, rfl, ?_⟩
      walk_at "rd"
      refine ⟨.inr ⟨by omega, by omega⟩, ?_⟩
      walk_at "rd"
      refine ⟨_, _, rfl, .inl hS, ?_⟩
      walk_at "rd"
      exact ⟨sz (by show 2 ≤ 100000; decide), fun p np => q p _ _ np⟩
    · walk_at "rd"
      refine ⟨.inr ⟨by omega, by omega⟩, ?_⟩
      walk_at "rd"
      refine ⟨_, _, rfl, .inl hS, ?_⟩
      walk_at "rd"
      exact ⟨sz (by show 2 ≤ 100000; decide), fun p np => q p _ _ np⟩
theorem modb (x : Int) {k : Int} (h : 0 < k) (h2 : k ≤ 2 ^ 64) : -(2 ^ 64) < x % k ∧ x % k < 2 ^ 64 := by
  have a := Int.emod_nonneg x (show k ≠ 0 by omega)
  have b := Int.emod_lt_of_pos x h
  omega
@[irreducible] def spDraw : Sp := fun vs H Q _ => ∃ (a : Addr) (n c lim : Int), vs = [.ref a, .int lim] ∧ H a = some (.lst [.int n, .int c]) ∧ 0 < lim ∧ lim < 1073741824 ∧ ∀ r n' c', 0 ≤ r → r < lim → Q (.int r) (upd H a (.lst [.int n', .int c']))
theorem ok_draw {f : Addr} {fd : FuncData} (F : Fun K "_law_draw" "_law_draw" s__law_draw f fd) (m_int : mg "int" = none) : FnOk P w K mg base CX0 1 f fd ["_law_source_here", "_law_limit"] spDraw := by
  refine F.ok sc__law_draw (fun vs H Q E h => ?_) (fun cdv A outer s H vs Q E hr h => ?_)
  · unfold spDraw at h
    obtain ⟨a, n, c, lim, rfl, _⟩ := h
    rfl
  · unfold spDraw at h
    obtain ⟨a, n, c, lim, rfl, hA, h0, h1, q⟩ := h
    have hfm : ∀ x : Int, 0 ≤ x.fmod lim ∧ x.fmod lim < lim := fun x => by
      rw [Int.fmod_eq_emod_of_nonneg _ (by omega)]
      exact ⟨Int.emod_nonneg _ (by omega), Int.emod_lt_of_pos _ h0⟩
    refine ⟨_, (pss_cons (ps_set (i := 2) sc__law_draw.nd rfl (Or.inl rfl) (pe_ix ix_list (pv 0) pe_int (fun _ _ => rfl)))
    (pss_cons (ps_if (pt_cmpR op_ge (pv 2) (pe_op op_pow pe_int pe_int) (nomark _))
      (pss_cons (ps_asg (pe_op op_fdivN (pv 2) (pv 1)) (pg_sub (pv 0) pe_int set_list))
    (pss_one (ps_ret (pe_op op_modN (pe_callTy (T := "int") call_int1 (by rfl) m_int (by decide +kernel) (pa_cons (pv 2) pa_nil)) (pv 1)))))
      pss_nil)
    (pss_cons (ps_asg (pe_op op_add (pe_ix ix_list (pv 0) pe_int (fun _ _ => rfl)) pe_int) (pg_sub (pv 0) pe_int set_list))
    (pss_cons (ps_set (i := 3) sc__law_draw.nd rfl (Or.inl rfl) (pe_op op_mod (pe_callTy (T := "int") call_int1 (by rfl) m_int (by decide +kernel) (pa_cons (pe_op op_add (pe_op op_add (pe_op op_mul (pv 2) pe_int) (pe_op op_mul (pe_ix ix_list (pv 0) pe_int (fun _ _ => rfl)) pe_int)) pe_int) pa_nil)) pe_int))
    (pss_cons (ps_set (i := 3) sc__law_draw.nd rfl (Or.inl rfl) (pe_op op_mod (pe_callTy (T := "int") call_int1 (by rfl) m_int (by decide +kernel) (pa_cons (pe_op op_add (pe_op op_add (pe_op op_mul (pv 3) (pv 3)) (pv 2)) (pe_op op_mul (pe_ix ix_list (pv 0) pe_int (fun _ _ => rfl)) pe_int)) pa_nil)) pe_int))
    (pss_cons (ps_set (i := 3) sc__law_draw.nd rfl (Or.inl rfl) (pe_op op_mod (pe_callTy (T := "int") call_int1 (by rfl) m_int (by decide +kernel) (pa_cons (pe_op op_add (pe_op op_add (pe_op op_mul (pv 3) (pv 3)) (pe_op op_fdiv (pv 3) pe_int)) pe_int) pa_nil)) pe_int))
    (pss_one (ps_ret (pe_op op_modN (pe_op op_fdiv (pe_callTy (T := "int") call_int1 (by rfl) m_int (by decide +kernel) (pa_cons (pv 3) pa_nil)) pe_int) (pv 1)))))))))), ?_⟩
    walk_at "rd"
    refine ⟨_, _, _, _, rfl, rfl, sq hA, atI_nat (j := 0) rfl, ?_⟩
    walk_at "rd"
    refine ⟨⟨by decide, by decide, by decide⟩, ?_⟩
    walk_at "rd"
    refine ite2 (fun hb => ?_) (fun hb => ?_)
    · walk_at "rd"
      refine ⟨⟨by omega, by omega⟩, ?_⟩
      walk_at "rd"
      refine ⟨_, _, _, 0, rfl, rfl, hA, rfl, ?_⟩
      walk_at "rd"
      refine .inl ⟨_, rfl, ?_⟩
      walk_at "rd"
      refine ⟨by omega, ?_⟩
      exact q _ _ _ (hfm _).1 (hfm _).2
    · walk_at "rd"
      refine ⟨_, _, _, _, rfl, rfl, sq hA, atI_nat (j := 1) rfl, ?_⟩
      walk_at "rd"
      refine ⟨_, _, _, 1, rfl, rfl, hA, rfl, ?_⟩
      -- the first mixing
      walk_at "rd"
      refine ⟨.inr ⟨by decide, by decide⟩, ?_⟩
      walk_at "rd"
      refine ⟨_, _, _, _, rfl, rfl, sq upd_same, atI_nat (j := 1) rfl, ?_⟩
      walk_at "rd"
      refine ⟨.inr ⟨by decide, by decide⟩, ?_⟩
      walk_at "rd"
      refine .inl ⟨_, rfl, ?_⟩
      walk_at "rd"
      refine ⟨by show (0 : Int) < 2147483647; decide, ?_⟩
      -- the second
      walk_at "rd"
      refine ⟨.inl (modb _ (by decide) (by decide)), ?_⟩
      walk_at "rd"
      refine ⟨_, _, _, _, rfl, rfl, sq upd_same, atI_nat (j := 1) rfl, ?_⟩
      walk_at "rd"
      refine ⟨.inr ⟨by decide, by decide⟩, ?_⟩
      walk_at "rd"
      refine .inl ⟨_, rfl, ?_⟩
      walk_at "rd"
      refine ⟨by show (0 : Int) < 2147483629; decide, ?_⟩
      -- the third
      walk_at "rd"
      refine ⟨.inl (modb _ (by decide) (by decide)), ?_⟩
      walk_at "rd"
      refine ⟨⟨by decide, by decide⟩, ?_⟩
      walk_at "rd"
      refine .inl ⟨_, rfl, ?_⟩
      walk_at "rd"
      refine ⟨by show (0 : Int) < 2147483587; decide, ?_⟩
      -- the answer
      walk_at "rd"
      refine .inl ⟨_, rfl, ?_⟩
      walk_at "rd"
      refine ⟨⟨by decide, by decide⟩, ?_⟩
      walk_at "rd"
      refine ⟨by omega, ?_⟩
      exact q _ _ _ (hfm _).1 (hfm _).2
/-- some other source, or none -/
theorem draw_of {H : Hp} {a : Addr} {lim : Int} {Q : VK} {E : XK} (hA : Src H a) (h0 : 0 < lim ∧ lim < 1073741824) (q : ∀ r H', 0 ≤ r → r < lim → SameBut a H H' → Src H' a → Q (.int r) H') : spDraw [.ref a, .int lim] H Q E := by
  obtain ⟨n, c, hA⟩ := hA
  unfold spDraw
  exact ⟨a, n, c, lim, rfl, hA, h0.1, h0.2, fun r n' c' h1 h2 => q r _ h1 h2 SameBut.upd ⟨n', c', upd_same⟩⟩

/-! ### a piece -/
theorem nodot {L : Str} {c : Nat} (h : (tl L).all (fun d => d != 46) = true) (hc : c ∈ tl L) : c ≠ 46 := by
  have z := List.all_eq_true.mp h c hc
  simpa using z
def spPiece : Sp := fun vs H Q _ => ∃ a : Addr, vs = [.ref a] ∧ Src H a ∧ ∀ z H', z.length ≤ 9 → 46 ∉ tl z → SameBut a H H' → Src H' a → Q (.str z) H'
theorem ok_piece {f : Addr} {fd : FuncData} (F : Fun K "_law_piece" "_law_piece" s__law_piece f fd) (m_range : mg "range" = none) (C__law_draw : Cal P w K mg base "_law_draw" 1 ["_law_source_here", "_law_limit"] spDraw) : FnOk P w K mg base CX0 2 f fd ["_law_source_here"] spPiece := by
  refine F.ok sc__law_piece (fun vs H Q E h => ?_) (fun cdv A outer s H vs Q E hr h => ?_)
  · obtain ⟨a, rfl, _⟩ := h
    rfl
  · obtain ⟨a, rfl, hA, q⟩ := h
    refine ⟨_, (pss_cons (ps_set (i := 1) sc__law_piece.nd rfl (Or.inl rfl) (pe_cal C__law_draw (hr.mono (by decide)) (pa_cons (pv 0) (pa_cons pe_int pa_nil))))
    (pss_cons (ps_set (i := 2) sc__law_piece.nd rfl (Or.inl rfl) pe_str)
    (pss_cons (ps_for PassesOwn.never rfl (pi_range1 (by rfl) m_range (pa_cons (pv 1) pa_nil)) (pg_name (i := 3) sc__law_piece.nd rfl (Or.inl rfl))
      (pss_cons (ps_set (i := 4) sc__law_piece.nd rfl (Or.inl rfl) (pe_cal C__law_draw (hr.mono (by decide)) (pa_cons (pv 0) (pa_cons pe_int pa_nil))))
    (pss_one (ps_if (pt_cmpR op_eq (pv 4) pe_int (nomark _))
      (pss_one (ps_set (i := 2) sc__law_piece.nd rfl (Or.inl rfl) (pe_op op_add_str (pv 2) (pe_ix ix_str pe_str (pe_cal C__law_draw (hr.mono (by decide)) (pa_cons (pv 0) (pa_cons pe_int pa_nil))) (fun _ _ => rfl)))))
      (pss_one (ps_if (PW.pt (pw_or (PW.pt (pw_and (pt_cmpR op_gt (pv 3) pe_int (nomark _)) (pw_and1 (pt_cmpR op_gt (pv 4) pe_int (nomark _))))) (pw_or1 (pt_cmpR op_eq (pv 4) pe_int (nomark _)))))
      (pss_one (ps_set (i := 2) sc__law_piece.nd rfl (Or.inl rfl) (pe_op op_add_str (pv 2) (pe_ix ix_str pe_str (pe_cal C__law_draw (hr.mono (by decide)) (pa_cons (pv 0) (pa_cons pe_int pa_nil))) (fun _ _ => rfl)))))
      (pss_one (ps_set (i := 2) sc__law_piece.nd rfl (Or.inl rfl) (pe_op op_add_str (pv 2) (pe_ix ix_str pe_str (pe_cal C__law_draw (hr.mono (by decide)) (pa_cons (pv 0) (pa_cons pe_int pa_nil))) (fun _ _ => rfl)))))))))))
    (pss_one (ps_ret (pv 2)))))), ?_⟩
    walk_at "rd"
    refine draw_of (lim := 10) hA (by decide) fun r H1 h0 h1 b1 A1 => ?_
    walk_at "rd"
    refine ⟨by omega, by omega, ?_⟩
    refine for_range (lo := 0) (n := r.toNat) (fun i σ H' => ∃ (z : Str) (y3 y4 : Option V), σ = [some (.ref a), some (.int r), some (.str z), y3, y4] ∧ z.length ≤ i ∧ 46 ∉ tl z ∧ SameBut a H H' ∧ Src H' a) ⟨_, none, none, rfl, Nat.le_refl _, (by decide +kernel), b1, A1⟩ ?_ ?_
    · rintro i σ H2 hi ⟨z, y3, y4, rfl, hz, hd, b2, A2⟩
      have hz2 : z.length + 1 ≤ sizeLine := sz (by omega)
      -- one sign more
      have more : ∀ (L : Str) (c : Nat) (H3 : Hp), (tl L).all (fun d => d != 46) = true → c ∈ tl L → SameBut a H H3 → Src H3 a → ∀ x3 x4 : Option V,
          ∃ (z' : Str) (y3 y4 : Option V), [some (.ref a), some (.int r), some (.str (z ++ ⟨#[c]⟩)), x3, x4] = [some (.ref a), some (.int r), some (.str z'), y3, y4] ∧ z'.length ≤ i + 1 ∧ 46 ∉ tl z' ∧ SameBut a H H3 ∧ Src H3 a := by
        intro L c H3 hL hc b3 A3 x3 x4
        refine ⟨_, x3, x4, rfl, ?_, ?_, b3, A3⟩
        · rw [len_tl, tl_append, List.length_append, ← len_tl]
          show z.length + 1 ≤ i + 1
          omega
        · rw [tl_append, List.mem_append]
          rintro (h | h)
          · exact hd h
          · exact nodot hL hc (List.mem_singleton.mp h).symm
      walk_at "rd"
      refine draw_of (lim := 16) A2 (by decide) fun r2 H3 h2 h3 b3 A3 => ?_
      walk_at "rd"
      refine ite2 (fun _ => ?_) (fun _ => ?_)
      · walk_at "rd"
        refine draw_of (lim := 5) A3 (by decide) fun r3 H4 h4 h5 b4 A4 => ?_
        obtain ⟨c, hc, hm⟩ := pick (L := "AZ_ -") h4 h5
        refine ⟨_, _, _, rfl, rfl, (by decide), hc, ?_⟩
        walk_at "rd"
        refine ⟨hz2, ?_⟩
        exact more _ c H4 (by decide +kernel) hm ((b2.trans b3).trans b4) A4 _ _
      · walk_at "rd"
        refine ite2 (fun _ => ?_) (fun _ => ?_)
        · walk_at "rd"
          refine ite2 (fun _ => ?_) (fun _ => ?_)
          · walk_at "rd"
            refine draw_of (lim := 10) A3 (by decide) fun r3 H4 h4 h5 b4 A4 => ?_
            obtain ⟨c, hc, hm⟩ := pick (L := "0123456789") h4 h5
            refine ⟨_, _, _, rfl, rfl, (by decide), hc, ?_⟩
            walk_at "rd"
            refine ⟨hz2, ?_⟩
            exact more _ c H4 (by decide +kernel) hm ((b2.trans b3).trans b4) A4 _ _
          · walk_at "rd"
            refine ite2 (fun _ => ?_) (fun _ => ?_)
            · walk_at "rd"
              refine draw_of (lim := 10) A3 (by decide) fun r3 H4 h4 h5 b4 A4 => ?_
              obtain ⟨c, hc, hm⟩ := pick (L := "0123456789") h4 h5
              refine ⟨_, _, _, rfl, rfl, (by decide), hc, ?_⟩
              walk_at "rd"
              refine ⟨hz2, ?_⟩
              exact more _ c H4 (by decide +kernel) hm ((b2.trans b3).trans b4) A4 _ _
            · walk_at "rd"
              refine draw_of (lim := 26) A3 (by decide) fun r3 H4 h4 h5 b4 A4 => ?_
              obtain ⟨c, hc, hm⟩ := pick (L := "abcdefghijklmnopqrstuvwxyz") h4 h5
              refine ⟨_, _, _, rfl, rfl, (by decide), hc, ?_⟩
              walk_at "rd"
              refine ⟨hz2, ?_⟩
              exact more _ c H4 (by decide +kernel) hm ((b2.trans b3).trans b4) A4 _ _
        · walk_at "rd"
          refine ite2 (fun _ => ?_) (fun _ => ?_)
          · walk_at "rd"
            refine draw_of (lim := 10) A3 (by decide) fun r3 H4 h4 h5 b4 A4 => ?_
            obtain ⟨c, hc, hm⟩ := pick (L := "0123456789") h4 h5
            refine ⟨_, _, _, rfl, rfl, (by decide), hc, ?_⟩
            walk_at "rd"
            refine ⟨hz2, ?_⟩
            exact more _ c H4 (by decide +kernel) hm ((b2.trans b3).trans b4) A4 _ _
          · walk_at "rd"
            refine draw_of (lim := 26) A3 (by decide) fun r3 H4 h4 h5 b4 A4 => ?_
            obtain ⟨c, hc, hm⟩ := pick (L := "abcdefghijklmnopqrstuvwxyz") h4 h5
            refine ⟨_, _, _, rfl, rfl, (by decide), hc, ?_⟩
            walk_at "rd"
            refine ⟨hz2, ?_⟩
            exact more _ c H4 (by decide +kernel) hm ((b2.trans b3).trans b4) A4 _ _
    · rintro σ H2 ⟨z, y3, y4, rfl, hz, hd, b2, A2⟩
      walk_at "rd"
      exact q z H2 (by omega) hd b2 A2

/-! ### the law's own test of a name -/
theorem ok_law_is_name {f : Addr} {fd : FuncData} (F : Fun K "_law_is_name" "_law_is_name" s__law_is_name f fd) (m_len : mg "len" = none) (m_range : mg "range" = none) : FnOk P w K mg base CX0 1 f fd ["_law_text"] spIsName := by
  refine F.ok sc__law_is_name (fun vs H Q E h => ?_) (fun cdv A outer s H vs Q E hr h => ?_)
  · obtain ⟨z, rfl, _⟩ := h
    rfl
  · obtain ⟨z, rfl, hz, q⟩ := h
    have hz2 : z.length ≤ sizeLine := sz (by omega)
    have hlen : (tl z).length = z.length := (len_tl z).symm
    refine ⟨_, (pss_cons (ps_if (PW.pt (pw_or (pt_cmpR op_eq (pv 0) pe_str (nomark _)) (pw_or1 (pt_cmpR op_gt (pe_callB call_len_str (by rfl) m_len PySem.boot_len (pa_cons (pv 0) pa_nil)) pe_int (nomark _)))))
      (pss_one (ps_ret pe_bl))
      pss_nil)
    (pss_cons (ps_for PassesOwn.never rfl (pi_range1 (by rfl) m_range (pa_cons (pe_callB call_len_str (by rfl) m_len PySem.boot_len (pa_cons (pv 0) pa_nil)) pa_nil)) (pg_name (i := 1) sc__law_is_name.nd rfl (Or.inl rfl))
      (pss_one (ps_if (pt_cmpR op_in_sign (pe_ix ix_str (pv 0) (pv 1) (fun _ _ => rfl)) pe_str (by rfl))
      (pss_one (ps_if (pt_cmpR op_eq (pv 1) pe_int (nomark _))
      (pss_one (ps_ret pe_bl))
      pss_nil))
      (pss_one (ps_if (pt_cmpR op_notIn_sign (pe_ix ix_str (pv 0) (pv 1) (fun _ _ => rfl)) pe_str (by rfl))
      (pss_one (ps_ret pe_bl))
      pss_nil)))))
    (pss_one (ps_ret pe_bl)))), ?_⟩
    walk_at "rd"
    refine ite2 (fun h0 => ?_) (fun h0 => ?_)
    · have e : z = Str.ofString "" := V.str.inj (of_decide_eq_true h0)
      have e2 : okName (tl z) = false := by
        rw [e]
        rfl
      rw [e2] at q
      exact q H (Same.refl H)
    · have hne : tl z ≠ [] := fun e => h0 (decide_eq_true (congrArg V.str (ext_tl (e.trans rfl))))
      walk_at "rd"
      refine ⟨hz2, ?_⟩
      walk_at "rd"
      refine ite2 (fun h1 => ?_) (fun h1 => ?_)
      · have h2 : (8 : Int) < z.length := of_decide_eq_true h1
        have e2 : okName (tl z) = false := by
          cases e : tl z with
          | nil => rfl
          | cons c l =>
            rw [e] at hlen
            show (decide ((c :: l).length ≤ 8) && _ && _) = false
            rw [decide_eq_false (by omega)]
            rfl
        rw [e2] at q
        exact q H (Same.refl H)
      · have h2 : ¬ (8 : Int) < z.length := fun c => h1 (decide_eq_true c)
        obtain ⟨c0, l0, e0⟩ : ∃ c l, tl z = c :: l := by
          cases e : tl z with
          | nil => exact absurd e hne
          | cons c l => exact ⟨c, l, rfl⟩
        have hok : okName (tl z) = (decide (c0 ∈ lett) && (tl z).all fun d => decide (d ∈ lett ++ digs)) := by
          rw [e0]
          rw [e0] at hlen
          show (decide ((c0 :: l0).length ≤ 8) && _ && _) = _
          rw [decide_eq_true (show (c0 :: l0).length ≤ 8 by omega)]
          rfl
        walk_at "rd"
        refine ⟨hz2, ?_⟩
        walk_at "rd"
        refine ⟨by omega, by omega, ?_⟩
        refine for_range (lo := 0) (n := ((z.length : Nat) : Int).toNat) (fun i σ H' => ∃ y : Option V, σ = [some (.str z), y] ∧ Same H H' ∧ ∀ j c, j < i → (tl z)[j]? = some c → c ∈ lett ∨ (c ∈ digs ∧ j ≠ 0)) ⟨none, rfl, Same.refl H, fun j c hj => absurd hj (Nat.not_lt_zero _)⟩ ?_ ?_
        · rintro i σ H2 hi ⟨y, rfl, hs, hall⟩
          have hil : i < (tl z).length := by omega
          have hci : (tl z)[i]? = some (tl z)[i] := List.getElem?_eq_getElem hil
          have hat : atI z.cps.toList ((0 : Int) + (i : Nat)) = some (tl z)[i] := by
            rw [Int.zero_add]
            exact atI_nat hci
          have hnext : ((tl z)[i] ∈ lett ∨ ((tl z)[i] ∈ digs ∧ i ≠ 0)) → ∀ j c, j < i + 1 → (tl z)[j]? = some c → c ∈ lett ∨ (c ∈ digs ∧ j ≠ 0) := fun hh j c hj hc => by
            rcases Nat.lt_succ_iff_lt_or_eq.mp hj with h | h
            · exact hall j c h hc
            · subst h
              rw [hci] at hc
              cases hc
              exact hh
          walk_at "rd"
          refine ⟨_, _, _, rfl, rfl, hz2, hat, ?_⟩
          walk_at "rd"
          refine ite2 (fun h3 => ?_) (fun h3 => ?_)
          · have h3' : (tl z)[i] ∈ digs := of_decide_eq_true h3
            walk_at "rd"
            refine ite2 (fun h4 => ?_) (fun h4 => ?_)
            · have h4' : i = 0 := by
                have := V.int.inj (of_decide_eq_true h4)
                omega
              have e2 : okName (tl z) = false := by
                rw [hok]
                have ec : c0 = (tl z)[i] := by
                  have z1 : (tl z)[i]? = some c0 := by rw [h4', e0]; rfl
                  rw [hci] at z1
                  exact (Option.some.inj z1).symm
                have hn : c0 ∉ lett := by
                  rw [ec]
                  exact (show ∀ d ∈ digs, d ∉ lett by decide) _ h3'
                rw [decide_eq_false hn]
                rfl
              rw [e2] at q
              exact q H2 hs
            · refine ⟨_, rfl, hs, hnext (.inr ⟨h3', fun e => h4 ?_⟩)⟩
              rw [e]
              rfl
          · walk_at "rd"
            refine ⟨_, _, _, rfl, rfl, hz2, hat, ?_⟩
            walk_at "rd"
            have h3' : (tl z)[i] ∉ digs := fun h => h3 (decide_eq_true h)
            refine ite2 (fun h4 => ?_) (fun h4 => ?_)
            · have h4' : (tl z)[i] ∉ lett := by
                intro h
                rw [show decide ((tl z)[i] ∈ (Str.ofString "abcdefghijklmnopqrstuvwxyz").cps.toList) = true from decide_eq_true h] at h4
                cases h4
              have e2 : okName (tl z) = false := by
                rw [hok, Bool.and_eq_false_iff]
                refine .inr (Bool.eq_false_iff.mpr fun h => ?_)
                have z1 := List.all_eq_true.mp h _ (List.getElem_mem hil)
                rcases List.mem_append.mp (of_decide_eq_true z1) with z2 | z2
                · exact h4' z2
                · exact h3' z2
              rw [e2] at q
              exact q H2 hs
            · refine ⟨_, rfl, hs, hnext (.inl ?_)⟩
              refine Decidable.byContradiction fun h => h4 ?_
              rw [show decide ((tl z)[i] ∈ (Str.ofString "abcdefghijklmnopqrstuvwxyz").cps.toList) = false from decide_eq_false h]
              rfl
        · rintro σ H2 ⟨y, rfl, hs, hall⟩
          have hall2 : ∀ j c, (tl z)[j]? = some c → c ∈ lett ∨ (c ∈ digs ∧ j ≠ 0) := fun j c hc => hall j c (by
            have := (List.getElem?_eq_some_iff.mp hc).1
            omega) hc
          have e2 : okName (tl z) = true := by
            rw [hok, Bool.and_eq_true]
            constructor
            · rcases hall2 0 c0 (by rw [e0]; rfl) with h | h
              · exact decide_eq_true h
              · exact absurd rfl h.2
            · refine List.all_eq_true.mpr fun d hd => decide_eq_true ?_
              obtain ⟨j, hj⟩ := List.mem_iff_getElem?.mp hd
              rcases hall2 j d hj with h | h
              · exact List.mem_append_left _ h
              · exact List.mem_append_right _ h.1
          rw [e2] at q
          exact q H2 hs

/-! ### a bool that is the expected one -/
def spIsBool : Sp := fun vs H Q _ => ∃ b c : Bool, vs = [.bl b, .bl c] ∧ Q (.bl (decide (b = c))) H
theorem ok_is_bool {f : Addr} {fd : FuncData} (F : Fun K "_law_is_bool" "_law_is_bool" s__law_is_bool f fd) (m_isinstance : mg "isinstance" = none) (m_bool : mg "bool" = none) : FnOk P w K mg base CX0 1 f fd ["_law_actual", "_law_expected"] spIsBool := by
  refine F.ok sc__law_is_bool (fun vs H Q E h => ?_) (fun cdv A outer s H vs Q E hr h => ?_)
  · obtain ⟨b, c, rfl, _⟩ := h
    rfl
  · obtain ⟨b, c, rfl, q⟩ := h
    refine ⟨_, (pss_one (ps_ret (pe_and (pe_callB (id := "isinstance") call_isi (by rfl) m_isinstance (by decide +kernel) (pa_cons (pv 0) (pa_cons (pe_bltn (v := .ty "bool") (by rfl) m_bool (by decide +kernel) rfl) pa_nil))) (pe_one (pe_cmpR op_eq (pv 0) (pv 1) (nomark _)))))), ?_⟩
    walk_at "rd"
    refine ⟨_, _, _, _, true, rfl, .ty "bool", .base (.bl b), kit_ty (by decide +kernel), ?_⟩
    walk_at "rd"
    have e : decide (V.bl b = V.bl c) = decide (b = c) := by
      cases b <;> cases c <;> rfl
    rw [e]
    exact q

/-! ### texts joined by dots -/
theorem okName_dot {l : List Nat} (h : 46 ∈ l) : okName l = false := by
  cases l with
  | nil => rfl
  | cons c l =>
    show (_ && List.all (c :: l) _) = false
    rw [Bool.and_eq_false_iff]
    refine .inr (Bool.eq_false_iff.mpr fun z => ?_)
    have z1 := of_decide_eq_true (List.all_eq_true.mp z 46 h)
    exact (show 46 ∉ lett ++ digs by decide) z1
theorem joinL_len (S : List Nat) : ∀ ps : List (List Nat), (joinL S ps).length ≤ (ps.map List.length).sum + ps.length * S.length
  | [] => Nat.zero_le _
  | [p] => by
    show p.length ≤ [p.length].sum + 1 * S.length
    simp
  | p :: q :: r => by
    have ih := joinL_len S (q :: r)
    show (p ++ (S ++ joinL S (q :: r))).length ≤ (p.length :: (q :: r).map List.length).sum + ((q :: r).length + 1) * S.length
    rw [List.length_append, List.length_append, List.sum_cons, Nat.add_mul]
    omega
theorem sum_le {ps : List Str} (h : ∀ p ∈ ps, p.length ≤ 9) : (ps.map (·.length)).sum ≤ 9 * ps.length := by
  induction ps with
  | nil => exact Nat.le_refl _
  | cons p ps ih =>
    have h1 := h p List.mem_cons_self
    have h2 := ih fun x hx => h x (List.mem_cons_of_mem _ hx)
    rw [List.map_cons, List.sum_cons, List.length_cons]
    omega
theorem tl_dot : tl (Str.ofString ".") = [46] := by decide +kernel
theorem tl_txt (ps : List Str) : tl (Txt.join "." ps) = joinL [46] (ps.map tl) := by
  rw [join_eq, tl_join, tl_dot]
theorem txt_len {ps : List Str} (h : ∀ p ∈ ps, p.length ≤ 9) : (Txt.join "." ps).length ≤ 10 * ps.length := by
  rw [len_tl, tl_txt]
  have a := joinL_len [46] (ps.map tl)
  have b := sum_le h
  have e : ((ps.map tl).map List.length) = ps.map (·.length) := by
    rw [List.map_map]
    exact List.map_congr_left fun p _ => (len_tl p).symm
  rw [e, List.length_map] at a
  simp only [List.length_singleton, Nat.mul_one] at a
  omega
theorem okName_txt {ps : List Str} (hne : ps ≠ []) : okName (tl (Txt.join "." ps)) = (ps.all (fun p => okName (tl p)) && decide (ps.length = 1)) := by
  rw [tl_txt]
  match ps, hne with
  | [p], _ =>
    show okName (tl p) = (okName (tl p) && true && true)
    rw [Bool.and_true, Bool.and_true]
  | p :: q :: r, _ =>
    have e : okName (joinL [46] ((p :: q :: r).map tl)) = false := okName_dot (by
      show 46 ∈ tl p ++ ([46] ++ joinL [46] ((q :: r).map tl))
      simp)
    rw [e]
    show false = (_ && decide (r.length + 1 + 1 = 1))
    rw [decide_eq_false (by omega), Bool.and_false]
theorem split_txt {ps : List Str} (hne : ps ≠ []) (h : ∀ p ∈ ps, 46 ∉ tl p) : Txt.split (Txt.join "." ps) "." = ps := split_join (s := 46) (S := []) tl_dot (by decide +kernel) hne h
def spRight : Sp := fun vs H Q _ => ∃ a : Addr, vs = [.ref a] ∧ Src H a ∧ ∀ H', SameBut a H H' → Src H' a → Q (.bl true) H'
theorem but_at {a o : Addr} {H H1 : Hp} {u : HO} (h : H o = none) (s : SameBut a H H1) : SameBut a H (upd H1 o u) := fun b x n e => by
  rw [upd_ne (ne_of_none e h)]
  exact s b x n e
theorem but_same {a : Addr} {H H1 H2 : Hp} (s : SameBut a H H1) (t : Same H1 H2) : SameBut a H H2 := fun b x n e => t b x (s b x n e)
theorem src_same {a : Addr} {H1 H2 : Hp} (s : Src H1 a) (t : Same H1 H2) : Src H2 a := by
  obtain ⟨n, c, h⟩ := s
  exact ⟨n, c, t _ _ h⟩
theorem src_ne {a o : Addr} {H : Hp} (s : Src H a) (h : H o = none) : a ≠ o := by
  obtain ⟨n, c, z⟩ := s
  exact ne_of_none z h
theorem but_free {a o : Addr} {H H1 : Hp} (s : SameBut a H H1) (n : o ≠ a) (h : H1 o = none) : H o = none := by
  cases e : H o with
  | none => rfl
  | some x =>
    rw [s o x n e] at h
    cases h
theorem src_upd {a o : Addr} {H : Hp} {u : HO} (s : Src H a) (n : a ≠ o) : Src (upd H o u) a := by
  obtain ⟨x, c, h⟩ := s
  exact ⟨x, c, by rw [upd_ne n]; exact h⟩
theorem ok_right {f : Addr} {fd : FuncData} (F : Fun K "_law_names_right" "_law_names_right" s__law_names_right f fd) (m_len : mg "len" = none) (m_range : mg "range" = none)
    (C__law_draw : Cal P w K mg base "_law_draw" 1 ["_law_source_here", "_law_limit"] spDraw) (C__law_piece : Cal P w K mg base "_law_piece" 2 ["_law_source_here"] spPiece) (C__law_is_name : Cal P w K mg base "_law_is_name" 1 ["_law_text"] spIsName)
    (C__law_is_bool : Cal P w K mg base "_law_is_bool" 1 ["_law_actual", "_law_expected"] spIsBool) (C_is_name : Cal P w K mg base "is_name" 1 ["text"] spIsName) (C_is_full_name : Cal P w K mg base "is_full_name" 2 ["text"] spFull) :
    FnOk P w K mg base CX0 3 f fd ["_law_source_here"] spRight := by
  refine F.ok sc__law_names_right (fun vs H Q E h => ?_) (fun cdv A outer s H vs Q E hr h => ?_)
  · obtain ⟨a, rfl, _⟩ := h
    rfl
  · obtain ⟨a, rfl, hA, q⟩ := h
    refine ⟨_, (pss_cons (ps_set (i := 1) sc__law_names_right.nd rfl (Or.inl rfl) (pe_lst pa_nil))
    (pss_cons (ps_for PassesOwn.never rfl (pi_range1 (by rfl) m_range (pa_cons (pe_op op_add pe_int (pe_cal C__law_draw (hr.mono (by decide)) (pa_cons (pv 0) (pa_cons pe_int pa_nil)))) pa_nil)) (pg_name (i := 2) sc__law_names_right.nd rfl (Or.inl rfl))
      (pss_one (ps_expr (pe_bm PySem.F.plainAttrs_list PySem.F.slot_list_append PySem.F.type_list_append mt_append (pv 1) (pa_cons (pe_cal C__law_piece (hr.mono (by decide)) (pa_cons (pv 0) pa_nil)) pa_nil)))))
    (pss_cons (ps_set (i := 3) sc__law_names_right.nd rfl (Or.inl rfl) (pe_join pe_str (pv 1)))
    (pss_cons (ps_set (i := 4) sc__law_names_right.nd rfl (Or.inl rfl) pe_bl)
    (pss_cons (ps_for PassesOwn.never rfl (pi_list (pv 1)) (pg_name (i := 5) sc__law_names_right.nd rfl (Or.inl rfl))
      (pss_one (ps_if (pt_not (pt_val (pe_cal C__law_is_name (hr.mono (by decide)) (pa_cons (pv 5) pa_nil))))
      (pss_one (ps_set (i := 4) sc__law_names_right.nd rfl (Or.inl rfl) pe_bl))
      pss_nil)))
    (pss_cons (ps_set (i := 6) sc__law_names_right.nd rfl (Or.inl rfl) (pe_and (pv 4) (pe_one (pe_cmpR op_eq (pe_callB call_len_seq (by rfl) m_len PySem.boot_len (pa_cons (pv 1) pa_nil)) pe_int (nomark _)))))
    (pss_one (ps_ret (pe_and (pe_cal C__law_is_bool (hr.mono (by decide)) (pa_cons (pe_cal C_is_name (hr.mono (by decide)) (pa_cons (pv 3) pa_nil)) (pa_cons (pv 6) pa_nil))) (pe_one (pe_cal C__law_is_bool (hr.mono (by decide)) (pa_cons (pe_cal C_is_full_name (hr.mono (by decide)) (pa_cons (pv 3) pa_nil)) (pa_cons (pv 4) pa_nil))))))))))))), ?_⟩
    refine ⟨Nat.zero_le _, fun o no => ?_⟩
    have nao : a ≠ o := src_ne hA no
    walk_at "rd"
    refine draw_of (lim := 4) (src_upd hA nao) (by decide) fun r H1 h0 h1 b1 A1 => ?_
    walk_at "rd"
    refine ⟨by omega, by omega, ?_⟩
    have hH1o : H1 o = some (.lst (([] : List Str).map V.str)) := b1 o _ nao.symm upd_same
    have hb1 : SameBut a H H1 := fun b x n e => b1 b x n (by rw [upd_ne (ne_of_none e no)]; exact e)
    refine for_range (lo := 0) (n := (1 + r).toNat) (fun i σ H' => ∃ (ps : List Str) (y2 y3 y4 y5 y6 : Option V), σ = [some (.ref a), some (.ref o), y2, y3, y4, y5, y6] ∧ ps.length = i ∧ (∀ p ∈ ps, p.length ≤ 9 ∧ 46 ∉ tl p) ∧ H' o = some (.lst (ps.map V.str)) ∧ SameBut a H H' ∧ Src H' a)
      ⟨[], none, none, none, none, none, rfl, rfl, (fun p hp => by cases hp), hH1o, hb1, A1⟩ ?_ ?_
    · rintro i σ H2 hi ⟨ps, y2, y3, y4, y5, y6, rfl, hl, hp, ho, b2, A2⟩
      walk_at "rd"
      refine ⟨.inl ⟨rfl, _, sq ho⟩, ?_⟩
      walk_at "rd"
      refine ⟨A2, fun z H3 hz hd b3 A3 => ?_⟩
      have ho3 := b3 o _ nao.symm ho
      refine ⟨_, _, _, rfl, rfl, ho3, ?_, ?_⟩
      · rw [List.length_map]
        exact szl (by omega)
      · refine ⟨ps ++ [z], _, y3, y4, y5, y6, rfl, ?_, ?_, ?_, but_at no (b2.trans b3), src_upd A3 nao⟩
        · rw [List.length_append, hl]
          rfl
        · intro p hp'
          rcases List.mem_append.mp hp' with h | h
          · exact hp p h
          · rw [List.mem_singleton.mp h]
            exact ⟨hz, hd⟩
        · rw [upd_same, List.map_append]
          rfl
    · rintro σ H2 ⟨ps, y2, y3, y4, y5, y6, rfl, hl, hp, ho, b2, A2⟩
      have hne : ps ≠ [] := fun e => by
        rw [e] at hl
        have : ([] : List Str).length = 0 := rfl
        omega
      have hl4 : ps.length ≤ 4 := by omega
      have hp9 : ∀ p ∈ ps, p.length ≤ 9 := fun p h => (hp p h).1
      have hpd : ∀ p ∈ ps, 46 ∉ tl p := fun p h => (hp p h).2
      have hs9 := sum_le hp9
      have ht := txt_len hp9
      walk_at "rd"
      refine ⟨_, _, _, rfl, rfl, .inl (sq ho), ?_, ?_⟩
      · rw [show (Str.ofString ".").length = 1 from rfl]
        omega
      walk_at "rd"
      refine ⟨⟨_, sq ho⟩, for_list (K := K) (a := o) (xs := ps.map V.str) (fun i σ H' => ∃ y5 y6 : Option V, σ = [some (.ref a), some (.ref o), y2, some (.str (Txt.join "." ps)), some (.bl ((ps.take i).all fun p => okName (tl p))), y5, y6] ∧ H' o = some (.lst (ps.map V.str)) ∧ SameBut a H H' ∧ Src H' a)
        ⟨y5, y6, rfl, ho, b2, A2⟩ (fun i σ H' _ ⟨_, _, _, h, _⟩ => sq h) ?_ ?_⟩
      · rintro i x σ H3 hi ⟨y5, y6, rfl, ho3, b3, A3⟩
        obtain ⟨y, hy, rfl⟩ : ∃ y, ps[i]? = some y ∧ x = .str y := by
          rw [List.getElem?_map] at hi
          cases e : ps[i]? with
          | none =>
            rw [e] at hi
            cases hi
          | some y =>
            rw [e] at hi
            exact ⟨y, rfl, (Option.some.inj hi).symm⟩
        have hall : (ps.take (i + 1)).all (fun p => okName (tl p)) = ((ps.take i).all (fun p => okName (tl p)) && okName (tl y)) := by
          rw [List.take_add_one, hy, List.all_append]
          show (_ && (okName (tl y) && true)) = _
          rw [Bool.and_true]
        have hy9 := hp9 y (List.mem_of_getElem? hy)
        walk_at "rd"
        refine ⟨by omega, fun H4 s4 => ?_⟩
        walk_at "rd"
        refine ite2 (fun hb => ?_) (fun hb => ?_)
        · refine ⟨some (.str y), y6, ?_, s4 _ _ ho3, but_same b3 s4, src_same A3 s4⟩
          have hb' : okName (tl y) = false := by
            cases e : okName (tl y) with
            | false => rfl
            | true =>
              rw [e] at hb
              cases hb
          rw [hall, hb', Bool.and_false]
          rfl
        · refine ⟨some (.str y), y6, ?_, s4 _ _ ho3, but_same b3 s4, src_same A3 s4⟩
          have hb' : okName (tl y) = true := by
            cases e : okName (tl y) with
            | true => rfl
            | false =>
              rw [e] at hb
              exact absurd rfl hb
          rw [hall, hb', Bool.and_true]
          rfl
      · rintro σ H3 ⟨y5, y6, rfl, ho3, b3, A3⟩
        rw [List.length_map, List.take_length]
        have hname := okName_txt hne
        have hsplit := split_txt hne hpd
        have hlen1 : decide (V.int ((ps.map V.str).length : Nat) = V.int 1) = decide (ps.length = 1) := by
          rw [List.length_map]
          by_cases h : ps.length = 1
          · rw [h]
            rfl
          · rw [decide_eq_false h, decide_eq_false (fun e => h (by
              have := V.int.inj e
              omega))]
        generalize hfl : ps.all (fun p => okName (tl p)) = fl at hname ⊢
        have tail : ∀ (y6 : Bool) (H4 : Hp), y6 = (fl && decide (ps.length = 1)) → Same H3 H4 →
            tRet (tAndV (tCal spIsBool (tCons (tCal spIsName (tCons (tVar 3) tNil)) (tCons (tVar 6) tNil))) (tCal spIsBool (tCons (tCal spFull (tCons (tVar 3) tNil)) (tCons (tVar 4) tNil))))
              { nx := fun _ H' => Q .non H', rt := Q } [some (.ref a), some (.ref o), y2, some (.str (Txt.join "." ps)), some (.bl fl), y5, some (.bl y6)] H4 := by
          rintro y6 H4 e6 s4
          walk_at "rd"
          refine ⟨by omega, fun H5 s5 => ?_⟩
          walk_at "rd"
          refine ⟨_, _, rfl, ?_⟩
          walk_at "rd"
          refine ite2 (fun _ => ?_) (fun h => absurd (decide_eq_true (hname.trans e6.symm)) h)
          walk_at "rd"
          refine ⟨by omega, (by rw [hsplit]; exact fun p hp => Nat.le_trans (hp9 p hp) (by decide)), (by rw [hsplit]; omega), fun H6 s6 => ?_⟩
          rw [hsplit, hfl]
          walk_at "rd"
          refine ⟨_, _, rfl, ?_⟩
          rw [decide_eq_true rfl]
          exact q H6 (but_same b3 ((s4.trans s5).trans s6)) (src_same A3 ((s4.trans s5).trans s6))
        walk_at "rd"
        cases fl with
        | true =>
          refine iteT ?_
          refine ⟨_, rfl, _, _, rfl, .inl (sq ho3), ?_⟩
          refine ⟨rfl, ?_⟩
          rw [hlen1]
          exact tail _ H3 rfl (Same.refl H3)
        | false =>
          refine iteF ?_
          exact tail _ H3 rfl (Same.refl H3)

/-! ### lists of names -/
theorem strOk_of {x : Str} (h : ∀ c ∈ tl x, c < 0x110000) : PyData.strOk x = true := by
  unfold PyData.strOk
  rw [Array.all_eq_true']
  intro c hc
  exact decide_eq_true (h c (by simpa using hc))
theorem ok_sign {L : Str} {c : Nat} (h : (tl L).all (fun d => decide (d < 0x110000)) = true) (hc : c ∈ tl L) : ∀ d ∈ tl (⟨#[c]⟩ : Str), d < 0x110000 := fun d hd => by
  have e : d = c := by simpa using hd
  rw [e]
  exact of_decide_eq_true (List.all_eq_true.mp h c hc)
/-- the lists L stand beside a and o -/
def Lists (H : Hp) (a o : Addr) (L : List (Addr × List Str)) : Prop := ∀ q ∈ L, q.1 ≠ a ∧ q.1 ≠ o ∧ H q.1 = some (.lst (q.2.map V.str)) ∧ q.2.length ≤ 5 ∧ ∀ y ∈ q.2, PyData.strOk y = true
def spLists : Sp := fun vs H Q _ => ∃ a : Addr, vs = [.ref a] ∧ Src H a ∧ ∀ p L H', L.length ≤ 4 → H p = none → H' p = some (.lst (L.map fun q => V.ref q.1)) → Lists H' a p L → SameBut a H H' → Q (.ref p) H'
theorem ok_lists {f : Addr} {fd : FuncData} (F : Fun K "_law_lists" "_law_lists" s__law_lists f fd) (m_range : mg "range" = none) (C__law_draw : Cal P w K mg base "_law_draw" 1 ["_law_source_here", "_law_limit"] spDraw) : FnOk P w K mg base CX0 2 f fd ["_law_source_here"] spLists := by
  refine F.ok sc__law_lists (fun vs H Q E h => ?_) (fun cdv A outer s H vs Q E hr h => ?_)
  · obtain ⟨a, rfl, _⟩ := h
    rfl
  · obtain ⟨a, rfl, hA, q⟩ := h
    refine ⟨_, (pss_cons (ps_set (i := 1) sc__law_lists.nd rfl (Or.inl rfl) (pe_lst pa_nil))
    (pss_cons (ps_for PassesOwn.never rfl (pi_range1 (by rfl) m_range (pa_cons (pe_cal C__law_draw (hr.mono (by decide)) (pa_cons (pv 0) (pa_cons pe_int pa_nil))) pa_nil)) (pg_name (i := 2) sc__law_lists.nd rfl (Or.inl rfl))
      (pss_cons (ps_set (i := 3) sc__law_lists.nd rfl (Or.inl rfl) (pe_lst pa_nil))
    (pss_cons (ps_for PassesOwn.never rfl (pi_range1 (by rfl) m_range (pa_cons (pe_cal C__law_draw (hr.mono (by decide)) (pa_cons (pv 0) (pa_cons pe_int pa_nil))) pa_nil)) (pg_name (i := 4) sc__law_lists.nd rfl (Or.inl rfl))
      (pss_cons (ps_set (i := 5) sc__law_lists.nd rfl (Or.inl rfl) (pe_ix ix_str pe_str (pe_cal C__law_draw (hr.mono (by decide)) (pa_cons (pv 0) (pa_cons pe_int pa_nil))) (fun _ _ => rfl)))
    (pss_cons (ps_if (pt_cmpR op_eq (pe_cal C__law_draw (hr.mono (by decide)) (pa_cons (pv 0) (pa_cons pe_int pa_nil))) pe_int (nomark _))
      (pss_one (ps_set (i := 5) sc__law_lists.nd rfl (Or.inl rfl) (pe_op op_add_str (pv 5) (pe_ix ix_str pe_str (pe_cal C__law_draw (hr.mono (by decide)) (pa_cons (pv 0) (pa_cons pe_int pa_nil))) (fun _ _ => rfl)))))
      pss_nil)
    (pss_one (ps_expr (pe_bm PySem.F.plainAttrs_list PySem.F.slot_list_append PySem.F.type_list_append mt_append (pv 3) (pa_cons (pv 5) pa_nil)))))))
    (pss_one (ps_expr (pe_bm PySem.F.plainAttrs_list PySem.F.slot_list_append PySem.F.type_list_append mt_append (pv 1) (pa_cons (pv 3) pa_nil)))))))
    (pss_one (ps_ret (pv 1))))), ?_⟩
    refine ⟨Nat.zero_le _, fun o no => ?_⟩
    have nao : a ≠ o := src_ne hA no
    walk_at "rd"
    refine draw_of (lim := 5) (src_upd hA nao) (by decide) fun r H1 h0 h1 b1 A1 => ?_
    walk_at "rd"
    refine ⟨by omega, by omega, ?_⟩
    have hH1o : H1 o = some (.lst (([] : List (Addr × List Str)).map fun q => V.ref q.1)) := b1 o _ nao.symm upd_same
    have hb1 : SameBut a H H1 := fun b x n e => b1 b x n (by rw [upd_ne (ne_of_none e no)]; exact e)
    refine for_range (lo := 0) (n := r.toNat) (fun i σ H' => ∃ (L : List (Addr × List Str)) (y2 y3 y4 y5 : Option V), σ = [some (.ref a), some (.ref o), y2, y3, y4, y5] ∧ L.length = i ∧ H' o = some (.lst (L.map fun q => V.ref q.1)) ∧ Lists H' a o L ∧ SameBut a H H' ∧ Src H' a)
      ⟨[], none, none, none, none, rfl, rfl, hH1o, (fun q hq => by cases hq), hb1, A1⟩ ?_ ?_
    · rintro i σ H2 hi ⟨L, y2, y3, y4, y5, rfl, hl, ho, hL, b2, A2⟩
      walk_at "rd"
      refine ⟨Nat.zero_le _, fun n nn => ?_⟩
      have nan : a ≠ n := src_ne A2 nn
      have non : o ≠ n := ne_of_none ho nn
      walk_at "rd"
      refine draw_of (lim := 6) (src_upd A2 nan) (by decide) fun r2 H3 h2 h3 b3 A3 => ?_
      walk_at "rd"
      refine ⟨by omega, by omega, ?_⟩
      have hn3 : H3 n = some (.lst (([] : List Str).map V.str)) := b3 n _ nan.symm upd_same
      have hb3 : SameBut a H2 H3 := fun b x m e => b3 b x m (by rw [upd_ne (ne_of_none e nn)]; exact e)
      refine for_range (lo := 0) (n := r2.toNat) (fun j σ H' => ∃ (ns : List Str) (y4 y5 : Option V), σ = [some (.ref a), some (.ref o), some (.int (0 + (i : Nat))), some (.ref n), y4, y5] ∧ ns.length = j ∧ (∀ y ∈ ns, PyData.strOk y = true) ∧ H' n = some (.lst (ns.map V.str)) ∧ SameBut a H2 H' ∧ Src H' a)
        ⟨[], y4, y5, rfl, rfl, (fun y hy => by cases hy), hn3, hb3, A3⟩ ?_ ?_
      · rintro j σ H4 hj ⟨ns, y4, y5, rfl, hnl, hok, hn4, b4, A4⟩
        have app : ∀ (z : Str) (H5 : Hp) (y4 : Option V), (∀ c ∈ tl z, c < 0x110000) → SameBut a H4 H5 → Src H5 a →
            tDrop (tBM K "list" rAppend (tVar 3) (tCons (tVar 5) tNil)) { nx := fun σ H' => ∃ (ns : List Str) (y4 y5 : Option V), σ = [some (.ref a), some (.ref o), some (.int (0 + (i : Nat))), some (.ref n), y4, y5] ∧ ns.length = j + 1 ∧ (∀ y ∈ ns, PyData.strOk y = true) ∧ H' n = some (.lst (ns.map V.str)) ∧ SameBut a H2 H' ∧ Src H' a, rt := Q }
              [some (.ref a), some (.ref o), some (.int (0 + (i : Nat))), some (.ref n), y4, some (.str z)] H5 := by
          intro z H5 y4 hz b5 A5
          have hn5 := b5 n _ nan.symm hn4
          walk_at "rd"
          refine ⟨.inl ⟨rfl, _, sq hn5⟩, ?_⟩
          walk_at "rd"
          refine ⟨_, _, _, rfl, rfl, hn5, ?_, ?_⟩
          · rw [List.length_map]
            exact szl (by omega)
          · refine ⟨ns ++ [z], y4, _, rfl, ?_, ?_, ?_, but_at nn (b4.trans b5), src_upd A5 nan⟩
            · rw [List.length_append, hnl]
              rfl
            · intro y hy
              rcases List.mem_append.mp hy with h | h
              · exact hok y h
              · rw [List.mem_singleton.mp h]
                exact strOk_of hz
            · rw [upd_same, List.map_append]
              rfl
        walk_at "rd"
        refine draw_of (lim := 6) A4 (by decide) fun r5 H5 h5 h5' b5 A5 => ?_
        obtain ⟨c, hc, hm⟩ := pick (L := "abcxyz") h5 h5'
        have hcok := ok_sign (by decide +kernel) hm
        refine ⟨_, _, _, rfl, rfl, (by decide), hc, ?_⟩
        walk_at "rd"
        refine draw_of (lim := 3) A5 (by decide) fun r6 H6 h6 h6' b6 A6 => ?_
        walk_at "rd"
        refine ite2 (fun _ => ?_) (fun _ => ?_)
        · walk_at "rd"
          refine draw_of (lim := 3) A6 (by decide) fun r7 H7 h7 h7' b7 A7 => ?_
          obtain ⟨c2, hc2, hm2⟩ := pick (L := "0b9") h7 h7'
          have hcok2 := ok_sign (by decide +kernel) hm2
          refine ⟨_, _, _, rfl, rfl, (by decide), hc2, ?_⟩
          walk_at "rd"
          refine ⟨sz (by show 1 + 1 ≤ 100000; decide), ?_⟩
          exact app _ H7 _ (fun d hd => by rw [tl_append] at hd; exact (List.mem_append.mp hd).elim (hcok d) (hcok2 d)) ((b5.trans b6).trans b7) A7
        · exact app _ H6 _ hcok (b5.trans b6) A6
      · rintro σ H4 ⟨ns, y4, y5, rfl, hnl, hok, hn4, b4, A4⟩
        have ho4 := b4 o _ nao.symm ho
        walk_at "rd"
        refine ⟨.inl ⟨rfl, _, sq ho4⟩, ?_⟩
        walk_at "rd"
        refine ⟨_, _, _, rfl, rfl, ho4, ?_, ?_⟩
        · rw [List.length_map]
          exact szl (by omega)
        · refine ⟨L ++ [(n, ns)], _, _, _, _, rfl, ?_, ?_, ?_, but_at no (b2.trans b4), src_upd A4 nao⟩
          · rw [List.length_append, hl]
            rfl
          · rw [upd_same, List.map_append]
            rfl
          · intro x hx
            rcases List.mem_append.mp hx with h | h
            · obtain ⟨z1, z2, z3, z4⟩ := hL x h
              exact ⟨z1, z2, by rw [upd_ne z2]; exact b4 _ _ z1 z3, z4⟩
            · rw [List.mem_singleton.mp h]
              exact ⟨nan.symm, non.symm, by rw [upd_ne non.symm]; exact hn4, (by show ns.length ≤ 5; omega), hok⟩
    · rintro σ H2 ⟨L, y2, y3, y4, y5, rfl, hl, ho, hL, b2, A2⟩
      walk_at "rd"
      exact q o L H2 (by omega) no ho hL b2

/-! ### merged -/
theorem flat_len5 : ∀ (L : List (Addr × List Str)), (∀ q ∈ L, q.2.length ≤ 5) → (L.map fun q => q.2).flatten.length ≤ 5 * L.length
  | [], _ => Nat.le_refl _
  | q :: L, h => by
    have h1 := h q List.mem_cons_self
    have h2 := flat_len5 L fun x hx => h x (List.mem_cons_of_mem _ hx)
    rw [List.map_cons, List.flatten_cons, List.length_append, List.length_cons]
    omega
def spMerged (K : PySem.W.Frag) : Sp := fun vs H Q _ => ∃ (p0 p1 : Addr) (L : List (Addr × List Str)), vs = [.ref p0, .ref p1] ∧ SqL K H p1 (L.map fun q => V.ref q.1) ∧ (∀ q ∈ L, SqL K H q.1 (q.2.map V.str) ∧ q.2.length ≤ 5) ∧ L.length ≤ 4 ∧
  ∀ r H' ys, Same H H' → H r = none → H' r = some (.tup (ys.map V.str)) → sortedS ys = true → ys.Nodup → (∀ x, x ∈ ys ↔ x ∈ (L.map fun q => q.2).flatten) → Q (.ref r) H'
theorem lenIte {n : Nat} {m : Int} {A B : Prop} (h1 : (n : Int) = m → A) (h2 : (n : Int) ≠ m → B) : if decide (V.int (n : Int) = V.int m) = true then A else B :=
  ite2 (fun h => h1 (V.int.inj (of_decide_eq_true h))) fun h => h2 fun e => h (decide_eq_true (congrArg V.int e))
theorem ok_merged {f : Addr} {fd : FuncData} (F : Fun K "_law_merged" "_law_merged" s__law_merged f fd) (m_len : mg "len" = none) (m_tuple : mg "tuple" = none) (C_merge_names : CalR P w K mg base "merge_names" 1 (spMerge K)) : FnOk P w K mg base CX0 2 f fd ["_law_lists_here", "_law_passed"] (spMerged K) := by
  refine F.ok sc__law_merged (fun vs H Q E h => ?_) (fun cdv A outer s H vs Q E hr h => ?_)
  · obtain ⟨p0, p1, L, rfl, _⟩ := h
    rfl
  · obtain ⟨p0, p1, L, rfl, hp, hL, hl, q⟩ := h
    refine ⟨_, (pss_cons (ps_if (pt_cmpR op_eq (pe_callB call_len_seq (by rfl) m_len PySem.boot_len (pa_cons (pv 1) pa_nil)) pe_int (nomark _))
      (pss_one (ps_ret (pe_calR0 C_merge_names (hr.mono (by decide)))))
      pss_nil)
    (pss_cons (ps_if (pt_cmpR op_eq (pe_callB call_len_seq (by rfl) m_len PySem.boot_len (pa_cons (pv 1) pa_nil)) pe_int (nomark _))
      (pss_one (ps_ret (pe_calR C_merge_names (hr.mono (by decide)) (pa_cons (pe_ix ix_list (pv 1) pe_int (fun _ _ => rfl)) pa_nil))))
      pss_nil)
    (pss_cons (ps_if (pt_cmpR op_eq (pe_callB call_len_seq (by rfl) m_len PySem.boot_len (pa_cons (pv 1) pa_nil)) pe_int (nomark _))
      (pss_one (ps_ret (pe_calR C_merge_names (hr.mono (by decide)) (pa_cons (pe_ix ix_list (pv 1) pe_int (fun _ _ => rfl)) (pa_cons (pe_callTy (T := "tuple") call_tuple_of (by rfl) m_tuple (by decide +kernel) (pa_cons (pe_ix ix_list (pv 1) pe_int (fun _ _ => rfl)) pa_nil)) pa_nil)))))
      pss_nil)
    (pss_cons (ps_if (pt_cmpR op_eq (pe_callB call_len_seq (by rfl) m_len PySem.boot_len (pa_cons (pv 1) pa_nil)) pe_int (nomark _))
      (pss_one (ps_ret (pe_calR C_merge_names (hr.mono (by decide)) (pa_cons (pe_ix ix_list (pv 1) pe_int (fun _ _ => rfl)) (pa_cons (pe_ix ix_list (pv 1) pe_int (fun _ _ => rfl)) (pa_cons (pe_ix ix_list (pv 1) pe_int (fun _ _ => rfl)) pa_nil))))))
      pss_nil)
    (pss_one (ps_ret (pe_calR C_merge_names (hr.mono (by decide)) (pa_cons (pe_callTy (T := "tuple") call_tuple_of (by rfl) m_tuple (by decide +kernel) (pa_cons (pe_ix ix_list (pv 1) pe_int (fun _ _ => rfl)) pa_nil)) (pa_cons (pe_ix ix_list (pv 1) pe_int (fun _ _ => rfl)) (pa_cons (pe_ix ix_list (pv 1) pe_int (fun _ _ => rfl)) (pa_cons (pe_ix ix_list (pv 1) pe_int (fun _ _ => rfl)) pa_nil))))))))))), ?_⟩
    have hll : (L.map fun q => V.ref q.1).length = L.length := List.length_map _
    walk_at "rd"
    refine ⟨_, _, rfl, .inl hp, ?_⟩
    walk_at "rd"
    rw [hll]
    refine lenIte (fun e => ?_) (fun e => ?_)
    · have e2 : L = [] := List.length_eq_zero_iff.mp (by omega)
      subst e2
      refine ⟨[], rfl, (fun q hq => by cases hq), by decide, by decide, q⟩
    · have fl : (L.map fun q => q.2).flatten.length ≤ 3000 := Nat.le_trans (flat_len5 L fun q hq => (hL q hq).2) (by omega)
      walk_at "rd"
      refine ⟨_, _, rfl, .inl hp, ?_⟩
      walk_at "rd"
      rw [hll]
      refine lenIte (fun e => ?_) (fun e => ?_)
      · obtain ⟨q1, rfl⟩ : ∃ (q1 : Addr × List Str), L = [q1] := by
          match L, e with
          | [q1], _ => exact ⟨q1, rfl⟩
        walk_at "rd"
        refine ⟨_, _, _, _, rfl, rfl, hp, atI_nat (j := 0) rfl, ?_⟩
        exact ⟨[q1], rfl, fun x hx => .inl (hL x hx).1, by simp, by omega, q⟩
      · walk_at "rd"
        refine ⟨_, _, rfl, .inl hp, ?_⟩
        walk_at "rd"
        rw [hll]
        refine lenIte (fun e => ?_) (fun e => ?_)
        · obtain ⟨q1, q2, rfl⟩ : ∃ (q1 : Addr × List Str) (q2 : Addr × List Str), L = [q1, q2] := by
            match L, e with
            | [q1, q2], _ => exact ⟨q1, q2, rfl⟩
          walk_at "rd"
          refine ⟨_, _, _, _, rfl, rfl, hp, atI_nat (j := 0) rfl, ?_⟩
          walk_at "rd"
          refine ⟨_, _, _, _, rfl, rfl, hp, atI_nat (j := 1) rfl, ?_⟩
          refine ⟨_, _, rfl, .inl ⟨(hL q2 (by simp)).1, fun t nt => ?_⟩⟩
          refine ⟨[q1, (t, q2.2)], rfl, ?_, by simp, fl, fun r H' ys s1 n1 => q r H' ys ((same_new nt).trans s1) ((same_new nt).free n1)⟩
          intro x hx
          rcases List.mem_cons.mp hx with h | h
          · rw [h]
            exact .inl ((same_new nt).seq (hL q1 (by simp)).1)
          · rw [List.mem_singleton.mp h]
            exact .inr (sqt upd_same)
        · walk_at "rd"
          refine ⟨_, _, rfl, .inl hp, ?_⟩
          walk_at "rd"
          rw [hll]
          refine lenIte (fun e => ?_) (fun e => ?_)
          · obtain ⟨q1, q2, q3, rfl⟩ : ∃ (q1 : Addr × List Str) (q2 : Addr × List Str) (q3 : Addr × List Str), L = [q1, q2, q3] := by
              match L, e with
              | [q1, q2, q3], _ => exact ⟨q1, q2, q3, rfl⟩
            walk_at "rd"
            refine ⟨_, _, _, _, rfl, rfl, hp, atI_nat (j := 0) rfl, ?_⟩
            walk_at "rd"
            refine ⟨_, _, _, _, rfl, rfl, hp, atI_nat (j := 1) rfl, ?_⟩
            walk_at "rd"
            refine ⟨_, _, _, _, rfl, rfl, hp, atI_nat (j := 2) rfl, ?_⟩
            exact ⟨[q1, q2, q3], rfl, fun x hx => .inl (hL x hx).1, by simp, by omega, q⟩
          · have e4 : L.length = 4 := by omega
            obtain ⟨q1, q2, q3, q4, rfl⟩ : ∃ (q1 : Addr × List Str) (q2 : Addr × List Str) (q3 : Addr × List Str) (q4 : Addr × List Str), L = [q1, q2, q3, q4] := by
              match L, e4 with
              | [q1, q2, q3, q4], _ => exact ⟨q1, q2, q3, q4, rfl⟩
            walk_at "rd"
            refine ⟨_, _, _, _, rfl, rfl, hp, atI_nat (j := 0) rfl, ?_⟩
            refine ⟨_, _, rfl, .inl ⟨(hL q1 (by simp)).1, fun t nt => ?_⟩⟩
            have hp' := (same_new nt (o := .tup (q1.2.map V.str))).seq hp
            walk_at "rd"
            refine ⟨_, _, _, _, rfl, rfl, hp', atI_nat (j := 1) rfl, ?_⟩
            walk_at "rd"
            refine ⟨_, _, _, _, rfl, rfl, hp', atI_nat (j := 2) rfl, ?_⟩
            walk_at "rd"
            refine ⟨_, _, _, _, rfl, rfl, hp', atI_nat (j := 3) rfl, ?_⟩
            refine ⟨[(t, q1.2), q2, q3, q4], rfl, ?_, by simp, fl, fun r H' ys s1 n1 => q r H' ys ((same_new nt).trans s1) ((same_new nt).free n1)⟩
            intro x hx
            rcases List.mem_cons.mp hx with h | h
            · rw [h]
              exact .inr (sqt upd_same)
            · exact .inl ((same_new nt).seq (hL x (List.mem_cons_of_mem _ h)).1)

end
end K00
namespace K00
local macro_rules | `(tactic| walk_at "rd") => `(tactic| repeat (first | refine ⟨rfl, ?_⟩ | refine ⟨_, rfl, ?_⟩ | refine ⟨_, _, rfl, rfl, ?_⟩ | refine ⟨⟨_, rfl⟩, ?_⟩))
open PySem PySem.Spec PyProof.Rows L2 Bx TL
section
variable {P : Program} {w : World} {K : PySem.W.Frag} {mg : Str → Option Value} {base : Heap}
/-! ### the law -/
def spLaw (K : PySem.W.Frag) : Sp := fun vs H Q _ => ∃ (a : Addr) (ns : List Int), vs = [.ref a] ∧ SqL K H a (ns.map V.int) ∧ ns.length ≤ 63 ∧ ∀ H', Q (.bl true) H'
theorem ok_law {f : Addr} {fd : FuncData} (F : Fun K "law" "law" s_law f fd) (m_len : mg "len" = none) (m_range : mg "range" = none) (m_list : mg "list" = none) (m_isinstance : mg "isinstance" = none) (m_tuple : mg "tuple" = none) (m_str : mg "str" = none)
    (C__law_source : Cal P w K mg base "_law_source" 1 ["_law_script", "_law_k"] (spSource K)) (C__law_names_right : Cal P w K mg base "_law_names_right" 3 ["_law_source_here"] spRight) (C__law_lists : Cal P w K mg base "_law_lists" 2 ["_law_source_here"] spLists)
    (C__law_merged : Cal P w K mg base "_law_merged" 2 ["_law_lists_here", "_law_passed"] (spMerged K)) : FnOk P w K mg base CX0 4 f fd ["_law_script"] (spLaw K) := by
  refine F.ok sc_law (fun vs H Q E h => ?_) (fun cdv A outer s H vs Q E hr h => ?_)
  · obtain ⟨a, ns, rfl, _⟩ := h
    rfl
  · obtain ⟨a, ns, rfl, hS, hlen, q⟩ := h
    refine ⟨_, (pss_cons (ps_set (i := 1) sc_law.nd rfl (Or.inl rfl) (pe_cal C__law_source (hr.mono (by decide)) (pa_cons (pv 0) (pa_cons pe_int pa_nil))))
    (pss_cons (ps_for PassesOwn.never rfl (pi_range1 (by rfl) m_range (pa_cons pe_int pa_nil)) (pg_name (i := 2) sc_law.nd rfl (Or.inl rfl))
      (pss_one (ps_if (pt_not (pt_val (pe_cal C__law_names_right (hr.mono (by decide)) (pa_cons (pv 1) pa_nil))))
      (pss_one (ps_ret pe_bl))
      pss_nil)))
    (pss_cons (ps_set (i := 3) sc_law.nd rfl (Or.inr rfl) (pe_cal C__law_lists (hr.mono (by decide)) (pa_cons (pe_cal C__law_source (hr.mono (by decide)) (pa_cons (pv 0) (pa_cons pe_int pa_nil))) pa_nil)))
    (pss_cons (ps_setLc (i := 4) (own := [("_law_names", 7)]) (tt := tYes) rfl sc_law.nd rfl rfl (sw_true rfl rfl rfl (by decide +kernel)) (pi_list (pv 3)) (blkOk_by (N := n_law) (sc := defScope s_law) (by decide +kernel)) (fun _ _ _ _ _ => pg_name (i := 7) sc_law.nd rfl (Or.inl rfl)) (fun _ _ _ _ _ => pts_nil) (fun _ _ _ _ _ => (pe_callTy (T := "list") (call_list_ofK (K := K) rfl) (by rfl) m_list (by decide +kernel) (pa_cons (pv 7) pa_nil))))
    (pss_cons (ps_set (i := 5) sc_law.nd rfl (Or.inl rfl) (pe_cal C__law_merged (hr.mono (by decide)) (pa_cons (pv 3) (pa_cons (pv 4) pa_nil))))
    (pss_cons (ps_if (PW.pt (pw_or (pt_cmpR (op_neD hr.units) (pv 4) (pv 3) (nomark _)) (pw_or1 (pt_not (pt_val (pe_callB (id := "isinstance") call_isi (by rfl) m_isinstance (by decide +kernel) (pa_cons (pv 5) (pa_cons (pe_bltn (v := .ty "tuple") (by rfl) m_tuple (by decide +kernel) rfl) pa_nil))))))))
      (pss_one (ps_ret pe_bl))
      pss_nil)
    (pss_cons (ps_for PassesOwn.never rfl (pi_tup (pv 5)) (pg_name (i := 6) sc_law.nd rfl (Or.inr rfl))
      (pss_one (ps_if (pt_not (pt_val (pe_callB (id := "isinstance") call_isi (by rfl) m_isinstance (by decide +kernel) (pa_cons (pv 6) (pa_cons (pe_bltn (v := .ty "str") (by rfl) m_str (by decide +kernel) rfl) pa_nil)))))
      (pss_one (ps_ret pe_bl))
      pss_nil)))
    (pss_cons (ps_for PassesOwn.never rfl (pi_range2 (by rfl) m_range (pa_cons pe_int (pa_cons (pe_callB call_len_seq (by rfl) m_len PySem.boot_len (pa_cons (pv 5) pa_nil)) pa_nil))) (pg_name (i := 2) sc_law.nd rfl (Or.inl rfl))
      (pss_one (ps_if (pt_cmpR op_ge_str (pe_ix ix_tup (pv 5) (pe_op op_sub (pv 2) pe_int) (fun _ _ => rfl)) (pe_ix ix_tup (pv 5) (pv 2) (fun _ _ => rfl)) (nomark _))
      (pss_one (ps_ret pe_bl))
      pss_nil)))
    (pss_cons (ps_for PassesOwn.never rfl (pi_list (pv 3)) (pg_name (i := 7) sc_law.nd rfl (Or.inl rfl))
      (pss_one (ps_for PassesOwn.never rfl (pi_list (pv 7)) (pg_name (i := 6) sc_law.nd rfl (Or.inr rfl))
      (pss_one (ps_if (pt_cmpR op_notIn_seq (pv 6) (pv 5) (by rfl))
      (pss_one (ps_ret pe_bl))
      pss_nil)))))
    (pss_cons (ps_for PassesOwn.never rfl (pi_tup (pv 5)) (pg_name (i := 6) sc_law.nd rfl (Or.inr rfl))
      (pss_one (ps_if (pt_cmpR op_eq (pe_callB call_len_seq (by rfl) m_len PySem.boot_len (pa_cons (pe_lc (own := [("_law_k", 2)]) rfl sc_law.nd (pi_range1 (by rfl) m_range (pa_cons (pe_callB call_len_seq (by rfl) m_len PySem.boot_len (pa_cons (pv 3) pa_nil)) pa_nil)) (blkOk_by (N := n_law) (sc := defScope s_law) (by decide +kernel)) (fun _ _ _ _ _ => pg_name (i := 2) sc_law.nd rfl (Or.inl rfl)) (fun _ _ _ _ _ => pts_one (pt_cmpR (op_in_seqK (K := K) rfl) (pv 6) (pe_ix (ix_listK (K := K) rfl) (pv 3) (pv 2) (fun _ _ => rfl)) (by rfl))) (fun _ _ _ _ _ => (pv 2))) pa_nil)) pe_int (nomark _))
      (pss_one (ps_ret pe_bl))
      pss_nil)))
    (pss_one (ps_ret pe_bl)))))))))))), ?_⟩
    -- the first source
    walk_at "rd"
    refine ⟨_, _, 0, rfl, hS, by decide, fun b n c nb => ?_⟩
    walk_at "rd"
    refine ⟨by decide, by decide, ?_⟩
    refine for_range (lo := 0) (n := 3) (fun i σ H' => ∃ y2 : Option V, σ = [some (.ref a), some (.ref b), y2, none, none, none, none, none] ∧ Same H H' ∧ Src H' b) ⟨none, rfl, same_new nb, ⟨n, c, upd_same⟩⟩ ?_ ?_
    · rintro i σ H2 hi ⟨y2, rfl, hs, hb⟩
      walk_at "rd"
      refine ⟨hb, fun H3 b3 A3 => ?_⟩
      walk_at "rd"
      exact ⟨fun x o e => b3 x o (fun h => by rw [h, nb] at e; cases e) (hs x o e), A3⟩
    · rintro σ H2 ⟨y2, rfl, hs2, hb2⟩
      -- the lists
      walk_at "rd"
      refine ⟨_, _, 1, rfl, hs2.seq hS, by decide, fun b2 n2 c2 nb2 => ?_⟩
      walk_at "rd"
      refine ⟨⟨n2, c2, upd_same⟩, fun p L H3 hl np hp hL b3 => ?_⟩
      have hs3 : Same H H3 := fun x o e => b3 x o (fun h => by
        have := hs2 x o e
        rw [h, nb2] at this
        cases this) (by
        have := hs2 x o e
        rw [upd_ne (ne_of_none this nb2)]
        exact this)
      have hL3 : ∀ q ∈ L, H3 q.1 = some (.lst (q.2.map V.str)) ∧ q.2.length ≤ 5 := fun q hq => ⟨(hL q hq).2.2.1, (hL q hq).2.2.2.1⟩
      have hL4 : ∀ q ∈ L, ∀ y ∈ q.2, PyData.strOk y = true := fun q hq => (hL q hq).2.2.2.2
      -- passed
      walk_at "rd"
      refine ⟨⟨_, sq hp⟩, fun D hD => ?_⟩
      have npD : p ≠ D := ne_of_none hp hD
      refine lc_list (K := K) (a := p) (xs := L.map fun q => V.ref q.1) (fun i H' => ∃ M : List (Addr × List Str), M.map (fun q => q.2) = (L.take i).map (fun q => q.2) ∧ H' D = some (.lst (M.map fun q => V.ref q.1)) ∧ (∀ q ∈ M, q.1 ≠ D ∧ H' q.1 = some (.lst (q.2.map V.str))) ∧ Same H3 H')
        ⟨[], rfl, upd_same, (fun q hq => by cases hq), same_new hD⟩ (fun i H' _ ⟨M, _, _, _, s⟩ => sq (s _ _ hp)) ?_ ?_
      · rintro i x H4 hi ⟨M, hM, hd, hq, hs4⟩
        obtain ⟨y, hy, rfl⟩ : ∃ y, L[i]? = some y ∧ x = .ref y.1 := by
          rw [List.getElem?_map] at hi
          cases e : L[i]? with
          | none =>
            rw [e] at hi
            cases hi
          | some y =>
            rw [e] at hi
            exact ⟨y, rfl, (Option.some.inj hi).symm⟩
        have hy3 := (hL3 y (List.mem_of_getElem? hy)).1
        refine ⟨rfl, ?_⟩
        walk_at "rd"
        refine ⟨_, _, rfl, .inl (sq (hs4 _ _ hy3)), fun l nl => ?_⟩
        have nDl : D ≠ l := ne_of_none hd nl
        have hMl : M.length ≤ 4 := by
          have e := congrArg List.length hM
          rw [List.length_map, List.length_map, List.length_take] at e
          omega
        refine ⟨_, by rw [upd_ne nDl]; exact hd, ?_, M ++ [(l, y.2)], ?_, ?_, ?_, ?_⟩
        · rw [List.length_map]
          exact szl (by omega)
        · rw [List.map_append, hM, List.take_add_one, hy, List.map_append]
          rfl
        · rw [upd_same, List.map_append]
          rfl
        · intro x hx
          rcases List.mem_append.mp hx with h | h
          · obtain ⟨z1, z2⟩ := hq x h
            exact ⟨z1, by rw [upd_ne z1, upd_ne (ne_of_none z2 nl)]; exact z2⟩
          · rw [List.mem_singleton.mp h]
            exact ⟨nDl.symm, by rw [upd_ne nDl.symm, upd_same]⟩
        · exact same_at hD (hs4.trans (same_new nl))
      · rintro H4 ⟨M, hM, hd, hq, hs4⟩
        rw [List.length_map, List.take_length] at hM
        have hMl : M.length ≤ 4 := by
          have e := congrArg List.length hM
          rw [List.length_map, List.length_map] at e
          omega
        have hM5 : ∀ q ∈ M, q.2.length ≤ 5 ∧ ∀ y ∈ q.2, PyData.strOk y = true := fun q hq' => by
          have z : q.2 ∈ M.map fun q => q.2 := List.mem_map.mpr ⟨q, hq', rfl⟩
          rw [hM] at z
          obtain ⟨u, hu, e⟩ := List.mem_map.mp z
          rw [← e]
          exact ⟨(hL3 u hu).2, hL4 u hu⟩
        walk_at "rd"
        refine ⟨p, D, M, rfl, sq hd, (fun x hx => ⟨sq (hq x hx).2, (hM5 x hx).1⟩), hMl, fun r H5 ys s5 nr hr5 hst nd hmem => ?_⟩
        -- passed != lists
        have hs35 : Same H3 H5 := hs4.trans s5
        have hD5 : H5 D = some (.lst (M.map fun q => V.ref q.1)) := s5 _ _ hd
        have hp5 : H5 p = some (.lst (L.map fun q => V.ref q.1)) := hs35 _ _ hp
        have dM : DpAll K H5 (M.map fun q => V.ref q.1) (M.map fun q => PyData.list (q.2.map PyData.str)) := dp_map fun x hx => .lst (sq (s5 _ _ (hq x hx).2)) (dp_strs _)
        have dL : DpAll K H5 (L.map fun q => V.ref q.1) (L.map fun q => PyData.list (q.2.map PyData.str)) := dp_map fun x hx => .lst (sq (hs35 _ _ (hL3 x hx).1)) (dp_strs _)
        have eML : (M.map fun q => PyData.list (q.2.map PyData.str)) = L.map fun q => PyData.list (q.2.map PyData.str) := by
          have e := congrArg (List.map fun ys => PyData.list (ys.map PyData.str)) hM
          rw [List.map_map, List.map_map] at e
          exact e
        obtain ⟨c1, c2⟩ := lay_lists (L.map fun q => q.2) (fun ys hys y hy => by
          obtain ⟨x, hx, rfl⟩ := List.mem_map.mp hys
          exact hL4 x hx y hy)
        rw [List.map_map] at c1 c2
        have hsh : SeqAt.shaped (.list (L.map fun q => PyData.list (q.2.map PyData.str))) = true := by
          unfold SeqAt.shaped
          rw [Bool.and_eq_true]
          exact ⟨c1, decide_eq_true (by
            show PyData.depthAll (L.map fun q => PyData.list (q.2.map PyData.str)) + 1 ≤ 64
            exact Nat.le_trans (Nat.succ_le_succ c2) (by decide))⟩
        rw [eML] at dM
        have ev : PyData.eqv (.list (L.map fun q : Addr × List Str => PyData.list (q.2.map PyData.str))) (.list (L.map fun q : Addr × List Str => PyData.list (q.2.map PyData.str))) = true := SeqAt.eqv_refl (.list (L.map fun q : Addr × List Str => PyData.list (q.2.map PyData.str))) c1
        walk_at "rd"
        refine ⟨_, _, .lst (sq hD5) dM, .lst (sq hp5) dL, hsh, hsh, ?_⟩
        rw [ev]
        walk_at "rd"
        refine ⟨_, _, _, _, true, rfl, .ty "tuple", .base (.tup hr5), kit_ty (by decide +kernel), ?_⟩
        walk_at "rd"
        -- each a text
        refine ⟨⟨_, sqt hr5⟩, for_tup (K := K) (a := r) (xs := ys.map V.str) (fun i σ H' => ∃ y6 : Option V, σ = [some (.ref a), some (.ref b), y2, some (.ref p), some (.ref D), some (.ref r), y6, none] ∧ H' = H5) ⟨none, rfl, rfl⟩ (fun i σ H' _ ⟨_, _, e⟩ => e ▸ sqt hr5) ?_ ?_⟩
        · rintro i x σ H6 hi ⟨y6, rfl, rfl⟩
          obtain ⟨y, hy, rfl⟩ : ∃ y, ys[i]? = some y ∧ x = .str y := by
            rw [List.getElem?_map] at hi
            cases e : ys[i]? with
            | none =>
              rw [e] at hi
              cases hi
            | some y =>
              rw [e] at hi
              exact ⟨y, rfl, (Option.some.inj hi).symm⟩
          walk_at "rd"
          refine ⟨_, _, _, _, true, rfl, .ty "str", .base (.str y), kit_ty (by decide +kernel), ?_⟩
          walk_at "rd"
          exact rfl
        · rintro σ H6 ⟨y6, rfl, rfl⟩
          -- ascending
          walk_at "rd"
          refine ⟨_, _, rfl, .inr (sqt hr5), ?_⟩
          have hyl : (ys.map V.str).length = ys.length := List.length_map _
          have hys20 : ys.length ≤ 2000 := by
            have e1 := flat_len5 M fun x hx => (hM5 x hx).1
            have e2 : ys.length ≤ (M.map fun q => q.2).flatten.length := nd.length_le_of_subset fun x hx => (hmem x).mp hx
            omega
          refine ⟨_, _, rfl, ⟨by decide, by decide, by omega, by omega⟩, for_range (lo := 1) (n := (((ys.map V.str).length : Nat) - 1 : Int).toNat) (fun i σ H' => ∃ y2 y6 : Option V, σ = [some (.ref a), some (.ref b), y2, some (.ref p), some (.ref D), some (.ref r), y6, none] ∧ H' = H6) ⟨y2, y6, rfl, rfl⟩ ?_ ?_⟩
          · rintro i σ H7 hi ⟨y2, y6, rfl, rfl⟩
            have i1 : i + 1 < ys.length := by omega
            have g1 : atI (ys.map V.str) (1 + (i : Int) - 1) = some (.str ys[i]) := by
              rw [show (1 + (i : Int) - 1) = ((i : Nat) : Int) by omega]
              exact atI_nat (by rw [List.getElem?_map, List.getElem?_eq_getElem (by omega)]; rfl)
            have g2 : atI (ys.map V.str) (1 + (i : Int)) = some (.str ys[i + 1]) := by
              rw [show (1 + (i : Int)) = ((i + 1 : Nat) : Int) by omega]
              exact atI_nat (by rw [List.getElem?_map, List.getElem?_eq_getElem i1]; rfl)
            have hlt := sorted_at hst nd (List.getElem?_eq_getElem (show i < ys.length by omega)) (List.getElem?_eq_getElem i1)
            walk_at "rd"
            refine ⟨_, _, _, _, rfl, rfl, sqt hr5, g1, ?_⟩
            walk_at "rd"
            refine ⟨_, _, _, _, rfl, rfl, sqt hr5, g2, ?_⟩
            walk_at "rd"
            rw [decide_eq_true hlt]
            exact ⟨_, y6, rfl, rfl⟩
          · rintro σ H7 ⟨y2, y6, rfl, rfl⟩
            -- every name is there
            walk_at "rd"
            refine ⟨⟨_, sq hp5⟩, for_list (K := K) (a := p) (xs := L.map fun q => V.ref q.1) (fun i σ H' => ∃ y6 y7 : Option V, σ = [some (.ref a), some (.ref b), y2, some (.ref p), some (.ref D), some (.ref r), y6, y7] ∧ H' = H7) ⟨y6, none, rfl, rfl⟩ (fun i σ H' _ ⟨_, _, _, e⟩ => e ▸ sq hp5) ?_ ?_⟩
            · rintro i x σ H8 hi ⟨y6, y7, rfl, rfl⟩
              obtain ⟨y, hy, rfl⟩ : ∃ y, L[i]? = some y ∧ x = .ref y.1 := by
                rw [List.getElem?_map] at hi
                cases e : L[i]? with
                | none =>
                  rw [e] at hi
                  cases hi
                | some y =>
                  rw [e] at hi
                  exact ⟨y, rfl, (Option.some.inj hi).symm⟩
              have hy5 := hs35 _ _ (hL3 y (List.mem_of_getElem? hy)).1
              walk_at "rd"
              refine ⟨⟨_, sq hy5⟩, for_list (K := K) (a := y.1) (xs := y.2.map V.str) (fun i σ H' => ∃ y6 : Option V, σ = [some (.ref a), some (.ref b), y2, some (.ref p), some (.ref D), some (.ref r), y6, some (.ref y.1)] ∧ H' = H8) ⟨y6, rfl, rfl⟩ (fun i σ H' _ ⟨_, _, e⟩ => e ▸ sq hy5) ?_ ?_⟩
              · rintro j x σ H9 hj ⟨y6, rfl, rfl⟩
                obtain ⟨u, hu, rfl⟩ : ∃ u, y.2[j]? = some u ∧ x = .str u := by
                  rw [List.getElem?_map] at hj
                  cases e : y.2[j]? with
                  | none =>
                    rw [e] at hj
                    cases hj
                  | some u =>
                    rw [e] at hj
                    exact ⟨u, rfl, (Option.some.inj hj).symm⟩
                have hin : u ∈ ys := (hmem u).mpr (by
                  rw [hM]
                  exact List.mem_flatten.mpr ⟨y.2, List.mem_map.mpr ⟨y, List.mem_of_getElem? hy, rfl⟩, List.mem_of_getElem? hu⟩)
                walk_at "rd"
                refine ⟨_, _, rfl, .inr (sqt hr5), rfl, flat_all ys, ?_⟩
                rw [inV_str, decide_eq_true hin]
                exact ⟨_, rfl, _, rfl, rfl⟩
              · rintro σ H9 ⟨y6, rfl, rfl⟩
                exact ⟨y6, _, rfl, rfl⟩
            · rintro σ H8 ⟨y6, y7, rfl, rfl⟩
              -- no name more
              walk_at "rd"
              refine ⟨⟨_, sqt hr5⟩, for_tup (K := K) (a := r) (xs := ys.map V.str) (fun i σ H' => ∃ y6 : Option V, σ = [some (.ref a), some (.ref b), y2, some (.ref p), some (.ref D), some (.ref r), y6, y7] ∧ Same H8 H') ⟨y6, rfl, Same.refl _⟩ (fun i σ H' _ ⟨_, _, e⟩ => Bx.Same.tup e (sqt hr5)) ?_ ?_⟩
              · rintro i x σ H9 hi ⟨y6, rfl, hs9⟩
                obtain ⟨u, hu, rfl⟩ : ∃ u, ys[i]? = some u ∧ x = .str u := by
                  rw [List.getElem?_map] at hi
                  cases e : ys[i]? with
                  | none =>
                    rw [e] at hi
                    cases hi
                  | some u =>
                    rw [e] at hi
                    exact ⟨u, rfl, (Option.some.inj hi).symm⟩
                have hp9 := hs9 _ _ hp5
                obtain ⟨j0, q0, hj0, hq0⟩ : ∃ (j : Nat) (q : Addr × List Str), L[j]? = some q ∧ u ∈ q.2 := by
                  have z := (hmem u).mp (List.mem_of_getElem? hu)
                  rw [hM] at z
                  obtain ⟨zs, h1, h2⟩ := List.mem_flatten.mp z
                  obtain ⟨q0, h3, rfl⟩ := List.mem_map.mp h1
                  obtain ⟨j, hj⟩ := List.mem_iff_getElem?.mp h3
                  exact ⟨j, q0, hj, h2⟩
                have hll : (L.map fun q => V.ref q.1).length = L.length := List.length_map _
                walk_at "rd"
                refine ⟨_, _, rfl, .inl (sq hp9), ?_⟩
                refine ⟨_, rfl, by omega, by omega, fun E hE => ?_⟩
                refine lc_range (lo := 0) (n := (((L.map fun q => V.ref q.1).length : Nat) : Int).toNat) (fun i H' => ∃ acc : List V, H' E = some (.lst acc) ∧ acc.length ≤ i ∧ Same H9 H' ∧ ((∃ (j : Nat) (q : Addr × List Str), j < i ∧ L[j]? = some q ∧ u ∈ q.2) → acc ≠ []))
                  ⟨[], upd_same, Nat.le_refl _, same_new hE, fun ⟨_, _, h, _⟩ => absurd h (Nat.not_lt_zero _)⟩ ?_ ?_
                · rintro i H10 hi ⟨acc, he, hal, hs10, hne⟩
                  have hi2 : i < L.length := by omega
                  have gi : atI (L.map fun q => V.ref q.1) ((0 : Int) + (i : Nat)) = some (.ref L[i].1) := by
                    rw [Int.zero_add]
                    exact atI_nat (by rw [List.getElem?_map, List.getElem?_eq_getElem hi2]; rfl)
                  have hx := hs10 _ _ (hs9 _ _ (hs35 _ _ (hL3 L[i] (List.getElem_mem hi2)).1))
                  refine ⟨rfl, ?_⟩
                  walk_at "rd"
                  refine ⟨_, _, _, _, rfl, rfl, sq (hs10 _ _ hp9), gi, ?_⟩
                  refine ⟨_, _, rfl, .inl (sq hx), rfl, flat_all _, ?_⟩
                  rw [inV_str]
                  refine ⟨_, rfl, ?_⟩
                  refine ite2 (fun hb => ?_) (fun hb => ?_)
                  · walk_at "rd"
                    refine ⟨acc, he, szl (by omega), acc ++ [.int (0 + (i : Nat))], upd_same, ?_, same_at hE hs10, fun _ => by simp⟩
                    rw [List.length_append]
                    show acc.length + 1 ≤ i + 1
                    omega
                  · refine ⟨acc, he, by omega, hs10, ?_⟩
                    rintro ⟨j, q, hj, h1, h2⟩
                    refine hne ⟨j, q, ?_, h1, h2⟩
                    rcases Nat.lt_succ_iff_lt_or_eq.mp hj with h | h
                    · exact h
                    · subst h
                      rw [List.getElem?_eq_getElem hi2] at h1
                      cases h1
                      exact absurd (decide_eq_true h2) hb
                · rintro H10 ⟨acc, he, hal, hs10, hne⟩
                  have hj0l : j0 < L.length := (List.getElem?_eq_some_iff.mp hj0).1
                  have hacc : acc ≠ [] := hne ⟨j0, q0, by omega, hj0, hq0⟩
                  have hz : ¬ (decide (V.int ((acc.length : Nat) : Int) = V.int 0) = true) := fun h => by
                    have e := V.int.inj (of_decide_eq_true h)
                    exact hacc (List.length_eq_zero_iff.mp (by omega))
                  refine ⟨_, _, rfl, .inl (sq he), ?_⟩
                  walk_at "rd"
                  refine ite2 (fun h => absurd h hz) (fun _ => ?_)
                  exact ⟨_, rfl, hs9.trans hs10⟩
              · rintro σ H9 ⟨y6, rfl, hs9⟩
                exact q H9
end
end K00
namespace K00
open PySem PySem.Spec PyProof.Rows L2 Bx TL
/-! ### what the top leaves -/
theorem all_mk {l : PySem.W.OpenLaw} {w : World} {K : PySem.W.Frag} {h : Heap} {mg : Str → Option Value} {fa : Addr} (X : K.In h) (G : h.Ns mainGlobals mg) (hfa : mg "law" = some (.ref fa))
    {f_is_name : Addr} {oc_is_name kV_is_name dc_is_name pm_is_name cd_is_name ct_is_name : Value} {od_is_name an_is_name : Option Addr} {sl_is_name : Array (Option Value)}
    {f_is_full_name : Addr} {oc_is_full_name kV_is_full_name dc_is_full_name pm_is_full_name cd_is_full_name ct_is_full_name : Value} {od_is_full_name an_is_full_name : Option Addr} {sl_is_full_name : Array (Option Value)}
    {f_merge_names : Addr} {oc_merge_names kV_merge_names dc_merge_names pm_merge_names cd_merge_names ct_merge_names : Value} {od_merge_names an_merge_names : Option Addr} {sl_merge_names : Array (Option Value)}
    {f__law_source : Addr} {oc__law_source kV__law_source dc__law_source pm__law_source cd__law_source ct__law_source : Value} {od__law_source an__law_source : Option Addr} {sl__law_source : Array (Option Value)}
    {f__law_draw : Addr} {oc__law_draw kV__law_draw dc__law_draw pm__law_draw cd__law_draw ct__law_draw : Value} {od__law_draw an__law_draw : Option Addr} {sl__law_draw : Array (Option Value)}
    {f__law_piece : Addr} {oc__law_piece kV__law_piece dc__law_piece pm__law_piece cd__law_piece ct__law_piece : Value} {od__law_piece an__law_piece : Option Addr} {sl__law_piece : Array (Option Value)}
    {f__law_is_name : Addr} {oc__law_is_name kV__law_is_name dc__law_is_name pm__law_is_name cd__law_is_name ct__law_is_name : Value} {od__law_is_name an__law_is_name : Option Addr} {sl__law_is_name : Array (Option Value)}
    {f__law_is_bool : Addr} {oc__law_is_bool kV__law_is_bool dc__law_is_bool pm__law_is_bool cd__law_is_bool ct__law_is_bool : Value} {od__law_is_bool an__law_is_bool : Option Addr} {sl__law_is_bool : Array (Option Value)}
    {f__law_names_right : Addr} {oc__law_names_right kV__law_names_right dc__law_names_right pm__law_names_right cd__law_names_right ct__law_names_right : Value} {od__law_names_right an__law_names_right : Option Addr} {sl__law_names_right : Array (Option Value)}
    {f__law_lists : Addr} {oc__law_lists kV__law_lists dc__law_lists pm__law_lists cd__law_lists ct__law_lists : Value} {od__law_lists an__law_lists : Option Addr} {sl__law_lists : Array (Option Value)}
    {f__law_merged : Addr} {oc__law_merged kV__law_merged dc__law_merged pm__law_merged cd__law_merged ct__law_merged : Value} {od__law_merged an__law_merged : Option Addr} {sl__law_merged : Array (Option Value)}
    {f_law : Addr} {oc_law kV_law dc_law pm_law cd_law ct_law : Value} {od_law an_law : Option Addr} {sl_law : Array (Option Value)}
    {t_LONGEST : Tok}
    {t_LETTERS : Tok}
    {t_LETTERS_AND_DIGITS : Tok}
    (a_is_name : PySem.W.nsIn K mainGlobals "is_name" = some (some (.ref f_is_name))) (l_is_name : K.lookup f_is_name = some ⟨oc_is_name, od_is_name, .func (PySem.W.fnOf "is_name" "is_name" (defArgs s_is_name) (defBody s_is_name) (defScope s_is_name) .none kV_is_name dc_is_name pm_is_name an_is_name cd_is_name ct_is_name), sl_is_name⟩) (c_is_name : PySem.W.codeIn K cd_is_name "is_name" = true) (k_is_name : PySem.W.keepIn K (.ref f_is_name) = true)
    (a_is_full_name : PySem.W.nsIn K mainGlobals "is_full_name" = some (some (.ref f_is_full_name))) (l_is_full_name : K.lookup f_is_full_name = some ⟨oc_is_full_name, od_is_full_name, .func (PySem.W.fnOf "is_full_name" "is_full_name" (defArgs s_is_full_name) (defBody s_is_full_name) (defScope s_is_full_name) .none kV_is_full_name dc_is_full_name pm_is_full_name an_is_full_name cd_is_full_name ct_is_full_name), sl_is_full_name⟩) (c_is_full_name : PySem.W.codeIn K cd_is_full_name "is_full_name" = true) (k_is_full_name : PySem.W.keepIn K (.ref f_is_full_name) = true)
    (a_merge_names : PySem.W.nsIn K mainGlobals "merge_names" = some (some (.ref f_merge_names))) (l_merge_names : K.lookup f_merge_names = some ⟨oc_merge_names, od_merge_names, .func (PySem.W.fnOf "merge_names" "merge_names" (defArgs s_merge_names) (defBody s_merge_names) (defScope s_merge_names) .none kV_merge_names dc_merge_names pm_merge_names an_merge_names cd_merge_names ct_merge_names), sl_merge_names⟩) (c_merge_names : PySem.W.codeIn K cd_merge_names "merge_names" = true) (k_merge_names : PySem.W.keepIn K (.ref f_merge_names) = true)
    (a__law_source : PySem.W.nsIn K mainGlobals "_law_source" = some (some (.ref f__law_source))) (l__law_source : K.lookup f__law_source = some ⟨oc__law_source, od__law_source, .func (PySem.W.fnOf "_law_source" "_law_source" (defArgs s__law_source) (defBody s__law_source) (defScope s__law_source) .none kV__law_source dc__law_source pm__law_source an__law_source cd__law_source ct__law_source), sl__law_source⟩) (c__law_source : PySem.W.codeIn K cd__law_source "_law_source" = true) (k__law_source : PySem.W.keepIn K (.ref f__law_source) = true)
    (a__law_draw : PySem.W.nsIn K mainGlobals "_law_draw" = some (some (.ref f__law_draw))) (l__law_draw : K.lookup f__law_draw = some ⟨oc__law_draw, od__law_draw, .func (PySem.W.fnOf "_law_draw" "_law_draw" (defArgs s__law_draw) (defBody s__law_draw) (defScope s__law_draw) .none kV__law_draw dc__law_draw pm__law_draw an__law_draw cd__law_draw ct__law_draw), sl__law_draw⟩) (c__law_draw : PySem.W.codeIn K cd__law_draw "_law_draw" = true) (k__law_draw : PySem.W.keepIn K (.ref f__law_draw) = true)
    (a__law_piece : PySem.W.nsIn K mainGlobals "_law_piece" = some (some (.ref f__law_piece))) (l__law_piece : K.lookup f__law_piece = some ⟨oc__law_piece, od__law_piece, .func (PySem.W.fnOf "_law_piece" "_law_piece" (defArgs s__law_piece) (defBody s__law_piece) (defScope s__law_piece) .none kV__law_piece dc__law_piece pm__law_piece an__law_piece cd__law_piece ct__law_piece), sl__law_piece⟩) (c__law_piece : PySem.W.codeIn K cd__law_piece "_law_piece" = true) (k__law_piece : PySem.W.keepIn K (.ref f__law_piece) = true)
    (a__law_is_name : PySem.W.nsIn K mainGlobals "_law_is_name" = some (some (.ref f__law_is_name))) (l__law_is_name : K.lookup f__law_is_name = some ⟨oc__law_is_name, od__law_is_name, .func (PySem.W.fnOf "_law_is_name" "_law_is_name" (defArgs s__law_is_name) (defBody s__law_is_name) (defScope s__law_is_name) .none kV__law_is_name dc__law_is_name pm__law_is_name an__law_is_name cd__law_is_name ct__law_is_name), sl__law_is_name⟩) (c__law_is_name : PySem.W.codeIn K cd__law_is_name "_law_is_name" = true) (k__law_is_name : PySem.W.keepIn K (.ref f__law_is_name) = true)
    (a__law_is_bool : PySem.W.nsIn K mainGlobals "_law_is_bool" = some (some (.ref f__law_is_bool))) (l__law_is_bool : K.lookup f__law_is_bool = some ⟨oc__law_is_bool, od__law_is_bool, .func (PySem.W.fnOf "_law_is_bool" "_law_is_bool" (defArgs s__law_is_bool) (defBody s__law_is_bool) (defScope s__law_is_bool) .none kV__law_is_bool dc__law_is_bool pm__law_is_bool an__law_is_bool cd__law_is_bool ct__law_is_bool), sl__law_is_bool⟩) (c__law_is_bool : PySem.W.codeIn K cd__law_is_bool "_law_is_bool" = true) (k__law_is_bool : PySem.W.keepIn K (.ref f__law_is_bool) = true)
    (a__law_names_right : PySem.W.nsIn K mainGlobals "_law_names_right" = some (some (.ref f__law_names_right))) (l__law_names_right : K.lookup f__law_names_right = some ⟨oc__law_names_right, od__law_names_right, .func (PySem.W.fnOf "_law_names_right" "_law_names_right" (defArgs s__law_names_right) (defBody s__law_names_right) (defScope s__law_names_right) .none kV__law_names_right dc__law_names_right pm__law_names_right an__law_names_right cd__law_names_right ct__law_names_right), sl__law_names_right⟩) (c__law_names_right : PySem.W.codeIn K cd__law_names_right "_law_names_right" = true) (k__law_names_right : PySem.W.keepIn K (.ref f__law_names_right) = true)
    (a__law_lists : PySem.W.nsIn K mainGlobals "_law_lists" = some (some (.ref f__law_lists))) (l__law_lists : K.lookup f__law_lists = some ⟨oc__law_lists, od__law_lists, .func (PySem.W.fnOf "_law_lists" "_law_lists" (defArgs s__law_lists) (defBody s__law_lists) (defScope s__law_lists) .none kV__law_lists dc__law_lists pm__law_lists an__law_lists cd__law_lists ct__law_lists), sl__law_lists⟩) (c__law_lists : PySem.W.codeIn K cd__law_lists "_law_lists" = true) (k__law_lists : PySem.W.keepIn K (.ref f__law_lists) = true)
    (a__law_merged : PySem.W.nsIn K mainGlobals "_law_merged" = some (some (.ref f__law_merged))) (l__law_merged : K.lookup f__law_merged = some ⟨oc__law_merged, od__law_merged, .func (PySem.W.fnOf "_law_merged" "_law_merged" (defArgs s__law_merged) (defBody s__law_merged) (defScope s__law_merged) .none kV__law_merged dc__law_merged pm__law_merged an__law_merged cd__law_merged ct__law_merged), sl__law_merged⟩) (c__law_merged : PySem.W.codeIn K cd__law_merged "_law_merged" = true) (k__law_merged : PySem.W.keepIn K (.ref f__law_merged) = true)
    (a_law : PySem.W.nsIn K mainGlobals "law" = some (some (.ref f_law))) (l_law : K.lookup f_law = some ⟨oc_law, od_law, .func (PySem.W.fnOf "law" "law" (defArgs s_law) (defBody s_law) (defScope s_law) .none kV_law dc_law pm_law an_law cd_law ct_law), sl_law⟩) (c_law : PySem.W.codeIn K cd_law "law" = true) (k_law : PySem.W.keepIn K (.ref f_law) = true)
    (z_LONGEST : PySem.W.nsIn K mainGlobals "LONGEST" = some (some (.int 8 t_LONGEST)))
    (z_LETTERS : PySem.W.nsIn K mainGlobals "LETTERS" = some (some (.str (Str.ofString "abcdefghijklmnopqrstuvwxyz") t_LETTERS)))
    (z_LETTERS_AND_DIGITS : PySem.W.nsIn K mainGlobals "LETTERS_AND_DIGITS" = some (some (.str (Str.ofString "abcdefghijklmnopqrstuvwxyz0123456789") t_LETTERS_AND_DIGITS)))
    (z_len : PySem.W.nsIn K mainGlobals "len" = some none)
    (z_all : PySem.W.nsIn K mainGlobals "all" = some none)
    (z_set : PySem.W.nsIn K mainGlobals "set" = some none)
    (z_sorted : PySem.W.nsIn K mainGlobals "sorted" = some none)
    (z_tuple : PySem.W.nsIn K mainGlobals "tuple" = some none)
    (z_int : PySem.W.nsIn K mainGlobals "int" = some none)
    (z_range : PySem.W.nsIn K mainGlobals "range" = some none)
    (z_isinstance : PySem.W.nsIn K mainGlobals "isinstance" = some none)
    (z_bool : PySem.W.nsIn K mainGlobals "bool" = some none)
    (z_list : PySem.W.nsIn K mainGlobals "list" = some none)
    (z_str : PySem.W.nsIn K mainGlobals "str" = some none)
    : ∃ fd : FuncData, (∀ (s : Shared) (v : Value), BindsTo s fd ⟨[v], []⟩ [("_law_script", v)]) ∧ ∀ base : Heap, K.In base → base.Ns mainGlobals mg → FnOk l.prog w K mg base CX0 4 fa fd ["_law_script"] (spLaw K) := by
  have e := hfa.symm.trans (PySem.W.mg_of X G a_law)
  cases e
  have F_is_name := fun_mk (st := s_is_name) l_is_name c_is_name k_is_name
  have b_is_name := F_is_name.binds (ps := ["text"]) fun _ _ _ _ _ _ us hl => match us, hl with | [_], _ => rfl
  have F_is_full_name := fun_mk (st := s_is_full_name) l_is_full_name c_is_full_name k_is_full_name
  have b_is_full_name := F_is_full_name.binds (ps := ["text"]) fun _ _ _ _ _ _ us hl => match us, hl with | [_], _ => rfl
  have F_merge_names := fun_mk (st := s_merge_names) l_merge_names c_merge_names k_merge_names
  have F__law_source := fun_mk (st := s__law_source) l__law_source c__law_source k__law_source
  have b__law_source := F__law_source.binds (ps := ["_law_script", "_law_k"]) fun _ _ _ _ _ _ us hl => match us, hl with | [_, _], _ => rfl
  have F__law_draw := fun_mk (st := s__law_draw) l__law_draw c__law_draw k__law_draw
  have b__law_draw := F__law_draw.binds (ps := ["_law_source_here", "_law_limit"]) fun _ _ _ _ _ _ us hl => match us, hl with | [_, _], _ => rfl
  have F__law_piece := fun_mk (st := s__law_piece) l__law_piece c__law_piece k__law_piece
  have b__law_piece := F__law_piece.binds (ps := ["_law_source_here"]) fun _ _ _ _ _ _ us hl => match us, hl with | [_], _ => rfl
  have F__law_is_name := fun_mk (st := s__law_is_name) l__law_is_name c__law_is_name k__law_is_name
  have b__law_is_name := F__law_is_name.binds (ps := ["_law_text"]) fun _ _ _ _ _ _ us hl => match us, hl with | [_], _ => rfl
  have F__law_is_bool := fun_mk (st := s__law_is_bool) l__law_is_bool c__law_is_bool k__law_is_bool
  have b__law_is_bool := F__law_is_bool.binds (ps := ["_law_actual", "_law_expected"]) fun _ _ _ _ _ _ us hl => match us, hl with | [_, _], _ => rfl
  have F__law_names_right := fun_mk (st := s__law_names_right) l__law_names_right c__law_names_right k__law_names_right
  have b__law_names_right := F__law_names_right.binds (ps := ["_law_source_here"]) fun _ _ _ _ _ _ us hl => match us, hl with | [_], _ => rfl
  have F__law_lists := fun_mk (st := s__law_lists) l__law_lists c__law_lists k__law_lists
  have b__law_lists := F__law_lists.binds (ps := ["_law_source_here"]) fun _ _ _ _ _ _ us hl => match us, hl with | [_], _ => rfl
  have F__law_merged := fun_mk (st := s__law_merged) l__law_merged c__law_merged k__law_merged
  have b__law_merged := F__law_merged.binds (ps := ["_law_lists_here", "_law_passed"]) fun _ _ _ _ _ _ us hl => match us, hl with | [_, _], _ => rfl
  have F_law := fun_mk (st := s_law) l_law c_law k_law
  have m_LONGEST := PySem.W.mg_of X G z_LONGEST
  have m_LETTERS := PySem.W.mg_of X G z_LETTERS
  have m_LETTERS_AND_DIGITS := PySem.W.mg_of X G z_LETTERS_AND_DIGITS
  have m_len := PySem.W.mg_none_of X G z_len
  have m_all := PySem.W.mg_none_of X G z_all
  have m_set := PySem.W.mg_none_of X G z_set
  have m_sorted := PySem.W.mg_none_of X G z_sorted
  have m_tuple := PySem.W.mg_none_of X G z_tuple
  have m_int := PySem.W.mg_none_of X G z_int
  have m_range := PySem.W.mg_none_of X G z_range
  have m_isinstance := PySem.W.mg_none_of X G z_isinstance
  have m_bool := PySem.W.mg_none_of X G z_bool
  have m_list := PySem.W.mg_none_of X G z_list
  have m_str := PySem.W.mg_none_of X G z_str
  refine ⟨PySem.W.fnOf "law" "law" (defArgs s_law) (defBody s_law) (defScope s_law) .none kV_law dc_law pm_law an_law cd_law ct_law, fun s v => .of_eq rfl, fun base _ _ => ?_⟩
  have C_is_name : Cal l.prog w K mg base "is_name" 1 ["text"] spIsName := ⟨_, _, ok_is_name F_is_name (m_len := m_len) (m_all := m_all) (m_LONGEST := m_LONGEST) (m_LETTERS := m_LETTERS) (m_LETTERS_AND_DIGITS := m_LETTERS_AND_DIGITS), PySem.W.mg_of X G a_is_name, F_is_name.kp, b_is_name⟩
  have C_is_full_name : Cal l.prog w K mg base "is_full_name" 2 ["text"] spFull := ⟨_, _, ok_is_full_name F_is_full_name (m_all := m_all) (C_is_name := C_is_name), PySem.W.mg_of X G a_is_full_name, F_is_full_name.kp, b_is_full_name⟩
  have C_merge_names : CalR l.prog w K mg base "merge_names" 1 (spMerge K) := ⟨_, ok_merge_names F_merge_names (m_set := m_set) (m_sorted := m_sorted) (m_tuple := m_tuple), PySem.W.mg_of X G a_merge_names, F_merge_names.kp⟩
  have C__law_source : Cal l.prog w K mg base "_law_source" 1 ["_law_script", "_law_k"] (spSource K) := ⟨_, _, ok_source F__law_source (m_len := m_len) (m_int := m_int), PySem.W.mg_of X G a__law_source, F__law_source.kp, b__law_source⟩
  have C__law_draw : Cal l.prog w K mg base "_law_draw" 1 ["_law_source_here", "_law_limit"] spDraw := ⟨_, _, ok_draw F__law_draw (m_int := m_int), PySem.W.mg_of X G a__law_draw, F__law_draw.kp, b__law_draw⟩
  have C__law_piece : Cal l.prog w K mg base "_law_piece" 2 ["_law_source_here"] spPiece := ⟨_, _, ok_piece F__law_piece (m_range := m_range) (C__law_draw := C__law_draw), PySem.W.mg_of X G a__law_piece, F__law_piece.kp, b__law_piece⟩
  have C__law_is_name : Cal l.prog w K mg base "_law_is_name" 1 ["_law_text"] spIsName := ⟨_, _, ok_law_is_name F__law_is_name (m_len := m_len) (m_range := m_range), PySem.W.mg_of X G a__law_is_name, F__law_is_name.kp, b__law_is_name⟩
  have C__law_is_bool : Cal l.prog w K mg base "_law_is_bool" 1 ["_law_actual", "_law_expected"] spIsBool := ⟨_, _, ok_is_bool F__law_is_bool (m_isinstance := m_isinstance) (m_bool := m_bool), PySem.W.mg_of X G a__law_is_bool, F__law_is_bool.kp, b__law_is_bool⟩
  have C__law_names_right : Cal l.prog w K mg base "_law_names_right" 3 ["_law_source_here"] spRight := ⟨_, _, ok_right F__law_names_right (m_len := m_len) (m_range := m_range) (C__law_draw := C__law_draw) (C__law_piece := C__law_piece) (C__law_is_name := C__law_is_name) (C__law_is_bool := C__law_is_bool) (C_is_name := C_is_name) (C_is_full_name := C_is_full_name), PySem.W.mg_of X G a__law_names_right, F__law_names_right.kp, b__law_names_right⟩
  have C__law_lists : Cal l.prog w K mg base "_law_lists" 2 ["_law_source_here"] spLists := ⟨_, _, ok_lists F__law_lists (m_range := m_range) (C__law_draw := C__law_draw), PySem.W.mg_of X G a__law_lists, F__law_lists.kp, b__law_lists⟩
  have C__law_merged : Cal l.prog w K mg base "_law_merged" 2 ["_law_lists_here", "_law_passed"] (spMerged K) := ⟨_, _, ok_merged F__law_merged (m_len := m_len) (m_tuple := m_tuple) (C_merge_names := C_merge_names), PySem.W.mg_of X G a__law_merged, F__law_merged.kp, b__law_merged⟩
  exact ok_law F_law (m_len := m_len) (m_range := m_range) (m_list := m_list) (m_isinstance := m_isinstance) (m_tuple := m_tuple) (m_str := m_str) (C__law_source := C__law_source) (C__law_names_right := C__law_names_right) (C__law_lists := C__law_lists) (C__law_merged := C__law_merged)
end K00
open PySem PySem.W PyProof.Rows
set_option maxRecDepth 100000 in
set_option maxHeartbeats 0 in
theorem PySem.Challenge.cw_shadowlinks_k00_names_and_merging_holds : PySem.Challenge.rw_shadowlinks_k00_names_and_merging.Holds := by
  w_on; o_law; k_head; (case hw => w_witness2)
  k_fill
  refine L2.walk_of (l := PySem.Challenge.rw_shadowlinks_k00_names_and_merging) (n := 63) (k := 4) (x := "_law_script") (CX := fun _ => L2.CX0) (sp := fun w => K00.spLaw _) rfl (by decide) rfl ⟨rfl, by decide, by decide⟩ (fun w h Y => PySem.W.kIn_of Y) ?F (fun _ _ a ns hl _ hS => ⟨a, ns, rfl, hS, hl, fun _ => rfl⟩) (fun _ _ _ _ _ h => h)
  case F =>
    intro w mg fa h KX G hmg
    refine' K00.all_mk KX G hmg ?a_is_name ?l_is_name ?c_is_name ?k_is_name ?a_is_full_name ?l_is_full_name ?c_is_full_name ?k_is_full_name ?a_merge_names ?l_merge_names ?c_merge_names ?k_merge_names ?a__law_source ?l__law_source ?c__law_source ?k__law_source ?a__law_draw ?l__law_draw ?c__law_draw ?k__law_draw ?a__law_piece ?l__law_piece ?c__law_piece ?k__law_piece ?a__law_is_name ?l__law_is_name ?c__law_is_name ?k__law_is_name ?a__law_is_bool ?l__law_is_bool ?c__law_is_bool ?k__law_is_bool ?a__law_names_right ?l__law_names_right ?c__law_names_right ?k__law_names_right ?a__law_lists ?l__law_lists ?c__law_lists ?k__law_lists ?a__law_merged ?l__law_merged ?c__law_merged ?k__law_merged ?a_law ?l_law ?c_law ?k_law ?z_LONGEST ?z_LETTERS ?z_LETTERS_AND_DIGITS ?z_len ?z_all ?z_set ?z_sorted ?z_tuple ?z_int ?z_range ?z_isinstance ?z_bool ?z_list ?z_str
    (case a_is_name => k_is)
    (case l_is_name => k_is)
    (case c_is_name => k_is)
    (case k_is_name => k_is)
    (case a_is_full_name => k_is)
    (case l_is_full_name => k_is)
    (case c_is_full_name => k_is)
    (case k_is_full_name => k_is)
    (case a_merge_names => k_is)
    (case l_merge_names => k_is)
    (case c_merge_names => k_is)
    (case k_merge_names => k_is)
    (case a__law_source => k_is)
    (case l__law_source => k_is)
    (case c__law_source => k_is)
    (case k__law_source => k_is)
    (case a__law_draw => k_is)
    (case l__law_draw => k_is)
    (case c__law_draw => k_is)
    (case k__law_draw => k_is)
    (case a__law_piece => k_is)
    (case l__law_piece => k_is)
    (case c__law_piece => k_is)
    (case k__law_piece => k_is)
    (case a__law_is_name => k_is)
    (case l__law_is_name => k_is)
    (case c__law_is_name => k_is)
    (case k__law_is_name => k_is)
    (case a__law_is_bool => k_is)
    (case l__law_is_bool => k_is)
    (case c__law_is_bool => k_is)
    (case k__law_is_bool => k_is)
    (case a__law_names_right => k_is)
    (case l__law_names_right => k_is)
    (case c__law_names_right => k_is)
    (case k__law_names_right => k_is)
    (case a__law_lists => k_is)
    (case l__law_lists => k_is)
    (case c__law_lists => k_is)
    (case k__law_lists => k_is)
    (case a__law_merged => k_is)
    (case l__law_merged => k_is)
    (case c__law_merged => k_is)
    (case k__law_merged => k_is)
    (case a_law => k_is)
    (case l_law => k_is)
    (case c_law => k_is)
    (case k_law => k_is)
    (case z_LONGEST => k_is)
    (case z_LETTERS => k_is)
    (case z_LETTERS_AND_DIGITS => k_is)
    (case z_len => k_is)
    (case z_all => k_is)
    (case z_set => k_is)
    (case z_sorted => k_is)
    (case z_tuple => k_is)
    (case z_int => k_is)
    (case z_range => k_is)
    (case z_isinstance => k_is)
    (case z_bool => k_is)
    (case z_list => k_is)
    (case z_str => k_is)
#print axioms PySem.Challenge.cw_shadowlinks_k00_names_and_merging_holds
