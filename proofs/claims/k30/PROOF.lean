import PyProof.Rows.All
import Wide.All
import OpenK.AllK
import Wide.FinOn
import HandS.ForExc
import PyProof.Rows.SortShellAny
import HandS.SetTxt0
import HandS.TupSets
import HandS.ForMost
import HandS.Walk
import HandS.IsInst
import HandS.IterVal
import HandS.Star
import HandS.Deep
import HandS.DictComp
import HandS.Zip
import HandS.Wide
import HandS.Style
import PySem.Challenge.RW_shadowlinks_k30_progressions
set_option Elab.async false
set_option linter.all false
set_option maxRecDepth 100000
/-! Sets of texts, made of a list or a tuple, and sorted: any texts, in whatever order the world walks them. -/
namespace Sx
open PySem PySem.Spec PyProof.Rows L2 PySem.Froz

/-! ### lists -/
/-- a list without twins whose members all stand in a list of the same length is that list in another order -/
theorem perm_of_sub : ∀ (l ks : List Str), l.Nodup → (∀ x, x ∈ l → x ∈ ks) → ks.length = l.length → l.Perm ks
  | [], ks, _, _, e => by
    have z : ks = [] := List.length_eq_zero_iff.mp e
    rw [z]
  | x :: l, ks, nd, sub, e => by
    obtain ⟨hx, nd'⟩ := List.nodup_cons.mp nd
    have hm : x ∈ ks := sub x List.mem_cons_self
    have p := List.perm_cons_erase hm
    have hl : (ks.erase x).length = l.length := by
      have q := p.length_eq
      simp only [List.length_cons] at q e
      omega
    refine ((perm_of_sub l (ks.erase x) nd' (fun y hy => ?_) hl).cons x).trans p.symm
    have hne : y ≠ x := fun z => hx (z ▸ hy)
    exact (List.mem_erase_of_ne hne).mpr (sub y (List.mem_cons_of_mem _ hy))

/-! ### the payload behind an add -/
theorem tail_ris {ep : Nat} {es : Array (Int × Value)} {t : SetTable} {d : Bool} (r : Ris t.place.toList) : Ris (tailTx ep es t d).2.2.place.toList := by
  unfold tailTx
  split
  · exact relayAll_ris t es _
  · exact r
theorem tail_led {ep : Nat} {es : Array (Int × Value)} {t : SetTable} {d : Bool} : (tailTx ep es t d).2.2.led = t.led := by
  unfold tailTx
  split
  · exact relayAll_led t es _
  · rfl
theorem add_ris {D : SD} (h : Int) (v : Value) (r : Ris D.2.2.place.toList) : Ris (addTx h v D).2.2.place.toList := by
  have r1 := layNew_ris D.2.2 D.1 h v r
  unfold addTx
  apply tail_ris
  split
  · exact r1
  · exact r1
theorem add_led {D : SD} (h : Int) (v : Value) : (addTx h v D).2.2.led = D.2.2.led := by
  have r1 := layNew_led D.2.2 D.1 h v
  unfold addTx
  rw [tail_led]
  split
  · exact r1
  · exact r1

/-- the set of the texts l stands at a -/
def SetX (P : Program) (w : World) (h : Heap) (a : Addr) (l : List Str) : Prop :=
  ∃ D : SD, h.get? a = some (sObj "set" D) ∧ TxOk P w D l ∧ l.Nodup ∧ Ris D.2.2.place.toList ∧ (w.params.followText "set-order" = true ∨ D.2.2.led = true)

section
variable {P : Program} {w : World} {A : Around} {E : Value → Shared → Prop} {s : Shared}

theorem SetX.at {h h' : Heap} {a : Addr} {l : List Str} (R : SetX P w h a l) (k : ∀ o, h.get? a = some o → h'.get? a = some o) : SetX P w h' a l := by
  obtain ⟨D, ho, r⟩ := R
  exact ⟨D, k _ ho, r⟩
theorem setX_fresh {h : Heap} {a : Addr} (ho : h.get? a = some { cls := .type "set", dict := none, data := .set #[] 0 (.fresh 0 0 (!w.params.followText "set-order")) }) : SetX P w h a [] := by
  refine ⟨(#[], 0, .fresh 0 0 (!w.params.followText "set-order")), ho, TxOk.nil rfl, List.nodup_nil, List.Pairwise.nil, ?_⟩
  show _ ∨ (!w.params.followText "set-order") = true
  cases w.params.followText "set-order"
  · exact .inr rfl
  · exact .inl rfl

/-- one text more, new or there already -/
theorem add_any {a : Addr} {l : List Str} {k : Str} {u : Tok} {Q : Bool → Shared → Prop} (R : SetX P w s.heap a l) (hb : l.length + 1 < scanBound)
    (hQ : ∀ b h' l', Heap.SameBut a s.heap h' → SetX P w h' a l' → (∀ x, x ∈ l' ↔ x = k ∨ x ∈ l) → l'.length ≤ l.length + 1 → Q b { s with heap := h' }) :
    wpAny (model P w) A (setAddHashed a (.str k u) (hashStr w k)) Q E s := by
  obtain ⟨D, ho, F, nd, r, hl⟩ := R
  rcases Classical.em (k ∈ l) with hk | hk
  · obtain ⟨es, ep, t⟩ := D
    have hd : (sObj "set" (es, ep, t)).data = .set es ep t := rfl
    have hf : t.fits es.size = true := F.fit
    have hel : ElemsOf (PySem.strKind P w) es.toList := F.el
    have hb0 : es.size < scanBound := by
      have z : es.size = l.length := F.sz
      omega
    have hkey : (PySem.strKind P w).is k (.str k u) = true := is_str k u
    unfold setAddHashed setAddHashedIn
    refine wpAny_holding (wpAny_bind (wpAny_setState_of ho hd hf ?_))
    dsimp only
    rw [byScan_of rfl hb0 hel]
    simp only [↓reduceIte]
    unfold setAddByScan
    refine wpAny_bind ?_
    refine wpAny_bind (wpAny_rule ?_)
    refine wpAny_bind (wpAny_setScan_of (knd := PySem.strKind P w) (k := k) hkey ho hd hf hel ?_)
    cases hfi : List.findIdx? (fun e => (PySem.strKind P w).is k e.2) es.toList with
    | none =>
      obtain ⟨e, he, q⟩ := (F.mem k).mp hk
      have c := List.findIdx?_eq_none_iff.mp hfi e he
      rw [q] at c
      cases c
    | some j =>
      dsimp only
      refine wpAny_pure (wpAny_pure ?_)
      exact hQ _ s.heap l (Heap.SameBut.refl a s.heap) ⟨(es, ep, t), ho, F, nd, r, hl⟩ (fun x => ⟨.inr, fun z => z.elim (fun e => e ▸ hk) id⟩) (Nat.le_succ _)
  · refine add_x ho F hk hb (hQ _ _ (k :: l) (Heap.SameBut.update s.heap a _) ⟨_, get_upd _ ho rfl, add_ok u F, List.nodup_cons.mpr ⟨hk, nd⟩, add_ris _ _ r, ?_⟩ (fun x => List.mem_cons) (Nat.le_refl _))
    exact hl.imp id fun z => by
      rw [add_led]
      exact z
end

/-! ### set(xs): the loop -/
section
variable {P : Program} {w : World} {A : Around} {R : Result → Shared → Prop} {I : Addr} {fp wr : List Addr} {G : Array GenState → Array GenState → Prop} {n : Nat} {Pv : Nat → Value → Prop} {St : Nat → Shared → Prop}
theorem fill_loop (W : WalksS P w A.in1 I fp wr G n Pv St) (S : Addr) (hSf : S ∉ fp) (xs : List Str) (hn : xs.length = n) (hval : ∀ i v, Pv i v → ∃ t, v = .str (xs.getD i Str.empty) t) (hb : n + 1 < scanBound) :
    ∀ (k i : Nat) (s : Shared) (l : List Str), n - i = k → i ≤ n → St i s → SetX P w s.heap S l → (∀ x, x ∈ l ↔ x ∈ xs.take i) → l.length ≤ i →
      (∀ s' l', Moved (S :: wr) G s s' → SetX P w s'.heap S l' → (∀ x, x ∈ l' ↔ x ∈ xs) → l'.length ≤ n → R (.ok (.ret .none)) s') →
      codeAny (model P w) A (.builtin "set.update.loop" ⟨[.ref S, .ref I], []⟩) R s := by
  have hSw : S ∉ wr := fun h => hSf (W.sub _ h)
  have hsub : ∀ b ∈ wr, b ∈ S :: wr := fun b hb => List.mem_cons_of_mem _ hb
  intro k
  induction k with
  | zero =>
    intro i s l hk hi hst hS hm hlen hR
    have hin : i = n := by omega
    subst hin
    refine codeAny_builtin PyProof.Rows.F.entry_set_update_loop ?_
    rw [Around.under_plainId PyProof.Rows.F.plain_set_update_loop _]
    show wpAny _ A.in1 (pyNext (.ref I) >>= _) _ _ s
    refine wpAny_bind (W.done s _ _ hst fun s' hmv => ?_)
    show wpAny _ A.in1 (ret Value.none) _ _ s'
    refine wpAny_pure (hR s' l (hmv.mono hsub) (hS.at fun o e => hmv.heap S o hSw e) (fun x => ?_) hlen)
    rw [hm x, ← hn, List.take_length]
  | succ k ih =>
    intro i s l hk hi hst hS hm hlen hR
    have hlt : i < n := by omega
    refine codeAny_builtin PyProof.Rows.F.entry_set_update_loop ?_
    rw [Around.under_plainId PyProof.Rows.F.plain_set_update_loop _]
    show wpAny _ A.in1 (pyNext (.ref I) >>= _) _ _ s
    refine wpAny_bind (W.item i s _ _ hlt hst fun v s' hP hst' hmv => ?_)
    obtain ⟨t, rfl⟩ := hval i v hP
    have hS' : SetX P w s'.heap S l := hS.at fun o e => hmv.heap S o hSw e
    show wpAny _ A.in1 (holding [Value.str (xs.getD i Str.empty) t] (setAdd S (.str (xs.getD i Str.empty) t)) >>= _) _ _ s'
    refine wpAny_bind (wpAny_holding ?_)
    unfold setAdd
    refine wpAny_holding ?_
    refine wpAny_bind ((PySem.strKind P w).pyHash (k := xs.getD i Str.empty) (strKind_is _ _ _ _) ?_)
    have hroom : l.length + 1 < scanBound := by omega
    refine add_any (s := { s' with toks := s'.toks + 1 }) hS' hroom fun b h' l' hsb hS2 hm2 hl2 => ?_
    have hix : i < xs.length := by omega
    have eg : xs.getD i Str.empty = xs[i] := by
      rw [List.getD_eq_getElem?_getD, List.getElem?_eq_getElem hix]
      rfl
    have hm3 : ∀ x, x ∈ l' ↔ x ∈ xs.take (i + 1) := fun x => by
      rw [hm2 x, List.take_succ, List.getElem?_eq_getElem hix, eg]
      show _ ↔ x ∈ xs.take i ++ [xs[i]]
      rw [List.mem_append, List.mem_singleton, hm x]
      exact Or.comm
    refine wpAny_pure ⟨plainId_quiet PyProof.Rows.F.plain_set_update_loop _, ih (i + 1) _ l' (by omega) hlt (W.frame _ s' _ _ hst' (Nat.le_succ _) fun b hb o e => ?_) hS2 hm3 (by omega) fun s'' l'' hmv'' hS'' hm'' hl'' => ?_⟩
    · rw [hsb.2 b (fun h : b = S => hSf (by rw [← h]; exact hb))]
      exact e
    · refine hR s'' l'' (Moved.trans W.gtrans ((hmv.mono hsub).then_heap (Nat.le_succ _) fun b o hb e => ?_) hmv'') hS'' hm'' hl''
      rw [hsb.2 b (fun h : b = S => hb (by rw [h]; exact List.mem_cons_self))]
      exact e
end

/-! ### set(xs): the call -/
section
variable {P : Program} {w : World} {A : Around} {E : Value → Shared → Prop} {s : Shared}
abbrev emptyObj (w : World) : Obj := { cls := .type "set", dict := none, data := .set #[] 0 (.fresh 0 0 (!w.params.followText "set-order")) }
theorem str_at {us : List Value} {xs : List Str} (h : StrsAre us xs) : ∀ (i : Nat) (v : Value), us[i]? = some v → ∃ t, v = .str (xs.getD i Str.empty) t := by
  induction h with
  | nil =>
    intro i v e
    cases e
  | cons y t h ih =>
    intro i v e
    cases i with
    | zero =>
      have q : Value.str y t = v := Option.some.inj e
      exact ⟨t, q.symm⟩
    | succ i => exact ih i v e

set_option maxRecDepth 100000 in
set_option maxHeartbeats 4000000 in
/-- set(xs), xs a list or a tuple of texts -/
theorem call_set {l : Addr} {items : Array Value} {xs : List Str} {Q : Value → Shared → Prop} (hh : A.handled = none) (hl : s.heap.IsList l items ∨ s.heap.IsTuple l items) (hi : StrsAre items.toList xs) (hb : xs.length + 1 < scanBound)
    (h : ∀ (h' : Heap) (tk : Nat) (ys : List Str), SetX P w h' s.heap.objs.size ys → (∀ x, x ∈ ys ↔ x ∈ xs) → ys.length ≤ xs.length → (∀ b o, s.heap.get? b = some o → h'.get? b = some o) → Q (.ref s.heap.objs.size) { s with heap := h', toks := tk }) :
    wpAny (model P w) A (call (.type "set") [.ref l]) Q E s := by
  have hisz : xs.length = items.size := by rw [← StrsAre.len_eq hi, Array.length_toList]
  have hval : ∀ (i : Nat) (v : Value), items[i]? = some v → ∃ t, v = .str (xs.getD i Str.empty) t := fun i v hv => str_at hi i v (by rw [Array.getElem?_toList]; exact hv)
  obtain ⟨c, tl, hmro⟩ := PySem.F.called_set.mro
  have hmade := PySem.F.called_set.made
  have hsub := PySem.F.called_set.sub
  refine wpAny_call (codeAny_of_tree ?_)
  show wpAny _ _ (callAny (.type "set") _) _ _ _
  refine wpAny_pure ⟨Code.quiet_builtin _ (by decide +kernel), codeAny_builtin PySem.F.entry_type_call ?_⟩
  rw [Around.under_plain (weight_type_call_type "set" [.ref l] []) rfl]
  have h1 := PySem.F.called_set.notType
  have h2 := PySem.F.called_set.canCreate
  have hct := PySem.F.typeCall_set_1 (.ref l)
  repeat (any_goals (first | assumption | wp_step))
  refine codeAny_mono (code_set_led1 (.ref l) (E := E) (Q₁ := fun obj s₁ => obj = .ref s.heap.objs.size ∧ s₁ = { s with heap := s.heap.push (emptyObj w) }) ⟨rfl, rfl⟩) fun r s₁ hr => ?_
  cases r with
  | error e => exact hr
  | ok fl =>
    cases fl with
    | ret obj =>
      obtain ⟨rfl, rfl⟩ := hr
      have hS : (s.heap.push (emptyObj w)).get? s.heap.objs.size = some (emptyObj w) := Heap.get?_push_size _ rfl
      have hT : Shared.TypeIs { s with heap := s.heap.push (emptyObj w) } (.ref s.heap.objs.size) "set" := ⟨_, hS, rfl⟩
      have hli := PySem.F.called_set.init.lookup
      have hbi := PySem.F.called_set.init.bind (.ref s.heap.objs.size)
      repeat (any_goals (first | assumption | wp_step))
      refine codeAny_mono (codeAny_call_builtin (R := wants (fun r s₂ => r = .none ∧ ∃ h' tk ys, s₂ = { s with heap := h', toks := tk } ∧ SetX P w h' s.heap.objs.size ys ∧ (∀ x, x ∈ ys ↔ x ∈ xs) ∧ ys.length ≤ xs.length ∧
          (∀ b o, s.heap.get? b = some o → h'.get? b = some o)) E) PySem.F.called_set.init.plain PySem.F.entry_set_init (check_set_init_1 hT ?_)) fun r₂ s₂ hr₂ => ?_
      · have hh3 : A.in1.in1.in1.handled = none := by simp [hh]
        have hz1 : (s.heap.push (emptyObj w)).objs.size = s.heap.objs.size + 1 := Heap.size_push ..
        rcases hl with hl | hl
        · obtain ⟨ol, hol, hcl, nl, hdl⟩ := hl
          obtain ⟨ocls, odict, odata, oslots⟩ := ol
          simp only at hcl hdl
          subst hcl; subst hdl
          have hol' : (s.heap.push (emptyObj w)).get? l = some { cls := .type "list", dict := odict, data := .seq items nl, slots := oslots } := Heap.get?_push_of_some _ hol
          have hsls := PySem.F.sub_list_set
          have hslf := PySem.F.sub_list_frozenset
          have hne : (Value.type "list" == Value.type "dict") = false := by decide
          have hl1 : (s.heap.push (emptyObj w)).IsList l items := ⟨_, hol', rfl, nl, rfl⟩
          unfold Builtin.«set.__init__» noKeywords Builtin.Frozenset.updateFrom
          generalize hPI : pyIter = PI
          wp_walk
          subst hPI
          refine wpAny_pyIter_list hl1 ?_
          refine wpAny_bind (wpAny_runValue ?_)
          have hlS : l < s.heap.objs.size := Heap.lt_size hol
          have hneI : l ≠ (s.heap.push (emptyObj w)).objs.size := by
            rw [hz1]
            exact Nat.ne_of_lt (Nat.lt_succ_of_lt hlS)
          have hSf : s.heap.objs.size ∉ [(s.heap.push (emptyObj w)).objs.size, l] := by
            simp only [List.mem_cons, List.mem_singleton, List.not_mem_nil, or_false, not_or]
            rw [hz1]
            exact ⟨Nat.ne_of_lt (Nat.lt_succ_self _), Nat.ne_of_gt hlS⟩
          have hget : ((s.heap.push (emptyObj w)).push { cls := .type "list_iterator", data := .fields #[.ref l, .int 0 0] }).get? s.heap.objs.size = some (emptyObj w) := Heap.get?_push_of_some _ hS
          refine fill_loop ((Walks.list hh3 _ l hneI items).toS) s.heap.objs.size hSf xs hisz hval (by omega) (items.size - 0) 0 _ [] (by omega) (Nat.zero_le _)
            ⟨⟨_, Heap.get?_push_size _ rfl, rfl, rfl⟩, (hl1.push _)⟩ (setX_fresh hget) (fun x => Iff.rfl) (Nat.le_refl _) ?hR
          case hR =>
            intro s' ys hm hS' hmm hlen
            obtain ⟨h', g', d', tk', os'⟩ := s'
            have eg : g' = s.gens := hm.gens
            have ed : d' = s.drawn := hm.drawn
            have eo : os' = s.os := hm.os
            subst eg; subst ed; subst eo
            show wpAny _ _ _ _ _ _
            refine wpAny_pure ?_
            show wpAny _ _ (ret Value.none) _ _ _
            refine wpAny_pure ⟨rfl, h', tk', ys, rfl, hS', hmm, by omega, fun b o e => ?_⟩
            have hb0 : b < s.heap.objs.size := Heap.lt_size e
            refine hm.heap b o ?_ (Heap.get?_push_of_some _ (Heap.get?_push_of_some _ e))
            simp only [List.mem_cons, List.mem_singleton, List.not_mem_nil, or_false, not_or]
            rw [hz1]
            exact ⟨Nat.ne_of_lt hb0, Nat.ne_of_lt (Nat.lt_succ_of_lt hb0)⟩
        · obtain ⟨ol, hol, hcl, nl, hdl⟩ := hl
          obtain ⟨ocls, odict, odata, oslots⟩ := ol
          simp only at hcl hdl
          subst hcl; subst hdl
          have hol' : (s.heap.push (emptyObj w)).get? l = some { cls := .type "tuple", dict := odict, data := .seq items nl, slots := oslots } := Heap.get?_push_of_some _ hol
          have hsls := PySem.F.sub_tuple_set
          have hslf := PySem.F.sub_tuple_frozenset
          have hne : (Value.type "tuple" == Value.type "dict") = false := by decide
          have hl1 : (s.heap.push (emptyObj w)).IsTuple l items := ⟨_, hol', rfl, nl, rfl⟩
          unfold Builtin.«set.__init__» noKeywords Builtin.Frozenset.updateFrom
          generalize hPI : pyIter = PI
          wp_walk
          subst hPI
          refine wpAny_pyIter_tuple hl1 ?_
          refine wpAny_bind (wpAny_runValue ?_)
          have hlS : l < s.heap.objs.size := Heap.lt_size hol
          have hneI : l ≠ (s.heap.push (emptyObj w)).objs.size := by
            rw [hz1]
            exact Nat.ne_of_lt (Nat.lt_succ_of_lt hlS)
          have hSf : s.heap.objs.size ∉ [(s.heap.push (emptyObj w)).objs.size, l] := by
            simp only [List.mem_cons, List.mem_singleton, List.not_mem_nil, or_false, not_or]
            rw [hz1]
            exact ⟨Nat.ne_of_lt (Nat.lt_succ_self _), Nat.ne_of_gt hlS⟩
          have hget : ((s.heap.push (emptyObj w)).push { cls := .type "tuple_iterator", data := .fields #[.ref l, .int 0 0] }).get? s.heap.objs.size = some (emptyObj w) := Heap.get?_push_of_some _ hS
          refine fill_loop ((Walks.tuple hh3 _ l hneI items).toS) s.heap.objs.size hSf xs hisz hval (by omega) (items.size - 0) 0 _ [] (by omega) (Nat.zero_le _)
            ⟨⟨_, Heap.get?_push_size _ rfl, rfl, rfl⟩, (hl1.push _)⟩ (setX_fresh hget) (fun x => Iff.rfl) (Nat.le_refl _) ?hR
          case hR =>
            intro s' ys hm hS' hmm hlen
            obtain ⟨h', g', d', tk', os'⟩ := s'
            have eg : g' = s.gens := hm.gens
            have ed : d' = s.drawn := hm.drawn
            have eo : os' = s.os := hm.os
            subst eg; subst ed; subst eo
            show wpAny _ _ _ _ _ _
            refine wpAny_pure ?_
            show wpAny _ _ (ret Value.none) _ _ _
            refine wpAny_pure ⟨rfl, h', tk', ys, rfl, hS', hmm, by omega, fun b o e => ?_⟩
            have hb0 : b < s.heap.objs.size := Heap.lt_size e
            refine hm.heap b o ?_ (Heap.get?_push_of_some _ (Heap.get?_push_of_some _ e))
            simp only [List.mem_cons, List.mem_singleton, List.not_mem_nil, or_false, not_or]
            rw [hz1]
            exact ⟨Nat.ne_of_lt hb0, Nat.ne_of_lt (Nat.lt_succ_of_lt hb0)⟩
      · cases r₂ with
        | error e => exact hr₂
        | ok fl₂ =>
          cases fl₂ with
          | ret r =>
            obtain ⟨rfl, h', tk, ys, rfl, hS', hmm, hlen, hk'⟩ := hr₂
            repeat (any_goals (first | assumption | wp_step))
            exact h _ _ _ hS' hmm hlen hk'
          | _ => exact hr₂.elim
    | _ => exact hr.elim

/-! ### sorted(set) -/
theorem strs_of : ∀ (l : List Value), (∀ v ∈ l, ∃ k tk, v = Value.str k tk) → StrsAre l (l.map strOf)
  | [], _ => .nil
  | v :: l, h => by
    obtain ⟨k, tk, rfl⟩ := h v List.mem_cons_self
    exact .cons k tk (strs_of l fun u hu => h u (List.mem_cons_of_mem _ hu))
theorem sorted_setX {a : Addr} {l : List Str} {Q : Value → Shared → Prop} (R : SetX P w s.heap a l) (hh : A.handled = none) (hlen : l.length + 1 < scanBound)
    (hQ : ∀ s' p (out : Array Value) (c : Nat) (ys : List Str), (∀ b o, s.heap.get? b = some o → s'.heap.get? b = some o) → s'.gens = s.gens → s'.os = s.os → s.heap.objs.size ≤ p →
      s'.heap.get? p = some (seqObj "list" out c) → StrsAre out.toList ys → sortedS ys = true → ys.Perm l → Q (.ref p) s') :
    wpAny (model P w) A (call (.builtin "sorted") [.ref a]) Q E s := by
  obtain ⟨⟨es, ep, t⟩, ho, F, nd, r, hl⟩ := R
  have hf : t.fits es.size = true := F.fit
  have hsz : es.size = l.length := F.sz
  refine Calls.call_function_entry kind_sorted plain_sorted entry_sorted (args_sorted1 _) ?_
  unfold Builtin.«sorted»
  refine wpAny_bind (m := checkCount "sorted" 1 1 _) (wpAny_pure ?_)
  refine wpAny_bind (collect_set (A := A.in1) hh ⟨_, ho, rfl, rfl⟩ hf (by show es.size < scanBound; rw [hsz]; omega) r hl fun s1 vs k1 hz g1 o1 pm => ?_)
  have hvl : vs.length = l.length := by rw [pm.length_eq, List.length_map, Array.length_toList]; exact hsz
  have hst : ∀ v ∈ vs, ∃ k tk, v = Value.str k tk ∧ k ∈ l := fun v hv => by
    obtain ⟨e, he, q⟩ := List.mem_map.mp (pm.mem_iff.mp hv)
    obtain ⟨⟨k, h1, _⟩, _⟩ := F.el e he
    obtain ⟨tk, h2⟩ := Value.isStrOf_shape h1
    exact ⟨k, tk, by rw [← q]; exact h2, (F.mem k).mpr ⟨e, he, h1⟩⟩
  have hI : StrsAre vs (vs.map strOf) := strs_of vs fun v hv => let ⟨k, tk, e, _⟩ := hst v hv; ⟨k, tk, e⟩
  have pk : (vs.map strOf).Perm l := by
    refine (perm_of_sub l (vs.map strOf) nd (fun x hx => ?_) (by rw [List.length_map, hvl])).symm
    obtain ⟨e, he, h1⟩ := (F.mem x).mp hx
    obtain ⟨tk, h2⟩ := Value.isStrOf_shape h1
    exact List.mem_map.mpr ⟨e.2, pm.mem_iff.mpr (List.mem_map.mpr ⟨e, he, rfl⟩), by rw [h2]; rfl⟩
  have hline : vs.length ≤ sizeLine := by
    rw [hvl, sizeLine_eq]
    have z : scanBound = 4096 := rfl
    omega
  refine wpAny_bind (wpAny_newList ?_ hline)
  have hoL : (s1.heap.push (seqObj "list" vs.toArray 0)).get? s1.heap.objs.size = some (seqObj "list" vs.toArray 0) := Heap.get?_push_size _ rfl
  refine wpAny_bind (wpAny_holding (wpAny_call_entry slot_list_sort ⟨_, hoL, rfl⟩ entry_list_sort (list_sort_treeKAny strKind_oneLt hoL hI.keysOf (fun v₁ v₂ rest e => keyKind_strs (by rw [← e]; exact hI)) hline fun st' hp hs => ⟨_, rfl, ?_⟩) (args_list_sort _)))
  obtain ⟨ys, a1, a2, a3⟩ := sorted_out_str hI hp hs
  obtain ⟨c, hc⟩ := sortedHeap_at (vs := vs) (out := (arrOf st').map (·.2)) hoL
  refine wpAny_pure ⟨_, rfl, hQ _ s1.heap.objs.size _ c ys (fun b u e => ?_) g1 o1 hz hc a1 a3 (a2.trans pk)⟩
  have q := k1 b u e
  have hlt := Heap.lt_size q
  show (sortedHeap (s1.heap.push (seqObj "list" vs.toArray 0)) s1.heap.objs.size vs _).get? b = some u
  rw [sortedHeap_old (Nat.ne_of_lt hlt) (by rw [size_push']; exact Nat.lt_succ_of_lt hlt)]
  exact Heap.get?_push_of_some _ q
end

/-! ### over the layer -/
def SetV (P : Program) (w : World) (a : Addr) (l : List Str) : HO := .ext fun h => SetX P w h a l
section
variable {X : Cx}
theorem setV_new {P : Program} {w : World} {H : Hp} {h : Heap} {a : Addr} {l : List Str} (R : SetX P w h a l) : ObjOk P w H h a (SetV P w a l) := by
  have ⟨o, ho, _⟩ := R
  exact ⟨R, ⟨_, ho⟩, fun h1 h2 p k => SetX.at p k⟩
/-- set(xs), xs a list or a tuple of texts -/
def rSetX (K : PySem.W.Frag) (P : Program) (w : World) : List V → Hp → VK → Prop := fun vs H Q => ∃ (a : Addr) (xs : List Str), vs = [V.ref a] ∧ (SqL K H a (xs.map V.str) ∨ SqT K H a (xs.map V.str)) ∧ xs.length < 4000 ∧
  ∀ p ys, H p = none → (∀ x, x ∈ ys ↔ x ∈ xs) → ys.Nodup → ys.length ≤ xs.length → Q (.ref p) (upd H p (SetV P w p ys))
theorem cr_setX (hc : X.calm = true) : CallR X (.type "set") (rSetX X.K X.prog X.w) := by
  intro pins s σ H vs us Q I r h
  obtain ⟨a, xs, rfl, hs, hlen, q⟩ := h
  rw [Vals.ref1 r]
  have hn : H s.heap.objs.size = none := I.hok.fresh (Nat.le_refl _)
  have hz : xs.length + 1 < scanBound := by
    have z : scanBound = 4096 := rfl
    omega
  obtain ⟨its, rv, pl⟩ : ∃ its : List Value, Vals (xs.map V.str) its ∧ (s.heap.IsList a its.toArray ∨ s.heap.IsTuple a its.toArray) := by
    rcases hs with hs | hs
    · obtain ⟨its, rv, pl, _⟩ := I.list hs
      exact ⟨its, rv, .inl pl.isList⟩
    · obtain ⟨its, rv, pl, _⟩ := I.tuple hs
      exact ⟨its, rv, .inr pl⟩
  refine call_set (P := X.prog) (w := X.w) (I.ok.hd hc) pl (by simpa using rv.strs) hz fun h' tk ys R hm hl k => ?_
  have nd : ys.Nodup := by
    obtain ⟨_, _, _, z, _⟩ := R
    exact z
  exact ⟨.ref s.heap.objs.size, upd H s.heap.objs.size (SetV X.prog X.w s.heap.objs.size ys), I.laid (t' := tk) k (Nat.le_refl _) (setV_new R), rfl, q _ ys hn hm nd hl⟩
/-- sorted(a set of texts) -/
def rSortX (P : Program) (w : World) : List V → Hp → VK → Prop := fun vs H Q => ∃ (a : Addr) (l : List Str), vs = [V.ref a] ∧ H a = some (SetV P w a l) ∧ l.length < 4000 ∧
  ∀ ys p, ys.Perm l → sortedS ys = true → H p = none → Q (.ref p) (upd H p (.lst (ys.map V.str)))
theorem cr_sortX (hc : X.calm = true) : CallR X (.builtin "sorted") (rSortX X.prog X.w) := by
  intro pins s σ H vs us Q I r h
  obtain ⟨a, l, rfl, ha, hlen, q⟩ := h
  have R : SetX X.prog X.w s.heap a l := (I.hok a _ ha).1
  rw [Vals.ref1 r]
  have hz : l.length + 1 < scanBound := by
    have z : scanBound = 4096 := rfl
    omega
  refine sorted_setX R (I.ok.hd hc) hz fun s' p out c ys k g o hp hg hi hs pm => ?_
  have hl2 : (ys.map V.str).length ≤ sizeLine := by
    rw [List.length_map, pm.length_eq, sizeLine_eq]
    omega
  have hn : H p = none := I.hok.fresh hp
  have J : Inv X pins σ (upd H p (.lst (ys.map V.str))) { s with heap := s'.heap, gens := s'.gens, drawn := s'.drawn, toks := s'.toks } :=
    I.call (ch := []) (Un.laid k hp hn) (I.hok.laid k hp ⟨hl2, out.toList, c, vals_of_strs hi, hg⟩) (by rw [g]; exact I.bare) (fun _ z => nomatch z)
  have e : s' = { s with heap := s'.heap, gens := s'.gens, drawn := s'.drawn, toks := s'.toks } := by
    cases s'
    cases s
    cases o
    rfl
  rw [e]
  exact ⟨.ref p, _, J, rfl, q ys p pm hs hn⟩
end
end Sx
/-! Calls of the module's own defs by their promises, walks over a list or a tuple, data that stays. -/
namespace Bx
open PySem PySem.Spec PyProof.Rows L2 TL

/-- the module's name x holds a def that keeps sp, by at most level k -/
structure Cal (P : Program) (w : World) (K : PySem.W.Frag) (mg : Str → Option Value) (base : Heap) (x : Str) (k : Nat) (ps : List Str) (sp : Sp) : Prop where
  ex : ∃ (f : Addr) (fd : FuncData), FnOk P w K mg base CX0 k f fd ps sp ∧ mg x = some (.ref f) ∧ PySem.W.keepIn K (.ref f) = true ∧ Binds K fd ps []
/-- the same of a def with a star parameter alone -/
structure CalR (P : Program) (w : World) (K : PySem.W.Frag) (mg : Str → Option Value) (base : Heap) (x : Str) (k : Nat) (sp : Sp) : Prop where
  ex : ∃ f : Addr, FnR P w K mg base CX0 k f sp ∧ mg x = some (.ref f) ∧ PySem.W.keepIn K (.ref f) = true
section
variable {X : Cx} {x : Str} {k : Nat} {ps : List Str} {sp : Sp} {e : Expr} {es : List Expr} {t : TA} {p pos : Pos}
def tCal (sp : Sp) (t : TA) : TE := fun σ H Q => t σ H fun vs H1 => sp vs H1 Q E0
theorem pe_cal (c : Cal X.prog X.w X.K X.mg X.base x k ps sp) (hr : Room k X.A) (ha : PA X (e :: es) t) (hg : Gl X x := by rfl) (hdb : (x == ("__debug__" : Str)) = false := by decide)
    (he : starEach (e :: es) X.env = (false, eval e X.env) :: starEach es X.env := by rfl) (hpl : (backTo pos (starEach es X.env)).any (·.1) = false := by rfl) : PE X (.Call (.Name x p) (e :: es) [] pos) (tCal sp t) := by
  obtain ⟨f, fd, ok, g, kp, b⟩ := c.ex
  have z := pe_call (E := E0) ok hr hg g kp b .nil pass0 ha hdb he hpl (p := p)
  refine ⟨fun pins s σ H Q I h => z.run pins s σ H Q I ?_⟩
  unfold tCall
  simp only [List.append_nil]
  exact h
theorem pe_cal0 (c : Cal X.prog X.w X.K X.mg X.base x k ps sp) (hr : Room k X.A) (hg : Gl X x := by rfl) (hdb : (x == ("__debug__" : Str)) = false := by decide) : PE X (.Call (.Name x p) [] [] pos) (tCal sp tNil) := by
  obtain ⟨f, fd, ok, g, kp, b⟩ := c.ex
  have z := pe_call0 (E := E0) (pos := pos) ok hr hg g kp b .nil pass0 hdb (p := p)
  refine ⟨fun pins s σ H Q I h => z.run pins s σ H Q I ?_⟩
  exact h
theorem pe_calR (c : CalR X.prog X.w X.K X.mg X.base x k sp) (hr : Room k X.A) (ha : PA X (e :: es) t) (hg : Gl X x := by rfl) (hdb : (x == ("__debug__" : Str)) = false := by decide)
    (he : starEach (e :: es) X.env = (false, eval e X.env) :: starEach es X.env := by rfl) (hpl : (backTo pos (starEach es X.env)).any (·.1) = false := by rfl) : PE X (.Call (.Name x p) (e :: es) [] pos) (tCal sp t) := by
  obtain ⟨f, ok, g, kp⟩ := c.ex
  refine ⟨fun pins s σ H Q I h => ?_⟩
  refine wpAny_Call_Name_kw (ld_glob I hg g ?_ hdb)
  refine PySem.W.callWith_K (h₀ := X.base) I.ok.mod.kin kp (thn (ha.run pos pins s σ H _ I h) fun us s1 ⟨vs, H1, I1, r, q⟩ => ⟨I1.kIn, ?_⟩) he hpl
  exact wpAny_call (run_fnR ok hr pass0 I1 r q)
theorem pe_calR0 (c : CalR X.prog X.w X.K X.mg X.base x k sp) (hr : Room k X.A) (hg : Gl X x := by rfl) (hdb : (x == ("__debug__" : Str)) = false := by decide) : PE X (.Call (.Name x p) [] [] pos) (tCal sp tNil) := by
  obtain ⟨f, ok, g, kp⟩ := c.ex
  refine ⟨fun pins s σ H Q I h => ?_⟩
  refine wpAny_Call_Name_kw (ld_glob I hg g ?_ hdb)
  exact PySem.W.callWith_K0 I.kIn kp (wpAny_call (run_fnR ok hr pass0 I .nil h))

/-- x(*y) -/
theorem pe_calS {te : TE} {sp_ : Pos} (c : CalR X.prog X.w X.K X.mg X.base x k sp) (hr : Room k X.A) (he : PE X e te) (hg : Gl X x := by rfl) (hdb : (x == ("__debug__" : Str)) = false := by decide) (hst : starEach [.Starred e sp_] X.env = [(true, eval e X.env)] := by rfl) :
    PE X (.Call (.Name x p) [.Starred e sp_] [] pos) (fun σ H Q => te σ H fun y H1 => ∃ a xs, y = V.ref a ∧ (SqT X.K H1 a xs ∨ SqL X.K H1 a xs) ∧ sp xs H1 Q E0) := by
  obtain ⟨f, ok, g, kp⟩ := c.ex
  exact StX.pe_callS1 ok hr kp hg g pass0 he hdb hst

/-- a walk over a list or a tuple -/
def SeqCase (K : PySem.W.Frag) (a : Addr) (H : Hp) (R : It → Hp → Prop) : Prop := ((∃ xs, SqL K H a xs) ∧ R (Itl K a) H) ∨ ((∃ xs, SqT K H a xs) ∧ R (Itt K a) H)
def iSeq (K : PySem.W.Frag) (tl : TE) : TI := fun σ H R => tl σ H fun x H1 => ∃ a, x = .ref a ∧ SeqCase K a H1 R
theorem pi_seq {tg l : Expr} {tl : TE} (hl : PE X l tl) : PI X tg l (iSeq X.K tl) := by
  refine ⟨fun pins s σ H R I h => ?_⟩
  refine thn (hl.run pins s σ H _ I h) fun v s1 ⟨x, H1, I1, r1, q1⟩ => ?_
  obtain ⟨a, e, q1⟩ := q1
  subst e
  cases r1
  rcases q1 with ⟨⟨xs, hq⟩, q⟩ | ⟨⟨xs, hq⟩, q⟩
  · obtain ⟨its, rv, p, hz⟩ := I1.list hq
    refine wpAny_pyIter_list p.isList ?_
    exact pi_one (tk := s1.toks) I1 _ (turn_list a _) ⟨_, Heap.get?_push_size _ rfl, rfl, rfl⟩ q
  · obtain ⟨its, rv, p, hz⟩ := I1.tuple hq
    refine wpAny_pyIter_tuple (show s1.heap.IsTuple a its.toArray from p) ?_
    exact pi_one (tk := s1.toks) I1 _ (turn_tuple a _) ⟨_, Heap.get?_push_size _ rfl, rfl, rfl⟩ q
end

/-! ### rules with the written part named (within a block) -/
section
variable {X : Cx} {K : PySem.W.Frag}
theorem ix_listK (h : X.K = K) : IxR X (rIxL K) := h ▸ ix_list
theorem ix_tupK (h : X.K = K) : IxR X (rIxT K) := h ▸ ix_tup
theorem op_in_seqK (h : X.K = K) : OpR X (compareOp .In) (rIn K false) := h ▸ op_in_seq
theorem call_list_ofK (h : X.K = K) : CallR X (.type "list") (fun xs H Q => ∃ p ys, xs = [.ref p] ∧ (SqL K H p ys ∨ SqT K H p ys) ∧ ∀ l, H l = none → Q (.ref l) (upd H l (.lst ys))) := by
  subst h
  exact call_list_of
theorem call_tuple_ofK (h : X.K = K) : CallR X (.type "tuple") (fun xs H Q => ∃ p ys, xs = [.ref p] ∧ ((SqL K H p ys ∧ ∀ l, H l = none → Q (.ref l) (upd H l (.tup ys))) ∨ (SqT K H p ys ∧ Q (.ref p) H))) := by
  subst h
  exact call_tuple_of
theorem call_len_seqK (h : X.K = K) : CallR X (.builtin "len") (fun xs H Q => ∃ p ys, xs = [.ref p] ∧ (SqL K H p ys ∨ SqT K H p ys) ∧ Q (.int ys.length) H) := by
  subst h
  exact call_len_seq
theorem cr_allK (h : X.K = K) (hc : X.calm = true) : CallR X (.builtin "all") (rAll K) := by
  subst h
  exact cr_all hc
theorem pg_tupK {es : List Expr} {k : Nat} {t : TGs} {n : Nat} {pos : Pos} (h : X.K = K) (hc : X.calm = true) (hs : PGs X es t)
    (hn : (assignEach es X.env).length = n := by rfl) (hst : (assignEach es X.env).findIdx? (·.1) = none := by rfl) : PG X (.Tuple es k pos) (gTup K n t) := by
  subst h
  exact pg_tup hc hs hn hst
theorem op_notIn_seqK (h : X.K = K) : OpR X (compareOp .NotIn) (rIn K true) := h ▸ op_notIn_seq
end

/-! ### heaps -/
theorem same_new {H : Hp} {p : Addr} {o : HO} (h : H p = none) : Same H (upd H p o) := fun b x e => by
  rw [upd_ne (ne_of_none e h)]
  exact e
theorem same_at {H H2 : Hp} {p : Addr} {o : HO} (h : H p = none) (s : Same H H2) : Same H (upd H2 p o) := fun b x e => by
  rw [upd_ne (ne_of_none e h)]
  exact s b x e
theorem Same.tup {K : PySem.W.Frag} {H H' : Hp} {a : Addr} {xs : List V} (e : Same H H') (h : SqT K H a xs) : SqT K H' a xs := by
  rcases h with (h | ⟨o, h⟩) | h
  · exact .inl (.inl (e _ _ h))
  · exact .inl (.inr ⟨o, e _ _ h⟩)
  · exact .inr h
theorem sq {K : PySem.W.Frag} {H : Hp} {a : Addr} {xs : List V} (h : H a = some (.lst xs)) : SqL K H a xs := Or.inl (Or.inl h)
theorem sqt {K : PySem.W.Frag} {H : Hp} {a : Addr} {xs : List V} (h : H a = some (.tup xs)) : SqT K H a xs := Or.inl (Or.inl h)
/-- all that was tracked but a is as it was -/
def SameBut (a : Addr) (H H' : Hp) : Prop := ∀ b o, b ≠ a → H b = some o → H' b = some o
theorem SameBut.refl (a : Addr) (H : Hp) : SameBut a H H := fun _ _ _ h => h
theorem SameBut.trans {a : Addr} {H H1 H2 : Hp} (x : SameBut a H H1) (y : SameBut a H1 H2) : SameBut a H H2 := fun b o n h => y b o n (x b o n h)
theorem Same.but {a : Addr} {H H' : Hp} (x : Same H H') : SameBut a H H' := fun b o _ h => x b o h
theorem SameBut.upd {a : Addr} {H : Hp} {o : HO} : SameBut a H (upd H a o) := fun b x n h => by
  rw [upd_ne n]
  exact h
/-- new objects do not disturb: what was tracked at H, where a was not -/
theorem SameBut.same {a : Addr} {H H1 H2 : Hp} (x : Same H H1) (n : H a = none) (y : SameBut a H1 H2) : Same H H2 := fun b o h => y b o (ne_of_none h n) (x b o h)
theorem sz {n : Nat} (h : n ≤ 100000) : n ≤ sizeLine := Nat.le_trans h (by decide)
theorem szl {n : Nat} (h : n < 100000) : n < sizeLine := Nat.lt_of_lt_of_le h (by decide)
/-- the source of draws at a -/
def Src (H : Hp) (a : Addr) : Prop := ∃ n c : Int, H a = some (.lst [.int n, .int c])

/-! ### data -/
mutual
theorem dp_same {K : PySem.W.Frag} {H H' : Hp} (e : Same H H') : ∀ {v : V} {d : PyData}, Dp K H v d → Dp K H' v d
  | _, _, .non => .non
  | _, _, .bl b => .bl b
  | _, _, .int i => .int i
  | _, _, .str x => .str x
  | _, _, .lst h a => .lst (e.seq h) (dpAll_same e a)
  | _, _, .tup h a => .tup (Bx.Same.tup e h) (dpAll_same e a)
theorem dpAll_same {K : PySem.W.Frag} {H H' : Hp} (e : Same H H') : ∀ {vs : List V} {ds : List PyData}, DpAll K H vs ds → DpAll K H' vs ds
  | _, _, .nil => .nil
  | _, _, .cons h a => .cons (dp_same e h) (dpAll_same e a)
end
theorem dp_strs {K : PySem.W.Frag} {H : Hp} : ∀ ys : List Str, DpAll K H (ys.map V.str) (ys.map PyData.str)
  | [] => .nil
  | y :: ys => .cons (.str y) (dp_strs ys)
theorem dp_ints {K : PySem.W.Frag} {H : Hp} : ∀ ys : List Int, DpAll K H (ys.map V.int) (ys.map PyData.int)
  | [] => .nil
  | y :: ys => .cons (.int y) (dp_ints ys)
theorem dp_map {K : PySem.W.Frag} {H : Hp} {α : Type} {f : α → V} {g : α → PyData} : ∀ {l : List α}, (∀ x ∈ l, Dp K H (f x) (g x)) → DpAll K H (l.map f) (l.map g)
  | [], _ => .nil
  | x :: l, h => .cons (h x List.mem_cons_self) (dp_map fun y hy => h y (List.mem_cons_of_mem _ hy))

/-! ### walks with any body -/
theorem walk_any {J : It} {n : Nat} {G : Hp → Prop} {Y : Nat → Hp → V → Hp → Prop} (w : Walk J n G Y) {Z : Hp → Prop} {B : (Hp → Prop) → V → Hp → Prop} {H0 : Hp} (Pv : Nat → Hp → Prop) (h0 : Pv 0 H0) (hG : ∀ i H, i ≤ n → Pv i H → G H)
    (hs : ∀ i x H H', i < n → Pv i H → Y i H x H' → B (Pv (i + 1)) x H') (hd : ∀ H, Pv n H → Z H) :
    ∃ W : Nat → Nat → Hp → Prop, (∃ m, W 0 m H0) ∧ ∀ i m H, W i m H → (J.stop i H ∧ Z H) ∨ (J.go i H ∧ ∃ Nx : Hp → Prop, (∀ H', Nx H' → ∃ m', m' < m ∧ W (i + 1) m' H') ∧ ∀ x H', J.yld i H x H' → B Nx x H') := by
  refine ⟨fun i m H => m = n - i ∧ i ≤ n ∧ Pv i H, ⟨n, by simp, Nat.zero_le _, h0⟩, ?_⟩
  rintro i m H ⟨rfl, hi, p⟩
  have q := hG i H hi p
  by_cases hlt : i < n
  · exact .inr ⟨w.goes i H hlt q, Pv (i + 1), fun H' p' => ⟨n - (i + 1), by omega, rfl, hlt, p'⟩, fun x H' y => hs i x H H' hlt p (w.yields i H x H' hlt q y)⟩
  · have e : i = n := by omega
    subst e
    exact .inl ⟨w.stops H q, hd H p⟩

/-! ### a def with a star parameter alone -/
theorem okStar {P : Program} {w : World} {K : PySem.W.Frag} {mg : Str → Option Value} {base : Heap} {x qual pn : Str} {st : Stmt} {f : Addr} {fd : FuncData} {N : List Str} {k : Nat} {sp : Sp} (F : Fun K x qual st f fd) (S : FnScope N [pn] (defScope st))
    (hb : ∀ (kV doc pm : Value) (an : Option Addr) (cdv ct : Value) (rest : List Value), bindArgs (PySem.W.fnOf x qual (defArgs st) (defBody st) (defScope st) .none kV doc pm an cdv ct) ⟨rest, []⟩ = (newTuple rest >>= fun t => pure [(pn, t)]))
    (hbody : ∀ (cdv : Value) (A : Around) (outer : List Env) (s : Shared) (H : Hp) (vs : List V) (Q : VK) (E : XK), Room k (A.deeper (envOfC qual (defScope st) s.heap.objs.size f cdv)) → sp vs H Q E →
      ∃ t, PSs (cxOf CX0 P w K mg base N qual (defScope st) f cdv A outer s H E) (defBody st) t ∧ t { nx := fun _ H' => Q .non H', rt := Q } (start N vs) H) :
    FnR P w K mg base CX0 (k + 1) f (fun vs H Q E => vs.length ≤ sizeLine ∧ ∀ p, H p = none → sp [V.ref p] (upd H p (.tup vs)) Q E) := by
  obtain ⟨oc, od, kV, doc, pm, an, cdv, ct, osl, rfl, lk, hcd⟩ := F.ex
  have z := StX.fn_star (P := P) (w := w) (K := K) (mg := mg) (base := base) (CX := CX0) (ps := []) (sp := sp) lk hcd S StX.cxUp_none (fun us rest hl => by
    have e : us = [] := List.length_eq_zero_iff.mp hl
    subst e
    exact hb kV doc pm an cdv ct rest) (hbody cdv)
  exact z.imp fun vs H Q E h => ⟨[], vs, rfl, rfl, h.1, h.2⟩

/-- one parameter ahead of the star -/
theorem okStar1 {P : Program} {w : World} {K : PySem.W.Frag} {mg : Str → Option Value} {base : Heap} {x qual p1 pn : Str} {st : Stmt} {f : Addr} {fd : FuncData} {N : List Str} {k : Nat} {sp : Sp} (F : Fun K x qual st f fd) (S : FnScope N [p1, pn] (defScope st))
    (h0 : ∀ (kV doc pm : Value) (an : Option Addr) (cdv ct a : Value), bindArgs (PySem.W.fnOf x qual (defArgs st) (defBody st) (defScope st) .none kV doc pm an cdv ct) ⟨[a], []⟩ = (newTuple [] >>= fun t => pure [(p1, a), (pn, t)]))
    (h1 : ∀ (kV doc pm : Value) (an : Option Addr) (cdv ct a r : Value) (rs : List Value), bindArgs (PySem.W.fnOf x qual (defArgs st) (defBody st) (defScope st) .none kV doc pm an cdv ct) ⟨a :: r :: rs, []⟩ = (newTuple (r :: rs) >>= fun t => pure [(p1, a), (pn, t)]))
    (hbody : ∀ (cdv : Value) (A : Around) (outer : List Env) (s : Shared) (H : Hp) (vs : List V) (Q : VK) (E : XK), Room k (A.deeper (envOfC qual (defScope st) s.heap.objs.size f cdv)) → sp vs H Q E →
      ∃ t, PSs (cxOf CX0 P w K mg base N qual (defScope st) f cdv A outer s H E) (defBody st) t ∧ t { nx := fun _ H' => Q .non H', rt := Q } (start N vs) H) :
    FnR P w K mg base CX0 (k + 1) f (fun vs H Q E => ∃ v rest, vs = v :: rest ∧ rest.length ≤ sizeLine ∧ ∀ p, H p = none → sp [v, V.ref p] (upd H p (.tup rest)) Q E) := by
  obtain ⟨oc, od, kV, doc, pm, an, cdv, ct, osl, rfl, lk, hcd⟩ := F.ex
  have z := StX.fn_star (P := P) (w := w) (K := K) (mg := mg) (base := base) (CX := CX0) (ps := [p1]) (sp := sp) lk hcd S StX.cxUp_none
    (StX.bind_star1 (B := fun us => bindArgs (PySem.W.fnOf x qual (defArgs st) (defBody st) (defScope st) .none kV doc pm an cdv ct) ⟨us, []⟩) (h0 kV doc pm an cdv ct) (h1 kV doc pm an cdv ct)) (hbody cdv)
  exact z.imp fun vs H Q E ⟨v, rest, e, hl, h⟩ => ⟨[v], rest, e, rfl, hl, h⟩

/-! ### a walk over a list or a tuple, told once -/
theorem seq_case {K : PySem.W.Frag} {H : Hp} {a : Addr} {xs : List V} {R : It → Hp → Prop} (h : SqL K H a xs ∨ SqT K H a xs) (k : ∀ (J : It) (G : Hp → Prop), Walk J xs.length G (YAt xs) → (∀ H', Same H H' → G H') → R J H) : SeqCase K a H R := by
  rcases h with h | h
  · exact .inl ⟨⟨_, h⟩, k _ _ walk_list fun H' s => s.seq h⟩
  · exact .inr ⟨⟨_, h⟩, k _ _ walk_tup fun H' s => Bx.Same.tup s h⟩
theorem at_map {α : Type} {l : List α} {f : α → V} {i : Nat} {x : V} (h : (l.map f)[i]? = some x) : ∃ y, l[i]? = some y ∧ x = f y := by
  rw [List.getElem?_map] at h
  cases e : l[i]? with
  | none =>
    rw [e] at h
    cases h
  | some y =>
    rw [e] at h
    exact ⟨y, rfl, (Option.some.inj h).symm⟩

/-! ### texts in ascending order -/
theorem rising_at : ∀ (p : Str) (r : List Str), risingS p r = true → ∀ (k : Nat) (x y : Str), (p :: r)[k]? = some x → (p :: r)[k + 1]? = some y → ltCps y.cps.toList x.cps.toList = false
  | p, [], _, k, x, y, _, h2 => by
    simp at h2
  | p, q :: r, h, k, x, y, h1, h2 => by
    have h3 : (!ltCps q.cps.toList p.cps.toList && risingS q r) = true := h
    rw [Bool.and_eq_true] at h3
    cases k with
    | zero =>
      have e1 : p = x := Option.some.inj h1
      have e2 : q = y := Option.some.inj h2
      rw [← e1, ← e2]
      simpa using h3.1
    | succ k => exact rising_at q r h3.2 k x y h1 h2
theorem sorted_at {l : List Str} (h : sortedS l = true) (nd : l.Nodup) {k : Nat} {x y : Str} (h1 : l[k]? = some x) (h2 : l[k + 1]? = some y) : x.cps.toList < y.cps.toList := by
  cases l with
  | nil => cases h1
  | cons p r =>
    have a := rising_at p r h k x y h1 h2
    rw [ltCps_eq] at a
    refine Std.lt_of_le_of_ne (of_decide_eq_false a) fun e => ?_
    have e2 : x = y := ext_tl e
    obtain ⟨i1, e3⟩ := List.getElem?_eq_some_iff.mp h1
    obtain ⟨i2, e4⟩ := List.getElem?_eq_some_iff.mp h2
    have z := List.pairwise_iff_getElem.mp nd k (k + 1) i1 i2 (Nat.lt_succ_self k)
    exact z (e3.trans (e2.trans e4.symm))

/-! ### membership of texts -/
theorem inV_str (x : Str) (ys : List Str) : inV (.str x) (ys.map V.str) = decide (x ∈ ys) := by
  unfold inV
  rw [List.any_map]
  induction ys with
  | nil => rfl
  | cons y ys ih =>
    rw [List.any_cons, ih]
    show ((y == x) || _) = _
    by_cases e : y = x
    · subst e
      simp
    · have e2 : (y == x) = false := by simpa using e
      rw [e2, Bool.false_or]
      by_cases h : x ∈ ys
      · rw [decide_eq_true h, decide_eq_true (List.mem_cons_of_mem _ h)]
      · rw [decide_eq_false h, decide_eq_false (fun z => (List.mem_cons.mp z).elim (fun z => e z.symm) h)]
theorem flat_all (ys : List Str) : (ys.map V.str).all flatV = true := by
  rw [List.all_map, List.all_eq_true]
  intro y _
  rfl
theorem lay_strs : ∀ ys : List Str, (∀ y ∈ ys, PyData.strOk y = true) → PyData.canLayAll0 (ys.map PyData.str) = true ∧ PyData.depthAll (ys.map PyData.str) ≤ 1
  | [], _ => ⟨rfl, by decide⟩
  | y :: ys, h => by
    obtain ⟨a, b⟩ := lay_strs ys fun z hz => h z (List.mem_cons_of_mem _ hz)
    constructor
    · show (PyData.strOk y && PyData.canLayAll0 (ys.map PyData.str)) = true
      rw [a, h y List.mem_cons_self]
      rfl
    · show max (PyData.depth (.str y)) (PyData.depthAll (ys.map PyData.str)) ≤ 1
      exact Nat.max_le.mpr ⟨by first | exact Nat.zero_le _ | decide | exact Nat.le_refl _, b⟩
theorem lay_lists : ∀ L : List (List Str), (∀ ys ∈ L, ∀ y ∈ ys, PyData.strOk y = true) → PyData.canLayAll0 (L.map fun ys => PyData.list (ys.map PyData.str)) = true ∧ PyData.depthAll (L.map fun ys => PyData.list (ys.map PyData.str)) ≤ 2
  | [], _ => ⟨rfl, by decide⟩
  | ys :: L, h => by
    obtain ⟨a, b⟩ := lay_lists L fun z hz => h z (List.mem_cons_of_mem _ hz)
    obtain ⟨c, d⟩ := lay_strs ys (h ys List.mem_cons_self)
    constructor
    · show (PyData.canLayAll0 (ys.map PyData.str) && PyData.canLayAll0 (L.map fun ys => PyData.list (ys.map PyData.str))) = true
      rw [a, c]
      rfl
    · show max (PyData.depthAll (ys.map PyData.str) + 1) (PyData.depthAll (L.map fun ys => PyData.list (ys.map PyData.str))) ≤ 2
      exact Nat.max_le.mpr ⟨by omega, b⟩

/-! ### signs of a written text -/
theorem pick {L : Str} {r : Int} (h0 : 0 ≤ r) (h1 : r < (tl L).length) : ∃ c, atI L.cps.toList r = some c ∧ c ∈ tl L := by
  obtain ⟨n, rfl⟩ := Int.eq_ofNat_of_zero_le h0
  have hn : n < (tl L).length := by omega
  exact ⟨(tl L)[n], atI_nat (List.getElem?_eq_getElem hn), List.getElem_mem hn⟩
end Bx
/-! Data that stands in the heap, beside objects that change; rules told of data. -/
namespace Dx
open PySem PySem.Spec PyProof.Rows L2 Bx TL

/-! ### the heap without some addresses -/
def mn (H : Hp) (S : List Addr) : Hp := fun b => if b ∈ S then none else H b
theorem mn_in {H : Hp} {S : List Addr} {b : Addr} (h : b ∈ S) : mn H S b = none := if_pos h
theorem mn_out {H : Hp} {S : List Addr} {b : Addr} (h : b ∉ S) : mn H S b = H b := if_neg h
theorem mn_same {H : Hp} {S : List Addr} : Same (mn H S) H := fun b o e => by
  by_cases h : b ∈ S
  · rw [mn_in h] at e
    cases e
  · rw [mn_out h] at e
    exact e
theorem mn_nil {H : Hp} : mn H [] = H := funext fun b => mn_out (by simp)
theorem mn_sub {H : Hp} {S T : List Addr} (h : ∀ b, b ∈ S → b ∈ T) : Same (mn H T) (mn H S) := fun b o e => by
  by_cases h1 : b ∈ T
  · rw [mn_in h1] at e
    cases e
  · rw [mn_out h1] at e
    rw [mn_out fun z => h1 (h b z)]
    exact e
theorem mn_upd {H : Hp} {S : List Addr} {a : Addr} {o : HO} (h : a ∈ S) : mn (upd H a o) S = mn H S := funext fun b => by
  by_cases h1 : b ∈ S
  · rw [mn_in h1, mn_in h1]
  · rw [mn_out h1, mn_out h1, upd_ne (show b ≠ a from fun z => h1 (by rw [z]; exact h))]
theorem mn_new {H : Hp} {S : List Addr} {p : Addr} {o : HO} (h : H p = none) : Same (mn H S) (mn (upd H p o) S) := fun b u e => by
  by_cases h1 : b ∈ S
  · rw [mn_in h1] at e
    cases e
  · rw [mn_out h1] at e ⊢
    rw [upd_ne (ne_of_none e h)]
    exact e
theorem mn_but {H H' : Hp} {S : List Addr} {a : Addr} (h : a ∈ S) (s : SameBut a H H') : Same (mn H S) (mn H' S) := fun b u e => by
  by_cases h1 : b ∈ S
  · rw [mn_in h1] at e
    cases e
  · rw [mn_out h1] at e ⊢
    exact s b u (fun z => h1 (z ▸ h)) e
theorem mn_all {H H' : Hp} {S : List Addr} (s : Same H H') : Same (mn H S) (mn H' S) := fun b u e => by
  by_cases h1 : b ∈ S
  · rw [mn_in h1] at e
    cases e
  · rw [mn_out h1] at e ⊢
    exact s b u e
theorem mn_to {H H' : Hp} {S T : List Addr} (h : ∀ b, b ∈ S → b ∈ T) (s : Same (mn H S) (mn H' S)) : Same (mn H T) (mn H' T) := fun b u e => by
  by_cases h1 : b ∈ T
  · rw [mn_in h1] at e
    cases e
  · rw [mn_out h1] at e ⊢
    have z := s b u (by rw [mn_out fun z => h1 (h b z)]; exact e)
    rw [mn_out fun z => h1 (h b z)] at z
    exact z
/-- what is tracked beside S was there, or is new -/
theorem mn_at {H : Hp} {S : List Addr} {b : Addr} {o : HO} (h : b ∉ S) (e : H b = some o) : mn H S b = some o := by
  rw [mn_out h]
  exact e
theorem mn_keep {H H' : Hp} {S : List Addr} (s : Same (mn H S) (mn H' S)) {b : Addr} {o : HO} (h : b ∉ S) (e : H b = some o) : H' b = some o := mn_same _ _ (s _ _ (mn_at h e))
theorem mn_free {H H' : Hp} {S : List Addr} (s : Same (mn H S) (mn H' S)) {b : Addr} (h : b ∉ S) (e : H' b = none) : H b = none := by
  cases z : H b with
  | none => rfl
  | some o =>
    rw [mn_keep s h z] at e
    cases e

/-! ### data -/
section
variable {K : PySem.W.Frag} {H : Hp}
theorem dp_lst {v : V} {ds : List PyData} (h : Dp K H v (.list ds)) : ∃ a xs, v = .ref a ∧ SqL K H a xs ∧ DpAll K H xs ds := by
  cases h with
  | lst s a => exact ⟨_, _, rfl, s, a⟩
theorem dp_tup {v : V} {ds : List PyData} (h : Dp K H v (.tuple ds)) : ∃ a xs, v = .ref a ∧ SqT K H a xs ∧ DpAll K H xs ds := by
  cases h with
  | tup s a => exact ⟨_, _, rfl, s, a⟩
theorem dp_str {v : V} {s : Str} (h : Dp K H v (.str s)) : v = .str s := by cases h; rfl
theorem dp_int {v : V} {i : Int} (h : Dp K H v (.int i)) : v = .int i := by cases h; rfl
theorem da_len : ∀ {xs : List V} {ds : List PyData}, DpAll K H xs ds → xs.length = ds.length
  | _, _, .nil => rfl
  | _, _, .cons _ t => congrArg (· + 1) (da_len t)
theorem da_get : ∀ {xs : List V} {ds : List PyData}, DpAll K H xs ds → ∀ {i : Nat} {d : PyData}, ds[i]? = some d → ∃ v, xs[i]? = some v ∧ Dp K H v d
  | _, _, .nil, i, d, e => by cases e
  | _, _, .cons h t, 0, d, e => by
    cases e
    exact ⟨_, rfl, h⟩
  | _, _, .cons h t, i + 1, d, e => da_get t e
theorem da_at : ∀ {xs : List V} {ds : List PyData}, DpAll K H xs ds → ∀ {i : Nat} {v : V}, xs[i]? = some v → ∃ d, ds[i]? = some d ∧ Dp K H v d
  | _, _, .nil, i, d, e => by cases e
  | _, _, .cons h t, 0, d, e => by
    cases e
    exact ⟨_, rfl, h⟩
  | _, _, .cons h t, i + 1, d, e => da_at t e
theorem da_app : ∀ {xs ys : List V} {ds es : List PyData}, DpAll K H xs ds → DpAll K H ys es → DpAll K H (xs ++ ys) (ds ++ es)
  | _, _, _, _, .nil, h => h
  | _, _, _, _, .cons h t, k => .cons h (da_app t k)
theorem da_one {v : V} {d : PyData} (h : Dp K H v d) : DpAll K H [v] [d] := .cons h .nil
theorem da_strs : ∀ {xs : List V} {ns : List Str}, DpAll K H xs (ns.map PyData.str) → xs = ns.map V.str
  | [], [], _ => rfl
  | [], _ :: _, h => by cases h
  | _ :: _, [], h => by cases h
  | x :: xs, n :: ns, h => by
    cases h with
    | cons h t =>
      rw [dp_str h, da_strs t]
      rfl
theorem da_ints : ∀ {xs : List V} {ns : List Int}, DpAll K H xs (ns.map PyData.int) → xs = ns.map V.int
  | [], [], _ => rfl
  | [], _ :: _, h => by cases h
  | _ :: _, [], h => by cases h
  | x :: xs, n :: ns, h => by
    cases h with
    | cons h t =>
      rw [dp_int h, da_ints t]
      rfl
theorem da_take : ∀ {xs : List V} {ds : List PyData}, DpAll K H xs ds → ∀ n, DpAll K H (xs.take n) (ds.take n)
  | _, _, .nil, n => by
    rw [List.take_nil, List.take_nil]
    exact .nil
  | _, _, .cons h t, 0 => .nil
  | _, _, .cons h t, n + 1 => .cons h (da_take t n)
/-- the strs of a tuple of texts -/
theorem dp_names {v : V} {ns : List Str} (h : Dp K H v (.tuple (ns.map PyData.str))) : ∃ a, v = .ref a ∧ SqT K H a (ns.map V.str) := by
  obtain ⟨a, xs, rfl, s, t⟩ := dp_tup h
  rw [da_strs t] at s
  exact ⟨a, rfl, s⟩
theorem dp_namesL {v : V} {ns : List Str} (h : Dp K H v (.list (ns.map PyData.str))) : ∃ a, v = .ref a ∧ SqL K H a (ns.map V.str) := by
  obtain ⟨a, xs, rfl, s, t⟩ := dp_lst h
  rw [da_strs t] at s
  exact ⟨a, rfl, s⟩
theorem names_dp {a : Addr} {ns : List Str} (h : SqT K H a (ns.map V.str)) : Dp K H (.ref a) (.tuple (ns.map PyData.str)) := .tup h (dp_strs ns)
theorem namesL_dp {a : Addr} {ns : List Str} (h : SqL K H a (ns.map V.str)) : Dp K H (.ref a) (.list (ns.map PyData.str)) := .lst h (dp_strs ns)
end

/-! ### what may be compared: no dicts, not too deep -/
def Lay (n : Nat) (d : PyData) : Prop := d.canLay0 = true ∧ d.depth ≤ n
def Lays (n : Nat) (ds : List PyData) : Prop := PyData.canLayAll0 ds = true ∧ PyData.depthAll ds ≤ n
theorem lays_nil {n : Nat} : Lays n [] := ⟨rfl, Nat.zero_le _⟩
theorem lays_cons {n : Nat} {d : PyData} {ds : List PyData} (h : Lay n d) (t : Lays n ds) : Lays n (d :: ds) := by
  constructor
  · show (d.canLay0 && PyData.canLayAll0 ds) = true
    rw [h.1, t.1]
    rfl
  · show max d.depth (PyData.depthAll ds) ≤ n
    exact Nat.max_le.mpr ⟨h.2, t.2⟩
theorem lays_of {n : Nat} : ∀ {ds : List PyData}, (∀ d ∈ ds, Lay n d) → Lays n ds
  | [], _ => lays_nil
  | d :: ds, h => lays_cons (h d List.mem_cons_self) (lays_of fun x hx => h x (List.mem_cons_of_mem _ hx))
theorem lay_tuple {n : Nat} {ds : List PyData} (h : Lays n ds) : Lay (n + 1) (.tuple ds) := ⟨h.1, Nat.succ_le_succ h.2⟩
theorem lay_list {n : Nat} {ds : List PyData} (h : Lays n ds) : Lay (n + 1) (.list ds) := ⟨h.1, Nat.succ_le_succ h.2⟩
theorem lay_int {n : Nat} {i : Int} : Lay n (.int i) := ⟨rfl, Nat.zero_le _⟩
theorem lay_str {n : Nat} {s : Str} (h : PyData.strOk s = true) : Lay n (.str s) := ⟨h, Nat.zero_le _⟩
theorem lay_up {m n : Nat} {d : PyData} (h : Lay m d) (k : m ≤ n) : Lay n d := ⟨h.1, Nat.le_trans h.2 k⟩
theorem lays_up {m n : Nat} {ds : List PyData} (h : Lays m ds) (k : m ≤ n) : Lays n ds := ⟨h.1, Nat.le_trans h.2 k⟩
theorem lays_mem {n : Nat} : ∀ {ds : List PyData}, Lays n ds → ∀ d ∈ ds, Lay n d
  | d :: ds, h, x, hx => by
    have h1 : (d.canLay0 && PyData.canLayAll0 ds) = true := h.1
    have h2 : max d.depth (PyData.depthAll ds) ≤ n := h.2
    rw [Bool.and_eq_true] at h1
    rw [Nat.max_le] at h2
    rcases List.mem_cons.mp hx with e | e
    · rw [e]
      exact ⟨h1.1, h2.1⟩
    · exact lays_mem ⟨h1.2, h2.2⟩ x e
theorem lays_strs {n : Nat} {ns : List Str} (h : ∀ s ∈ ns, PyData.strOk s = true) : Lays n (ns.map PyData.str) := lays_of fun d hd => by
  obtain ⟨s, hs, rfl⟩ := List.mem_map.mp hd
  exact lay_str (h s hs)
theorem lays_ints {n : Nat} {ns : List Int} : Lays n (ns.map PyData.int) := lays_of fun d hd => by
  obtain ⟨s, _, rfl⟩ := List.mem_map.mp hd
  exact lay_int
theorem shape {n : Nat} {d : PyData} (h : Lay n d) (k : n ≤ 64) : SeqAt.shaped d = true := by
  unfold SeqAt.shaped
  rw [Bool.and_eq_true]
  exact ⟨h.1, decide_eq_true (Nat.le_trans h.2 k)⟩
theorem eq_refl {n : Nat} {d : PyData} (h : Lay n d) : PyData.eqv d d = true := SeqAt.eqv_refl d h.1

/-! ### strict order of lists of texts, and equal lists -/
def Asc (l : List Str) : Prop := l.Pairwise fun x y => x.cps.toList < y.cps.toList
theorem asc_of : ∀ {l : List Str}, sortedS l = true → l.Nodup → Asc l := by
  intro l h nd
  have key : ∀ (d i : Nat) (x y : Str), l[i]? = some x → l[i + (d + 1)]? = some y → x.cps.toList < y.cps.toList := by
    intro d
    induction d with
    | zero => exact fun i x y h1 h2 => sorted_at h nd h1 h2
    | succ d ih =>
      intro i x y h1 h2
      have hl : i + (d + 1) < l.length := by
        have := (List.getElem?_eq_some_iff.mp h2).1
        omega
      have h3 : l[i + (d + 1)]? = some l[i + (d + 1)] := List.getElem?_eq_getElem hl
      exact List.lt_trans (ih i x _ h1 h3) (sorted_at h nd h3 h2)
  refine List.pairwise_iff_getElem.mpr fun i j hi hj hij => ?_
  exact key (j - i - 1) i _ _ (List.getElem?_eq_getElem hi) (by rw [show i + (j - i - 1 + 1) = j by omega]; exact List.getElem?_eq_getElem hj)
theorem asc_nodup {l : List Str} (h : Asc l) : l.Nodup := List.Pairwise.imp (fun {x y} hxy e => by
  rw [e] at hxy
  exact List.lt_irrefl _ hxy) h
theorem asc_eq : ∀ {l m : List Str}, Asc l → Asc m → (∀ x, x ∈ l ↔ x ∈ m) → l = m
  | [], [], _, _, _ => rfl
  | [], y :: m, _, _, h => absurd ((h y).mpr List.mem_cons_self) (by simp)
  | x :: l, [], _, _, h => absurd ((h x).mp List.mem_cons_self) (by simp)
  | x :: l, y :: m, h1, h2, h => by
    obtain ⟨a1, a2⟩ := List.pairwise_cons.mp h1
    obtain ⟨b1, b2⟩ := List.pairwise_cons.mp h2
    have e : x = y := by
      rcases List.mem_cons.mp ((h x).mp List.mem_cons_self) with e | e
      · exact e
      · rcases List.mem_cons.mp ((h y).mpr List.mem_cons_self) with e' | e'
        · exact e'.symm
        · exact absurd (List.lt_trans (a1 y e') (b1 x e)) (List.lt_irrefl _)
    subst e
    have nl : x ∉ l := fun z => List.lt_irrefl _ (a1 x z)
    have nm : x ∉ m := fun z => List.lt_irrefl _ (b1 x z)
    rw [asc_eq a2 b2 fun z => ⟨fun hz => (List.mem_cons.mp ((h z).mp (List.mem_cons_of_mem _ hz))).resolve_left fun e => nl (e ▸ hz), fun hz => (List.mem_cons.mp ((h z).mpr (List.mem_cons_of_mem _ hz))).resolve_left fun e => nm (e ▸ hz)⟩]

/-! ### sorted(xs), xs tuples of ints of one length: some order -/
def rSortRows (K : PySem.W.Frag) : List V → Hp → VK → Prop := fun vs H Q => ∃ (a : Addr) (xs : List V) (d : Nat) (B : Int), vs = [V.ref a] ∧ SqL K H a xs ∧ xs.length < 64 ∧ (∀ x ∈ xs, ∃ ns, TupI K H x ns ∧ ns.length = d ∧ TS.Bd B ns) ∧ (d = 0 → xs.length ≤ 1) ∧
  ∀ (ys : List V) (p : Addr), ys.Perm xs → H p = none → Q (.ref p) (upd H p (.lst ys))
theorem cr_sortRows {X : Cx} : CallR X (.builtin "sorted") (rSortRows X.K) := by
  intro pins s σ H vs us Q I r h
  obtain ⟨a, xs, d, B, rfl, hs, h64, hx, h1, q⟩ := h
  by_cases hd : 1 ≤ d
  · exact cr_sortT hd pins s σ H _ us Q I r ⟨a, xs, rfl, hs, h64, hx, fun ys p pm _ n => q ys p pm n⟩
  · have hl1 : xs.length ≤ 1 := h1 (by omega)
    obtain ⟨its, rv, hl, hz⟩ := I.list hs
    have hlen := rv.length
    rw [Vals.ref1 r]
    refine Srt.sorted_any hl.isList (by rw [← hlen]; exact hz) (fun h2 => absurd h2 (by omega)) fun out hp => ?_
    have e : out = its := by
      match its, hlen, hp with
      | [], _, hp => exact hp.eq_nil
      | [v], _, hp => exact List.perm_singleton.mp hp
      | _ :: _ :: _, hlen, _ =>
        simp only [List.length_cons] at hlen
        omega
    subst e
    obtain ⟨ep, he'⟩ := PyProof.Rows.sortedAll_at s.heap out out.toArray
    exact ⟨.ref _, upd H (s.heap.objs.size + 1) (.lst xs), I.laid (t' := s.toks) (fun _ _ => PyProof.Rows.sortedAll_old) (Nat.le_succ _) ⟨hz, out, ep, rv, by simpa using he'⟩, rfl, q xs _ (List.Perm.refl _) (I.hok.fresh (Nat.le_succ _))⟩

/-! ### the room of a call for a comparison of data -/
theorem room {k : Nat} {A : Around} (r : Room k A) : A.units + 65 < cLine := by
  have := r.un
  omega

/-! ### a list or a tuple of data -/
theorem dp_seq {K : PySem.W.Frag} {H : Hp} {v : V} {ds : List PyData} (h : Dp K H v (.list ds) ∨ Dp K H v (.tuple ds)) : ∃ a xs, v = .ref a ∧ DpAll K H xs ds ∧ (SqL K H a xs ∨ SqT K H a xs) := by
  rcases h with h | h
  · obtain ⟨a, xs, rfl, s, t⟩ := dp_lst h
    exact ⟨a, xs, rfl, t, .inl s⟩
  · obtain ⟨a, xs, rfl, s, t⟩ := dp_tup h
    exact ⟨a, xs, rfl, t, .inr s⟩

/-! ### name = {k: v for ..} -/
section
variable {X : Cx}
theorem ps_setDc {i : Nat} {y : Str} {py : Pos} {kx vx tg iter : Expr} {ifs : List Expr} {scope : Scope} {own : List (Str × Nat)} {pos spos : Pos} {wi : TI} {g : TG} {tt : TT} {tk tv : TE} (hc : X.calm = true) (hN : X.N.Nodup) (hy : X.N[i]? = some y) (hyl : X.env.scope.names.lookup y = some .local)
    (hsw : swapsWith (.DictComp kx vx [⟨tg, iter, ifs, 0⟩] scope pos) (some (.Name y py)) spos.line X.env = pure true) (hi : PI X tg iter wi) (ok : BlkOk X.N X.env.scope scope own)
    (hg : ∀ (s : Shared) (H : Hp) (C : Addr) (cl : List (Str × Addr)) (fp : List Addr), PG (X.blk s H scope (compEnvC scope cl C X.env) fp) tg g) (ht : ∀ (s : Shared) (H : Hp) (C : Addr) (cl : List (Str × Addr)) (fp : List Addr), PTs (X.blk s H scope (compEnvC scope cl C X.env) fp) ifs tt)
    (hk : ∀ (s : Shared) (H : Hp) (C : Addr) (cl : List (Str × Addr)) (fp : List Addr), PE (X.blk s H scope (compEnvC scope cl C X.env) fp) kx tk)
    (he : ∀ (s : Shared) (H : Hp) (C : Addr) (cl : List (Str × Addr)) (fp : List Addr), PE (X.blk s H scope (compEnvC scope cl C X.env) fp) vx tv) (hs : ∀ x, foldedSetIterable iter X.env x = pure x := by intro _; rfl) :
    PS X (.Assign [.Name y py] (.DictComp kx vx [⟨tg, iter, ifs, 0⟩] scope pos) spos) (tAsg (tDc wi g tt tk tv (own.map (·.2))) (gName i)) := by
  refine ⟨fun pins s σ H D I h => ?_⟩
  rw [exec_Assign_Name_used _ _ _ _ hsw]
  refine wpAny_bind (wpAny_standAt (wpAny_bind ?_))
  show wpAny _ X.A (do let _ ← comprehension (.DictComp kx vx [⟨tg, iter, ifs, 0⟩] scope pos) scope X.env _ newDict false (eval iter X.env) (some (assign (.Name y py) X.env))) _ _ s
  have h : tDc wi g tt tk tv (own.map (·.2)) σ H (fun x H1 => gName i x σ H1 D.nx) := h
  refine wpAny_bind (thn (dc_core (Qf := fun _ s' => SP X pins D .next s') hc hN I hi ok hg ht hk he hs h fun L C s' m H' I' q hn f => ?_) fun _ s' hq => wpAny_pure (wpAny_pure hq))
  show wpAny _ _ (assign (.Name y py) X.env (.ref L)) _ _ _
  refine wpAny_assign_Name (store_ok2 (v := V.ref L) I' hN hy (.inl hyl) rfl (fun s2 I2 ⟨a, sb, ha⟩ => ?_) (.inr hyl))
  obtain ⟨f0, f1, f2, f3, f4, f5⟩ := f
  have haC : C ≠ a := by
    rcases ha with z | z
    · rw [z]; exact f1
    · exact fun e => f4 y a z e.symm
  refine ⟨m, hn.sameBut sb haC, fun h3 sb3 => ?_⟩
  exact ⟨_, H', I2.turned (t' := s2.toks) (fun b o hb e => (sb3.2 b hb).trans e) f0 f1 f3 f4 f5, q⟩
theorem sw_trueD {kx vx : Expr} {gs : List Comprehension} {scope : Scope} {pos py : Pos} {y : Str} {l : Nat} {env : Env} (hk : env.scope.kind = .function) (hy : env.scope.names.lookup y = some .local) (hl : (py.line == pos.line) = true)
    (ha : (scope.names.any fun (n, k) => n == y && (k == .local || k == .cell)) = false) : swapsWith (.DictComp kx vx gs scope pos) (some (.Name y py)) l env = pure true := by
  have ky : env.kindOf y = some .local := hy
  have hb : env.blockKind = .function := by unfold Env.blockKind; rw [hk]; rfl
  unfold swapsWith
  simp only [hb, ky, ha, Expr.pos, hl]
  rfl
end
end Dx
/-! zip of two tuples, walked; great products and quotients; xs[::-1]. -/
namespace Zx
open PySem PySem.Spec PyProof.Rows L2 Bx TL Dx
theorem walk_zipT {K : PySem.W.Frag} {a b : Addr} {xs ys : List V} {n : Nat} (hn : n = min xs.length ys.length) : Walk (RZ.ItzT K a b) n (fun H => SqT K H a xs ∧ SqT K H b ys) (YPair (fun i => xs[i]?) (fun i => ys[i]?)) := by
  subst hn
  refine ⟨fun i _ hi q => ?_, fun _ q => ⟨xs, ys, q.1, q.2, by omega⟩, fun i H v H' _ q y => ?_⟩
  · have h1 : i < xs.length := by omega
    have h2 : i < ys.length := by omega
    exact ⟨xs, ys, xs[i], ys[i], q.1, q.2, by simp [h1], by simp [h2]⟩
  · obtain ⟨T, x, z, h1, h2, h3, h4, h5⟩ := y
    exact ⟨T, x, z, h1, h2, h3, h4 xs q.1, h5 ys q.2⟩
end Zx
namespace Zx
open PySem PySem.Spec PyProof.Rows L2
theorem ne_t {p : Prop} [Decidable p] (h : (!decide p) = true) : ¬ p := by simpa using h
theorem ne_f {p : Prop} [Decidable p] (h : ¬ (!decide p) = true) : p := by simpa using h
theorem int_t {x y : Int} (h : decide (V.int x = V.int y) = true) : x = y := V.int.inj (of_decide_eq_true h)
theorem int_f {x y : Int} (h : ¬ decide (V.int x = V.int y) = true) : x ≠ y := fun e => h (decide_eq_true (congrArg V.int e))
theorem int_nt {x y : Int} (h : (!decide (V.int x = V.int y)) = true) : x ≠ y := fun e => ne_t h (congrArg V.int e)
theorem int_nf {x y : Int} (h : ¬ (!decide (V.int x = V.int y)) = true) : x = y := V.int.inj (ne_f h)
end Zx
namespace Zx
open PySem PySem.Spec PyProof.Rows L2 Bx
section
variable {K : PySem.W.Frag}
theorem ty_tup {H : Hp} {a : Addr} {xs : List V} (h : SqT K H a xs) : TyX K H (.ref a) (.type "tuple") := by
  rcases h with (h | ⟨o, h⟩) | h
  · exact .base (.tup h)
  · exact .fTuple h
  · obtain ⟨o, its, n, h1, h2, _⟩ := h
    exact .kTuple h1 h2
def spRight : Sp := fun vs H Q _ => ∃ a : Addr, vs = [.ref a] ∧ Src H a ∧ ∀ H', SameBut a H H' → Q (.bl true) H'
end
end Zx
namespace Zx
open PySem PySem.Spec PyProof.Rows L2 Bx
theorem cont_of {α : Type} {R X : α → Prop} {G : Prop} (first : (∀ a, R a → X a) → G) (rest : ∀ a, R a → X a) : G := first rest
theorem cont_of2 {α β : Type} {R X : α → β → Prop} {G : Prop} (first : (∀ a b, R a b → X a b) → G) (rest : ∀ a b, R a b → X a b) : G := first rest
theorem but_new {a : Addr} {H H3 : Hp} {p : Addr} {o : HO} (h : H p = none) (s : SameBut a (upd H p o) H3) : SameBut a H H3 := fun b x n e => s b x n (by rw [upd_ne (ne_of_none e h)]; exact e)
theorem but_at {a : Addr} {H H2 : Hp} {p : Addr} {o : HO} (h : H p = none) (s : SameBut a H H2) : SameBut a H (upd H2 p o) := fun b x n e => by
  rw [upd_ne (ne_of_none e h)]
  exact s b x n e
theorem src_same {a : Addr} {H1 H2 : Hp} (s : Src H1 a) (t : Same H1 H2) : Src H2 a := by
  obtain ⟨n, c, h⟩ := s
  exact ⟨n, c, t _ _ h⟩
theorem src_ne {a o : Addr} {H : Hp} (s : Src H a) (h : H o = none) : a ≠ o := by
  obtain ⟨n, c, z⟩ := s
  exact ne_of_none z h
theorem but_free {a o : Addr} {H H1 : Hp} (s : SameBut a H H1) (n : o ≠ a) (h : H1 o = none) : H o = none := by
  cases e : H o with
  | none => rfl
  | some x =>
    rw [s o x n e] at h
    cases h
theorem src_upd {a o : Addr} {H : Hp} {u : HO} (s : Src H a) (n : a ≠ o) : Src (upd H o u) a := by
  obtain ⟨x, c, h⟩ := s
  exact ⟨x, c, by rw [upd_ne n]; exact h⟩

end Zx
namespace Zx
open PySem PySem.Spec PyProof.Rows L2 Bx
theorem set_same {σ : L2.St} {i : Nat} {v : V} (h : σ[i]? = some (some v)) : σ.set i (some v) = σ := by
  obtain ⟨hi, e⟩ := List.getElem?_eq_some_iff.mp h
  rw [← e]
  exact List.set_getElem_self hi
/-- if c: name = e -/
theorem if_asg {c : Prop} [Decidable c] {te : TE} {i : Nat} {D : Ends} {σ : L2.St} {H : Hp} {old : V} (R : V → Hp → Prop) (hi : σ[i]? = some (some old))
    (h1 : c → ∀ Z : V → Hp → Prop, (∀ v H', R v H' → Z v H') → te σ H Z) (h2 : ¬ c → R old H) (rest : ∀ v H', R v H' → D.nx (σ.set i (some v)) H') : if c then tAsg te (gName i) D σ H else tNext D σ H := by
  split
  · rename_i h
    exact h1 h (fun v H' => D.nx (σ.set i (some v)) H') rest
  · rename_i h
    have := rest old H (h2 h)
    rw [set_same hi] at this
    exact this
/-- if c: name = e else: name = f -/
theorem if_asg2 {c : Prop} [Decidable c] {te tf : TE} {i : Nat} {D : Ends} {σ : L2.St} {H : Hp} (R : V → Hp → Prop)
    (h1 : c → ∀ Z : V → Hp → Prop, (∀ v H', R v H' → Z v H') → te σ H Z) (h2 : ¬ c → ∀ Z : V → Hp → Prop, (∀ v H', R v H' → Z v H') → tf σ H Z) (rest : ∀ v H', R v H' → D.nx (σ.set i (some v)) H') : if c then tAsg te (gName i) D σ H else tAsg tf (gName i) D σ H := by
  split
  · rename_i h
    exact h1 h (fun v H' => D.nx (σ.set i (some v)) H') rest
  · rename_i h
    exact h2 h (fun v H' => D.nx (σ.set i (some v)) H') rest
end Zx
/-! progressions: the mathematics -/
namespace M30
theorem gcd_emod (s f : Int) : Int.gcd s (f % s) = Int.gcd s f := by
  rw [Int.emod_def, Int.sub_eq_add_neg, ← Int.mul_neg, Int.gcd_add_mul_left_right]
/-- what the loop of bezout keeps: (r, x), (r', x') -/
structure Bz (f s r x r' x' : Int) : Prop where
  nn : 0 ≤ r'
  e1 : ∃ y, r = x * f + y * s
  e2 : ∃ y, r' = x' * f + y * s
  dv : ∀ d : Int, (d ∣ r ∧ d ∣ r') ↔ (d ∣ f ∧ d ∣ s)
  b1 : r.natAbs < 2 ^ 62
  b2 : r'.natAbs < 2 ^ 62
theorem bz_start {f s : Int} (hs : 0 ≤ s) (h1 : f.natAbs < 2 ^ 62) (h2 : s.natAbs < 2 ^ 62) : Bz f s f 1 s 0 :=
  ⟨hs, ⟨0, by simp⟩, ⟨1, by simp⟩, fun _ => Iff.rfl, h1, h2⟩
theorem bz_turn {f s r x r' x' : Int} (h : Bz f s r x r' x') (hp : 0 < r') : Bz f s r' x' (r - r / r' * r') (x - r / r' * x') ∧ (r - r / r' * r').toNat < r'.toNat ∧ (r / r').natAbs < 2 ^ 62 := by
  have e : r - r / r' * r' = r % r' := by
    have := Int.emod_def r r'
    rw [Int.mul_comm] at this
    exact this.symm
  have h0 := Int.emod_nonneg r (show r' ≠ 0 by omega)
  have h1 := Int.emod_lt_of_pos r hp
  have hb2 := h.b2
  refine ⟨⟨by rw [e]; exact h0, h.e2, ?_, fun d => ?_, h.b2, by rw [e]; omega⟩, by rw [e]; omega, Nat.lt_of_le_of_lt (Int.natAbs_ediv_le_natAbs r r') h.b1⟩
  · obtain ⟨y, ey⟩ := h.e1
    obtain ⟨z, ez⟩ := h.e2
    refine ⟨y - r / r' * z, ?_⟩
    generalize r / r' = q
    rw [Int.sub_mul, Int.sub_mul, ey, ez, Int.mul_add, Int.mul_assoc, Int.mul_assoc]
    omega
  · rw [← h.dv d]
    constructor
    · rintro ⟨a, b⟩
      refine ⟨?_, a⟩
      have c := Int.dvd_add b (Int.dvd_mul_of_dvd_right (b := r / r') a)
      rw [show r - r / r' * r' + r / r' * r' = r by omega] at c
      exact c
    · rintro ⟨a, b⟩
      exact ⟨b, Int.dvd_sub a (Int.dvd_mul_of_dvd_right (b := r / r') b)⟩
theorem nat_eq {g n : Nat} (h : ∀ d : Nat, d ∣ g ↔ d ∣ n) : g = n := Nat.dvd_antisymm ((h g).mp (Nat.dvd_refl g)) ((h n).mpr (Nat.dvd_refl n))
theorem bz_end {f s r x x' : Int} (h : Bz f s r x 0 x') : (Int.gcd f s : Int) = if r < 0 then -r else r := by
  have e : r.natAbs = Int.gcd f s := nat_eq fun d => by
    rw [Int.dvd_gcd_iff, ← h.dv (d : Int)]
    constructor
    · intro z
      exact ⟨Int.ofNat_dvd_left.mpr z, Int.dvd_zero _⟩
    · rintro ⟨z, _⟩
      exact Int.ofNat_dvd_left.mp z
  rw [← e]
  split <;> omega
/-- what solve_one hands back -/
structure Solved (c m r a b : Int) : Prop where
  z : Int.gcd c m = 0 → a = 1 ∧ b = 0
  q : Int.gcd c m ≠ 0 → a = m / (Int.gcd c m : Int)
  p : a = 0 ∨ (0 ≤ b ∧ b < a)
  f : m ∣ c * b - r
theorem ediv_mul {g m : Int} (h : g ∣ m) : m / g * g = m := Int.ediv_mul_cancel h
theorem solved_mul {c m r g x b : Int} (gc : g ∣ c) (gm : g ∣ m) (gr : g ∣ r) (hb : ∃ y, g = x * c + y * m) (hk : ∃ k, b = r / g * x + k * (m / g)) : m ∣ c * b - r := by
  obtain ⟨y, ey⟩ := hb
  obtain ⟨k, rfl⟩ := hk
  obtain ⟨c', ec⟩ := gc
  have em := ediv_mul gm
  have er := ediv_mul gr
  generalize m / g = m' at em ⊢
  generalize r / g = r' at er ⊢
  refine ⟨c' * k - r' * y, ?_⟩
  have e1 : c * (k * m') = m * (c' * k) := by
    rw [← em, ec]
    simp only [Int.mul_assoc, Int.mul_comm, Int.mul_left_comm]
  have e2 : c * (r' * x) - r = m * (-(r' * y)) := by
    rw [← er]
    have : r' * g = r' * (x * c) + r' * (y * m) := by
      rw [← Int.mul_add, ← ey]
    rw [this, Int.mul_neg]
    have a1 : c * (r' * x) = r' * (x * c) := by simp only [Int.mul_assoc, Int.mul_comm, Int.mul_left_comm]
    have a2 : m * (r' * y) = r' * (y * m) := by simp only [Int.mul_assoc, Int.mul_comm, Int.mul_left_comm]
    rw [a1, a2]
    omega
  rw [Int.mul_add, Int.mul_sub, ← e1]
  have e3 : m * (-(r' * y)) = -(m * (r' * y)) := Int.mul_neg ..
  rw [e3] at e2
  omega
/-- progression(m, r) -/
def prg (m r : Int) : Int := if m = 0 then r else r % m
theorem prg_k (m r : Int) : ∃ k, prg m r = r + k * m := by
  unfold prg
  split
  · exact ⟨0, by simp⟩
  · refine ⟨-(r / m), ?_⟩
    rw [Int.emod_def, Int.neg_mul, Int.mul_comm]
    omega
theorem prg_p {m r : Int} (h : 0 ≤ m) : m = 0 ∨ (0 ≤ prg m r ∧ prg m r < m) := by
  unfold prg
  split
  · rename_i h
    exact .inl h
  · exact .inr ⟨Int.emod_nonneg _ (by omega), Int.emod_lt_of_pos _ (by omega)⟩
theorem prg_dv {m r x : Int} : m ∣ x - prg m r ↔ m ∣ x - r := by
  obtain ⟨k, e⟩ := prg_k m r
  rw [e]
  constructor
  · intro h
    have := Int.dvd_add h (Int.dvd_mul_left k m)
    rw [show x - (r + k * m) + k * m = x - r by omega] at this
    exact this
  · intro h
    have := Int.dvd_sub h (Int.dvd_mul_left k m)
    rw [show x - r - k * m = x - (r + k * m) by omega] at this
    exact this
theorem solved_of {c m r x g : Int} (hm : 0 ≤ m) (hg : (Int.gcd c m : Int) = g) (g0 : 0 < g) (hr : g ∣ r) (hb : ∃ y, g = x * c + y * m) : Solved c m r (m / g) (prg (m / g) (r / g * x)) := by
  have gc : g ∣ c := hg ▸ Int.gcd_dvd_left c m
  have gm : g ∣ m := hg ▸ Int.gcd_dvd_right c m
  refine ⟨fun z => ?_, fun _ => by rw [hg], prg_p (Int.ediv_nonneg hm (by omega)), ?_⟩
  · rw [z] at hg
    exact absurd hg (by show ¬ (0 : Int) = g; omega)
  · obtain ⟨k, e⟩ := prg_k (m / g) (r / g * x)
    exact solved_mul gc gm hr hb ⟨k, e⟩
theorem solved_zero {c m r : Int} (hg : (Int.gcd c m : Int) = 0) (hr : r = 0) : Solved c m r 1 0 := by
  have h0 : Int.gcd c m = 0 := by omega
  refine ⟨fun _ => ⟨rfl, rfl⟩, fun h => absurd h0 h, .inr ⟨by omega, by omega⟩, ?_⟩
  rw [hr]
  exact ⟨0, by simp⟩

/-! ### meeting -/
def lm : List (Int × Int) → Int
  | [] => 1
  | p :: ps => lm ps * (p.1 / (Int.gcd (lm ps) p.1 : Int))
/-- the least common multiple, from the left (the last one first) -/
def lmL (ps : List (Int × Int)) : Int := lm ps.reverse
def Meets (ps : List (Int × Int)) (M R : Int) : Prop := ∀ x : Int, (∀ p ∈ ps, p.1 ∣ x - p.2) ↔ M ∣ x - R
theorem bez (a b : Int) : ∃ x y, (Int.gcd a b : Int) = x * a + y * b := by
  have key : ∀ n (f s : Int), 0 ≤ s → s.toNat = n → ∃ x y, (Int.gcd f s : Int) = x * f + y * s := by
    intro n
    induction n using Nat.strongRecOn with
    | ind n ih =>
      intro f s hs e
      by_cases h : s = 0
      · subst h
        by_cases hf : f < 0
        · exact ⟨-1, 0, by simp; omega⟩
        · exact ⟨1, 0, by simp; omega⟩
      · have h1 := Int.emod_nonneg f h
        have h2 := Int.emod_lt_of_pos f (show 0 < s by omega)
        obtain ⟨x, y, exy⟩ := ih (f % s).toNat (by omega) s (f % s) h1 rfl
        refine ⟨y, x - y * (f / s), ?_⟩
        have e2 : Int.gcd f s = Int.gcd s (f % s) := by
          rw [gcd_emod, Int.gcd_comm]
        rw [e2, exy, Int.emod_def, Int.mul_sub, Int.sub_mul]
        have : y * (s * (f / s)) = y * (f / s) * s := by simp only [Int.mul_assoc, Int.mul_comm, Int.mul_left_comm]
        omega
  by_cases h : 0 ≤ b
  · exact key _ a b h rfl
  · obtain ⟨x, y, e⟩ := key _ a (-b) (by omega) rfl
    refine ⟨x, -y, ?_⟩
    rw [Int.gcd_neg] at e
    rw [e, Int.mul_neg, Int.neg_mul]
/-- M | z and m | z, at once -/
theorem lcm_iff {M m z : Int} : (M ∣ z ∧ m ∣ z) ↔ M * (m / (Int.gcd M m : Int)) ∣ z := by
  have gm := Int.gcd_dvd_right M m
  have gM := Int.gcd_dvd_left M m
  obtain ⟨p, q, e⟩ := bez M m
  generalize hg : (Int.gcd M m : Int) = g at *
  have em := ediv_mul gm
  have eM := ediv_mul gM
  generalize m / g = m' at em ⊢
  constructor
  · rintro ⟨⟨u, hu⟩, ⟨v, hv⟩⟩
    by_cases h0 : g = 0
    · have : Int.gcd M m = 0 := by omega
      obtain ⟨a, b⟩ := Int.gcd_eq_zero_iff.mp this
      rw [hu, a]
      exact ⟨0, by simp⟩
    · refine ⟨p * v + q * u, ?_⟩
      refine Int.eq_of_mul_eq_mul_left h0 ?_
      have : g * z = p * (M * z) + q * (m * z) := by
        rw [e, Int.add_mul, Int.mul_assoc, Int.mul_assoc]
      rw [this]
      have e1 : p * (M * z) = g * (M * m' * (p * v)) := by
        rw [hv, ← em]
        simp only [Int.mul_assoc, Int.mul_comm, Int.mul_left_comm]
      have e2 : q * (m * z) = g * (M * m' * (q * u)) := by
        rw [hu, ← em]
        simp only [Int.mul_assoc, Int.mul_comm, Int.mul_left_comm]
      rw [e1, e2, Int.mul_add, Int.mul_add]
  · rintro ⟨w, rfl⟩
    constructor
    · exact ⟨m' * w, by simp only [Int.mul_assoc]⟩
    · refine ⟨M / g * w, ?_⟩
      rw [← em]
      have : M * m' * w = M / g * g * m' * w := by rw [eM]
      rw [this]
      simp only [Int.mul_assoc, Int.mul_comm, Int.mul_left_comm]
theorem gcd_meet {L m' m k : Int} (h1 : (Int.gcd L m : Int) ∣ k) (h2 : (Int.gcd m' m : Int) ∣ k) : (Int.gcd (L * (m' / (Int.gcd L m' : Int))) m : Int) ∣ k := by
  obtain ⟨p, q, e⟩ := bez L m'
  by_cases h0 : Int.gcd L m' = 0
  · obtain ⟨a, b⟩ := Int.gcd_eq_zero_iff.mp h0
    subst a b
    rw [Int.zero_mul]
    exact h1
  · have gm := Int.gcd_dvd_right L m'
    have gL := Int.gcd_dvd_left L m'
    have h00 : (Int.gcd L m' : Int) ≠ 0 := by omega
    generalize (Int.gcd L m' : Int) = g at *
    have em := ediv_mul gm
    have eL := ediv_mul gL
    generalize m' / g = b at *
    generalize L / g = a at *
    -- p a + q b = 1
    have e1 : p * a + q * b = 1 := by
      refine Int.eq_of_mul_eq_mul_left h00 ?_
      rw [Int.mul_one]
      have : g * (p * a + q * b) = p * (a * g) + q * (b * g) := by
        rw [Int.mul_add]
        simp only [Int.mul_assoc, Int.mul_comm, Int.mul_left_comm]
      rw [this, eL, em]
      exact e.symm
    obtain ⟨x1, y1, f1⟩ := bez L m
    obtain ⟨x2, y2, f2⟩ := bez m' m
    obtain ⟨k1, hk1⟩ := h1
    obtain ⟨k2, hk2⟩ := h2
    rw [f1] at hk1
    rw [f2] at hk2
    -- k = k (p a) + k (q b); k p a in the span of a m' = L b, m ; k q b in the span of b L, m
    have d1 : (Int.gcd (L * b) m : Int) ∣ L * b := Int.gcd_dvd_left _ _
    have d2 : (Int.gcd (L * b) m : Int) ∣ m := Int.gcd_dvd_right _ _
    have c1 : (Int.gcd (L * b) m : Int) ∣ k * (p * a) := by
      rw [hk2]
      have : (x2 * m' + y2 * m) * k2 * (p * a) = L * b * (x2 * k2 * p) + m * (y2 * k2 * p * a) := by
        rw [← em, ← eL, Int.add_mul, Int.add_mul]
        congr 1 <;> simp only [Int.mul_assoc, Int.mul_comm, Int.mul_left_comm]
      rw [this]
      exact Int.dvd_add (Int.dvd_mul_of_dvd_left d1) (Int.dvd_mul_of_dvd_left d2)
    have c2 : (Int.gcd (L * b) m : Int) ∣ k * (q * b) := by
      rw [hk1]
      have : (x1 * L + y1 * m) * k1 * (q * b) = L * b * (x1 * k1 * q) + m * (y1 * k1 * q * b) := by
        rw [Int.add_mul, Int.add_mul]
        congr 1 <;> simp only [Int.mul_assoc, Int.mul_comm, Int.mul_left_comm]
      rw [this]
      exact Int.dvd_add (Int.dvd_mul_of_dvd_left d1) (Int.dvd_mul_of_dvd_left d2)
    have := Int.dvd_add c1 c2
    rw [← Int.mul_add, e1, Int.mul_one] at this
    exact this
theorem gcd_lm {m k : Int} : ∀ {ps : List (Int × Int)}, (∀ p ∈ ps, (Int.gcd p.1 m : Int) ∣ k) → (Int.gcd (lm ps) m : Int) ∣ k
  | [], _ => by
    show (Int.gcd 1 m : Int) ∣ k
    rw [Int.gcd_one_left]
    exact ⟨k, by simp⟩
  | p :: ps, h => gcd_meet (gcd_lm fun q hq => h q (List.mem_cons_of_mem _ hq)) (h p List.mem_cons_self)
/-- two progressions agree -/
def Fit (p q : Int × Int) : Prop := (Int.gcd p.1 q.1 : Int) ∣ p.2 - q.2
theorem fits_of {ps : List (Int × Int)} {M R : Int} (h : Meets ps M R) : ∀ p ∈ ps, ∀ q ∈ ps, Fit p q := fun p hp q hq => by
  have a := (h R).mpr (by rw [Int.sub_self]; exact Int.dvd_zero _)
  have x := Int.dvd_trans (Int.gcd_dvd_left p.1 q.1) (a p hp)
  have y := Int.dvd_trans (Int.gcd_dvd_right p.1 q.1) (a q hq)
  have z := Int.dvd_sub y x
  rw [show R - q.2 - (R - p.2) = p.2 - q.2 by omega] at z
  exact z
theorem meets_nil : Meets [] 1 0 := fun x => ⟨fun _ => ⟨x - 0, by simp⟩, fun _ p hp => by cases hp⟩
theorem lm_snoc (ps : List (Int × Int)) (p : Int × Int) : lmL (ps ++ [p]) = lmL ps * (p.1 / (Int.gcd (lmL ps) p.1 : Int)) := by
  unfold lmL
  rw [List.reverse_append]
  rfl
theorem meets_snoc {ps : List (Int × Int)} {p : Int × Int} {R a b : Int} (h : Meets ps (lmL ps) R) (s : Solved (lmL ps) p.1 (p.2 - R) a b) :
    lmL (ps ++ [p]) = lmL ps * a ∧ Meets (ps ++ [p]) (lmL ps * a) (prg (lmL ps * a) (R + lmL ps * b)) := by
  have e : lmL (ps ++ [p]) = lmL ps * a := by
    rw [lm_snoc]
    by_cases h0 : Int.gcd (lmL ps) p.1 = 0
    · obtain ⟨x, _⟩ := Int.gcd_eq_zero_iff.mp h0
      rw [x, Int.zero_mul, Int.zero_mul]
    · rw [s.q h0]
  refine ⟨e, fun x => ?_⟩
  rw [prg_dv, ← e, lm_snoc, ← lcm_iff]
  have f := s.f
  constructor
  · intro hp
    have h1 := (h x).mp fun q hq => hp q (List.mem_append_left _ hq)
    have h2 := hp p (List.mem_append_right _ List.mem_cons_self)
    constructor
    · have := Int.dvd_sub h1 (Int.dvd_mul_right (lmL ps) b)
      rw [show x - R - lmL ps * b = x - (R + lmL ps * b) by omega] at this
      exact this
    · have := Int.dvd_sub h2 f
      rw [show x - p.2 - (lmL ps * b - (p.2 - R)) = x - (R + lmL ps * b) by omega] at this
      exact this
  · rintro ⟨h1, h2⟩ q hq
    rcases List.mem_append.mp hq with hq | hq
    · refine (h x).mpr ?_ q hq
      have := Int.dvd_add h1 (Int.dvd_mul_right (lmL ps) b)
      rw [show x - (R + lmL ps * b) + lmL ps * b = x - R by omega] at this
      exact this
    · rw [List.mem_singleton.mp hq]
      have := Int.dvd_add h2 f
      rw [show x - (R + lmL ps * b) + (lmL ps * b - (p.2 - R)) = x - p.2 by omega] at this
      exact this
theorem no_snoc {ps : List (Int × Int)} {p : Int × Int} {R : Int} (h : Meets ps (lmL ps) R) (n : ¬ (Int.gcd (lmL ps) p.1 : Int) ∣ p.2 - R) : ¬ ∀ q ∈ ps, Fit q p := fun hf => n (by
  have a := (h R).mpr (by rw [Int.sub_self]; exact Int.dvd_zero _)
  refine gcd_lm fun q hq => ?_
  have hq2 := List.mem_reverse.mp hq
  have x := Int.dvd_trans (Int.gcd_dvd_left q.1 p.1) (a q hq2)
  have y := hf q hq2
  have z := Int.dvd_add x y
  rw [show R - q.2 + (q.2 - p.2) = -(p.2 - R) by omega] at z
  exact Int.dvd_neg.mp z)
/-- sizes -/
theorem lm_size {ps : List (Int × Int)} (h : ∀ p ∈ ps, 0 ≤ p.1 ∧ p.1 < 2 ^ 20) : 0 ≤ lmL ps ∧ lmL ps ≤ (2 ^ 20) ^ ps.length := by
  have key : ∀ l : List (Int × Int), (∀ p ∈ l, 0 ≤ p.1 ∧ p.1 < 2 ^ 20) → 0 ≤ lm l ∧ lm l ≤ (2 ^ 20) ^ l.length := by
    intro l
    induction l with
    | nil => exact fun _ => ⟨by decide, by decide⟩
    | cons p l ih =>
      intro h
      obtain ⟨a, b⟩ := ih fun q hq => h q (List.mem_cons_of_mem _ hq)
      obtain ⟨c, d⟩ := h p List.mem_cons_self
      have e1 : 0 ≤ p.1 / (Int.gcd (lm l) p.1 : Int) := Int.ediv_nonneg c (by omega)
      have e2 : p.1 / (Int.gcd (lm l) p.1 : Int) ≤ p.1 := Int.ediv_le_self _ c
      refine ⟨Int.mul_nonneg a e1, ?_⟩
      show lm l * (p.1 / (Int.gcd (lm l) p.1 : Int)) ≤ (2 ^ 20) ^ (l.length + 1)
      rw [Int.pow_succ]
      exact Int.mul_le_mul b (by omega) e1 (Int.le_trans a b)
  have := key ps.reverse fun p hp => h p (List.mem_reverse.mp hp)
  rw [List.length_reverse] at this
  exact this
theorem prg_size {M R a b m s : Int} (sol : Solved M m (s - R) a b) (hR : R.natAbs < 2 ^ 61) (hs : s.natAbs < 2 ^ 21) (h0 : 0 ≤ M * a) (h1 : M * a ≤ 2 ^ 60) : (prg (M * a) (R + M * b)).natAbs < 2 ^ 61 := by
  rcases prg_p (m := M * a) (r := R + M * b) h0 with h | h
  · by_cases hM : M = 0
    · subst hM
      rw [h]
      unfold prg
      rw [if_pos rfl, Int.zero_mul]
      omega
    · have ha : a = 0 := by
        rcases Int.mul_eq_zero.mp h with h | h
        · exact absurd h hM
        · exact h
      have hg : Int.gcd M m ≠ 0 := fun z => hM (Int.gcd_eq_zero_iff.mp z).1
      have hm : m = 0 := by
        have := ediv_mul (Int.gcd_dvd_right M m)
        rw [← sol.q hg, ha] at this
        omega
      have f := sol.f
      rw [hm, Int.zero_dvd] at f
      rw [h]
      unfold prg
      rw [if_pos rfl]
      omega
  · omega
/-- Euclid's loop in the law: what holds after i turns -/
structure Eu (a0 b0 : Int) (i : Nat) (a b : Int) : Prop where
  na : 0 ≤ a
  nb : 0 ≤ b
  g : Int.gcd a b = Int.gcd a0 b0
  o : 1 ≤ i → b < a
  p : 2 ^ i * (a.toNat * b.toNat) ≤ 2 * (a0.toNat * b0.toNat)
  m : a.toNat * b.toNat ≤ a0.toNat * b0.toNat
theorem eu_start {a b : Int} (h1 : 0 ≤ a) (h2 : 0 ≤ b) : Eu a b 0 a b := ⟨h1, h2, rfl, fun h => absurd h (by omega), by
  rw [Nat.pow_zero, Nat.one_mul]
  omega, Nat.le_refl _⟩
theorem eu_turn {a0 b0 : Int} {i : Nat} {a b : Int} (h : Eu a0 b0 i a b) (hb : b ≠ 0) : Eu a0 b0 (i + 1) b (a % b) := by
  have hb0 : 0 < b := by have := h.nb; omega
  have h1 := Int.emod_nonneg a hb
  have h2 := Int.emod_lt_of_pos a hb0
  have hg : Int.gcd b (a % b) = Int.gcd a0 b0 := by rw [← h.g, gcd_emod, Int.gcd_comm]
  obtain ⟨m, em⟩ := Int.eq_ofNat_of_zero_le h.na
  obtain ⟨n, en⟩ := Int.eq_ofNat_of_zero_le h.nb
  have hp : 2 ^ i * (m * n) ≤ 2 * (a0.toNat * b0.toNat) := by
    have := h.p
    rw [em, en] at this
    exact this
  have hm : m * n ≤ a0.toNat * b0.toNat := by
    have := h.m
    rw [em, en] at this
    exact this
  have ho := h.o
  subst em en
  have e : ((m : Int) % (n : Int)).toNat = m % n := by
    rw [← Int.natCast_emod]
    rfl
  have hn : 0 < n := by omega
  have q : n * (m % n) ≤ m * n := by
    rw [Nat.mul_comm m n]
    exact Nat.mul_le_mul_left _ (Nat.mod_le m n)
  refine ⟨h.nb, h1, hg, fun _ => h2, ?_, by rw [e]; exact Nat.le_trans q hm⟩
  rw [e]
  show 2 ^ (i + 1) * (n * (m % n)) ≤ _
  by_cases hi : 1 ≤ i
  · have o := ho hi
    have o2 : n < m := by omega
    have q : 2 * (m % n) ≤ m := by
      have a1 := Nat.mod_add_div m n
      have a2 := Nat.mod_lt m hn
      have a3 : 1 ≤ m / n := (Nat.le_div_iff_mul_le hn).mpr (by omega)
      have a4 : n * 1 ≤ n * (m / n) := Nat.mul_le_mul_left n a3
      omega
    refine Nat.le_trans ?_ hp
    rw [Nat.pow_succ, Nat.mul_assoc]
    refine Nat.mul_le_mul_left _ ?_
    have q2 := Nat.mul_le_mul_left n q
    have q3 : 2 * (n * (m % n)) = n * (2 * (m % n)) := Nat.mul_left_comm 2 n _
    have q4 : m * n = n * m := Nat.mul_comm m n
    omega
  · have : i = 0 := by omega
    subst this
    show 2 ^ 1 * _ ≤ _
    omega
set_option maxRecDepth 100000 in
set_option exponentiation.threshold 1000 in
theorem eu_end {a0 b0 a b : Int} (h : Eu a0 b0 600 a b) (ha : a0.toNat < 2 ^ 80) (hb : b0.toNat < 2 ^ 80) : b = 0 := by
  have h1 : a0.toNat * b0.toNat < 2 ^ 80 * 2 ^ 80 := Nat.mul_lt_mul'' ha hb
  have h2 := h.p
  have h3 := h.o (by decide)
  have hnb := h.nb
  by_cases hz : b = 0
  · exact hz
  · have h4 : 1 ≤ a.toNat * b.toNat := Nat.mul_pos (by omega) (by omega)
    have h5 : 2 ^ 600 * 1 ≤ 2 ^ 600 * (a.toNat * b.toNat) := Nat.mul_le_mul_left _ h4
    have h6 : 2 * (2 ^ 80 * 2 ^ 80) < 2 ^ 600 := by decide
    omega
theorem eu_gcd {a0 b0 a : Int} {i : Nat} (h : Eu a0 b0 i a 0) : a = (Int.gcd a0 b0 : Int) := by
  have := h.g
  rw [Int.gcd_zero_right] at this
  have := h.na
  omega
theorem gcd_abs (a b : Int) : Int.gcd (if a < 0 then -a else a) (if b < 0 then -b else b) = Int.gcd a b := by
  split <;> split <;> simp
/-- the law's own least common multiple -/
theorem lmL_turn (L m : Int) : (if m = 0 ∨ L = 0 then (0 : Int) else L * m / (Int.gcd L m : Int)) = L * (m / (Int.gcd L m : Int)) := by
  split
  · rename_i h
    rcases h with h | h
    · rw [h]
      simp
    · rw [h]
      simp
  · exact Int.mul_ediv_assoc L (Int.gcd_dvd_right L m)
end M30
namespace K30
local macro_rules | `(tactic| walk_at "rd") => `(tactic| repeat (first | refine ⟨rfl, ?_⟩ | refine ⟨_, rfl, ?_⟩ | refine ⟨_, _, rfl, rfl, ?_⟩ | refine ⟨⟨_, rfl⟩, ?_⟩))
open PySem PySem.Spec PyProof.Rows L2 Bx TL Dx Zx M30
def topS (i : Nat) : Stmt := PySem.Challenge.pw_shadowlinks_k30_progressions.main.body.getD i (.Pass ⟨0, 0, 0, 0⟩)
abbrev s_progression : Stmt := topS 1
abbrev n_progression : List Str := ["modulus", "rest"]
theorem sc_progression : FnScope n_progression ["modulus", "rest"] (defScope s_progression) := ⟨rfl, rfl, rfl, by decide +kernel, rfl, by decide +kernel, by decide +kernel⟩
abbrev s_is_in : Stmt := topS 2
abbrev n_is_in : List Str := ["number", "steps", "modulus", "rest"]
theorem sc_is_in : FnScope n_is_in ["number", "steps"] (defScope s_is_in) := ⟨rfl, rfl, rfl, by decide +kernel, rfl, by decide +kernel, by decide +kernel⟩
abbrev s_solve_one : Stmt := topS 3
abbrev n_solve_one : List Str := ["coefficient", "modulus", "rest", "common", "inverse", "_"]
theorem sc_solve_one : FnScope n_solve_one ["coefficient", "modulus", "rest"] (defScope s_solve_one) := ⟨rfl, rfl, rfl, by decide +kernel, rfl, by decide +kernel, by decide +kernel⟩
abbrev s_meet : Stmt := topS 4
abbrev n_meet : List Str := ["progressions", "modulus", "rest", "own_modulus", "own_rest", "found"]
theorem sc_meet : FnScope n_meet ["progressions"] (defScope s_meet) := ⟨rfl, rfl, rfl, by decide +kernel, rfl, by decide +kernel, by decide +kernel⟩
abbrev s_bezout : Stmt := topS 5
abbrev n_bezout : List Str := ["first", "second", "row", "other", "many", "number", "its", "own"]
theorem sc_bezout : FnScope n_bezout ["first", "second"] (defScope s_bezout) := ⟨rfl, rfl, rfl, by decide +kernel, rfl, by decide +kernel, by decide +kernel⟩
abbrev s__law_source : Stmt := topS 7
abbrev n__law_source : List Str := ["_law_script", "_law_k", "_law_number"]
theorem sc__law_source : FnScope n__law_source ["_law_script", "_law_k"] (defScope s__law_source) := ⟨rfl, rfl, rfl, by decide +kernel, rfl, by decide +kernel, by decide +kernel⟩
abbrev s__law_draw : Stmt := topS 8
abbrev n__law_draw : List Str := ["_law_source_here", "_law_limit", "_law_number", "_law_mixed"]
theorem sc__law_draw : FnScope n__law_draw ["_law_source_here", "_law_limit"] (defScope s__law_draw) := ⟨rfl, rfl, rfl, by decide +kernel, rfl, by decide +kernel, by decide +kernel⟩
abbrev s__law_size : Stmt := topS 9
abbrev n__law_size : List Str := ["_law_source_here", "_law_most", "_law_choice"]
theorem sc__law_size : FnScope n__law_size ["_law_source_here", "_law_most"] (defScope s__law_size) := ⟨rfl, rfl, rfl, by decide +kernel, rfl, by decide +kernel, by decide +kernel⟩
abbrev s__law_shared : Stmt := topS 10
abbrev n__law_shared : List Str := ["_law_first", "_law_second", "_law_a", "_law_b", "_law_k", "_law_rest"]
theorem sc__law_shared : FnScope n__law_shared ["_law_first", "_law_second"] (defScope s__law_shared) := ⟨rfl, rfl, rfl, by decide +kernel, rfl, by decide +kernel, by decide +kernel⟩
abbrev s__law_fits : Stmt := topS 11
abbrev n__law_fits : List Str := ["_law_number", "_law_modulus"]
theorem sc__law_fits : FnScope n__law_fits ["_law_number", "_law_modulus"] (defScope s__law_fits) := ⟨rfl, rfl, rfl, by decide +kernel, rfl, by decide +kernel, by decide +kernel⟩
abbrev s__law_is_progression : Stmt := topS 12
abbrev n__law_is_progression : List Str := ["_law_actual", "_law_number"]
theorem sc__law_is_progression : FnScope n__law_is_progression ["_law_actual"] (defScope s__law_is_progression) := ⟨rfl, rfl, rfl, by decide +kernel, rfl, by decide +kernel, by decide +kernel⟩
abbrev s__law_solved_right : Stmt := topS 13
abbrev n__law_solved_right : List Str := ["_law_source_here", "_law_coefficient", "_law_modulus", "_law_rest", "_law_actual", "_law_shared_here"]
theorem sc__law_solved_right : FnScope n__law_solved_right ["_law_source_here"] (defScope s__law_solved_right) := ⟨rfl, rfl, rfl, by decide +kernel, rfl, by decide +kernel, by decide +kernel⟩
abbrev s__law_formed_right : Stmt := topS 14
abbrev n__law_formed_right : List Str := ["_law_source_here", "_law_modulus", "_law_rest", "_law_actual", "_law_number", "_law_told"]
theorem sc__law_formed_right : FnScope n__law_formed_right ["_law_source_here"] (defScope s__law_formed_right) := ⟨rfl, rfl, rfl, by decide +kernel, rfl, by decide +kernel, by decide +kernel⟩
abbrev s__law_progressions : Stmt := topS 15
abbrev n__law_progressions : List Str := ["_law_source_here", "_law_common", "_law_same", "_law_found", "_law_k", "_law_modulus", "_law_rest"]
theorem sc__law_progressions : FnScope n__law_progressions ["_law_source_here"] (defScope s__law_progressions) := ⟨rfl, rfl, rfl, by decide +kernel, rfl, by decide +kernel, by decide +kernel⟩
abbrev s__law_met : Stmt := topS 16
abbrev n__law_met : List Str := ["_law_steps"]
theorem sc__law_met : FnScope n__law_met ["_law_steps"] (defScope s__law_met) := ⟨rfl, rfl, rfl, by decide +kernel, rfl, by decide +kernel, by decide +kernel⟩
abbrev s__law_least_multiple : Stmt := topS 17
abbrev n__law_least_multiple : List Str := ["_law_steps", "_law_found", "_law_modulus", "_law_rest"]
theorem sc__law_least_multiple : FnScope n__law_least_multiple ["_law_steps"] (defScope s__law_least_multiple) := ⟨rfl, rfl, rfl, by decide +kernel, rfl, by decide +kernel, by decide +kernel⟩
abbrev s__law_meet_right : Stmt := topS 18
abbrev n__law_meet_right : List Str := ["_law_steps", "_law_passed", "_law_actual", "_law_agree", "_law_first", "_law_second", "_law_modulus", "_law_rest"]
theorem sc__law_meet_right : FnScope n__law_meet_right ["_law_steps"] (defScope s__law_meet_right) := ⟨rfl, rfl, rfl, by decide +kernel, rfl, by decide +kernel, by decide +kernel⟩
abbrev s_law : Stmt := topS 19
abbrev n_law : List Str := ["_law_script", "_law_source_here", "_law_k", "_law_steps"]
theorem sc_law : FnScope n_law ["_law_script"] (defScope s_law) := ⟨rfl, rfl, rfl, by decide +kernel, rfl, by decide +kernel, by decide +kernel⟩
section
variable {P : Program} {w : World} {K : PySem.W.Frag} {mg : Str → Option Value} {base : Heap}
/-! ### the law's own: draws -/
theorem int_at {ns : List Int} {k : Nat} (h : k < ns.length) : atI (ns.map V.int) (k : Int) = some (V.int ns[k]) := atI_nat (by rw [List.getElem?_map, List.getElem?_eq_getElem h]; rfl)
def spSource (K : PySem.W.Frag) : Sp := fun vs H Q _ => ∃ (a : Addr) (ns : List Int) (k : Nat), vs = [.ref a, .int (k : Int)] ∧ SqL K H a (ns.map V.int) ∧ k ≤ 100 ∧ ∀ p n c, H p = none → Q (.ref p) (upd H p (.lst [.int n, .int c]))
theorem ok_source {f : Addr} {fd : FuncData} (F : Fun K "_law_source" "_law_source" s__law_source f fd) (m_len : mg "len" = none) (m_int : mg "int" = none) : FnOk P w K mg base CX0 1 f fd ["_law_script", "_law_k"] (spSource K) := by
  refine F.ok sc__law_source (fun vs H Q E h => ?_) (fun cdv A outer s H vs Q E hr h => ?_)
  · obtain ⟨a, ns, k, rfl, _⟩ := h
    rfl
  · obtain ⟨a, ns, k, rfl, hS, hk, q⟩ := h
    refine ⟨_, (pss_cons (ps_set (i := 2) sc__law_source.nd rfl (Or.inl rfl) pe_int)
    (pss_cons (ps_if (pt_cmpR op_lt (pv 1) (pe_callB call_len_seq (by rfl) m_len PySem.boot_len (pa_cons (pv 0) pa_nil)) (nomark _))
      (pss_one (ps_set (i := 2) sc__law_source.nd rfl (Or.inl rfl) (pe_callTy (T := "int") call_int1 (by rfl) m_int (by decide +kernel) (pa_cons (pe_ix ix_list (pv 0) (pv 1) (fun _ _ => rfl)) pa_nil))))
      pss_nil)
    (pss_one (ps_ret (pe_lst (pa_cons (pv 2) (pa_cons (pe_op op_add (pe_op op_mul pe_int (pv 1)) (pe_callB call_len_seq (by rfl) m_len PySem.boot_len (pa_cons (pv 0) pa_nil))) pa_nil))))))), ?_⟩
    walk_at "rd"
    refine ⟨_, _, rfl, .inl hS, ?_⟩
    walk_at "rd"
    refine ite2 (fun h0 => ?_) (fun h0 => ?_)
    · have h1 : (k : Int) < ((ns.map V.int).length : Nat) := of_decide_eq_true h0
      rw [List.length_map] at h1
      walk_at "rd"
      refine ⟨_, _, _, _, rfl, rfl, hS, int_at (k := k) (by omega), ?_⟩
      refine .inl ⟨_, rfl, ?_⟩
      walk_at "rd"
      refine ⟨.inr ⟨by omega, by omega⟩, ?_⟩
      walk_at "rd"
      refine ⟨_, _, rfl, .inl hS, ?_⟩
      walk_at "rd"
      exact ⟨sz (by show 2 ≤ 100000; decide), fun p np => q p _ _ np⟩
    · walk_at "rd"
      refine ⟨.inr ⟨by omega, by omega⟩, ?_⟩
      walk_at "rd"
      refine ⟨_, _, rfl, .inl hS, ?_⟩
      walk_at "rd"
      exact ⟨sz (by show 2 ≤ 100000; decide), fun p np => q p _ _ np⟩
theorem modb (x : Int) {k : Int} (h : 0 < k) (h2 : k ≤ 2 ^ 64) : -(2 ^ 64) < x % k ∧ x % k < 2 ^ 64 := by
  have a := Int.emod_nonneg x (show k ≠ 0 by omega)
  have b := Int.emod_lt_of_pos x h
  omega
@[irreducible] def spDraw : Sp := fun vs H Q _ => ∃ (a : Addr) (n c lim : Int), vs = [.ref a, .int lim] ∧ H a = some (.lst [.int n, .int c]) ∧ 0 < lim ∧ lim < 1073741824 ∧ ∀ r n' c', 0 ≤ r → r < lim → Q (.int r) (upd H a (.lst [.int n', .int c']))
theorem ok_draw {f : Addr} {fd : FuncData} (F : Fun K "_law_draw" "_law_draw" s__law_draw f fd) (m_int : mg "int" = none) : FnOk P w K mg base CX0 1 f fd ["_law_source_here", "_law_limit"] spDraw := by
  refine F.ok sc__law_draw (fun vs H Q E h => ?_) (fun cdv A outer s H vs Q E hr h => ?_)
  · unfold spDraw at h
    obtain ⟨a, n, c, lim, rfl, _⟩ := h
    rfl
  · unfold spDraw at h
    obtain ⟨a, n, c, lim, rfl, hA, h0, h1, q⟩ := h
    have hfm : ∀ x : Int, 0 ≤ x.fmod lim ∧ x.fmod lim < lim := fun x => by
      rw [Int.fmod_eq_emod_of_nonneg _ (by omega)]
      exact ⟨Int.emod_nonneg _ (by omega), Int.emod_lt_of_pos _ h0⟩
    refine ⟨_, (pss_cons (ps_set (i := 2) sc__law_draw.nd rfl (Or.inl rfl) (pe_ix ix_list (pv 0) pe_int (fun _ _ => rfl)))
    (pss_cons (ps_if (pt_cmpR op_ge (pv 2) (pe_op op_pow pe_int pe_int) (nomark _))
      (pss_cons (ps_asg (pe_op op_fdivN (pv 2) (pv 1)) (pg_sub (pv 0) pe_int set_list))
    (pss_one (ps_ret (pe_op op_modN (pe_callTy (T := "int") call_int1 (by rfl) m_int (by decide +kernel) (pa_cons (pv 2) pa_nil)) (pv 1)))))
      pss_nil)
    (pss_cons (ps_asg (pe_op op_add (pe_ix ix_list (pv 0) pe_int (fun _ _ => rfl)) pe_int) (pg_sub (pv 0) pe_int set_list))
    (pss_cons (ps_set (i := 3) sc__law_draw.nd rfl (Or.inl rfl) (pe_op op_mod (pe_callTy (T := "int") call_int1 (by rfl) m_int (by decide +kernel) (pa_cons (pe_op op_add (pe_op op_add (pe_op op_mul (pv 2) pe_int) (pe_op op_mul (pe_ix ix_list (pv 0) pe_int (fun _ _ => rfl)) pe_int)) pe_int) pa_nil)) pe_int))
    (pss_cons (ps_set (i := 3) sc__law_draw.nd rfl (Or.inl rfl) (pe_op op_mod (pe_callTy (T := "int") call_int1 (by rfl) m_int (by decide +kernel) (pa_cons (pe_op op_add (pe_op op_add (pe_op op_mul (pv 3) (pv 3)) (pv 2)) (pe_op op_mul (pe_ix ix_list (pv 0) pe_int (fun _ _ => rfl)) pe_int)) pa_nil)) pe_int))
    (pss_cons (ps_set (i := 3) sc__law_draw.nd rfl (Or.inl rfl) (pe_op op_mod (pe_callTy (T := "int") call_int1 (by rfl) m_int (by decide +kernel) (pa_cons (pe_op op_add (pe_op op_add (pe_op op_mul (pv 3) (pv 3)) (pe_op op_fdiv (pv 3) pe_int)) pe_int) pa_nil)) pe_int))
    (pss_one (ps_ret (pe_op op_modN (pe_op op_fdiv (pe_callTy (T := "int") call_int1 (by rfl) m_int (by decide +kernel) (pa_cons (pv 3) pa_nil)) pe_int) (pv 1)))))))))), ?_⟩
    walk_at "rd"
    refine ⟨_, _, _, _, rfl, rfl, sq hA, atI_nat (j := 0) rfl, ?_⟩
    walk_at "rd"
    refine ⟨⟨by decide, by decide, by decide⟩, ?_⟩
    walk_at "rd"
    refine ite2 (fun hb => ?_) (fun hb => ?_)
    · walk_at "rd"
      refine ⟨⟨by omega, by omega⟩, ?_⟩
      walk_at "rd"
      refine ⟨_, _, _, 0, rfl, rfl, hA, rfl, ?_⟩
      walk_at "rd"
      refine .inl ⟨_, rfl, ?_⟩
      walk_at "rd"
      refine ⟨by omega, ?_⟩
      exact q _ _ _ (hfm _).1 (hfm _).2
    · walk_at "rd"
      refine ⟨_, _, _, _, rfl, rfl, sq hA, atI_nat (j := 1) rfl, ?_⟩
      walk_at "rd"
      refine ⟨_, _, _, 1, rfl, rfl, hA, rfl, ?_⟩
      -- the first mixing
      walk_at "rd"
      refine ⟨.inr ⟨by decide, by decide⟩, ?_⟩
      walk_at "rd"
      refine ⟨_, _, _, _, rfl, rfl, sq upd_same, atI_nat (j := 1) rfl, ?_⟩
      walk_at "rd"
      refine ⟨.inr ⟨by decide, by decide⟩, ?_⟩
      walk_at "rd"
      refine .inl ⟨_, rfl, ?_⟩
      walk_at "rd"
      refine ⟨by show (0 : Int) < 2147483647; decide, ?_⟩
      -- the second
      walk_at "rd"
      refine ⟨.inl (modb _ (by decide) (by decide)), ?_⟩
      walk_at "rd"
      refine ⟨_, _, _, _, rfl, rfl, sq upd_same, atI_nat (j := 1) rfl, ?_⟩
      walk_at "rd"
      refine ⟨.inr ⟨by decide, by decide⟩, ?_⟩
      walk_at "rd"
      refine .inl ⟨_, rfl, ?_⟩
      walk_at "rd"
      refine ⟨by show (0 : Int) < 2147483629; decide, ?_⟩
      -- the third
      walk_at "rd"
      refine ⟨.inl (modb _ (by decide) (by decide)), ?_⟩
      walk_at "rd"
      refine ⟨⟨by decide, by decide⟩, ?_⟩
      walk_at "rd"
      refine .inl ⟨_, rfl, ?_⟩
      walk_at "rd"
      refine ⟨by show (0 : Int) < 2147483587; decide, ?_⟩
      -- the answer
      walk_at "rd"
      refine .inl ⟨_, rfl, ?_⟩
      walk_at "rd"
      refine ⟨⟨by decide, by decide⟩, ?_⟩
      walk_at "rd"
      refine ⟨by omega, ?_⟩
      exact q _ _ _ (hfm _).1 (hfm _).2
/-- some other source, or none -/
theorem draw_of {H : Hp} {a : Addr} {lim : Int} {Q : VK} {E : XK} (hA : Src H a) (h0 : 0 < lim ∧ lim < 1073741824) (q : ∀ r H', 0 ≤ r → r < lim → SameBut a H H' → Src H' a → Q (.int r) H') : spDraw [.ref a, .int lim] H Q E := by
  obtain ⟨n, c, hA⟩ := hA
  unfold spDraw
  exact ⟨a, n, c, lim, rfl, hA, h0.1, h0.2, fun r n' c' h1 h2 => q r _ h1 h2 SameBut.upd ⟨n', c', upd_same⟩⟩



theorem pw3 : ∀ {k : Nat}, k ≤ 3 → ((2 ^ 20 : Int) ^ k) ≤ 2 ^ 60
  | 0, _ => by decide
  | 1, _ => by decide
  | 2, _ => by decide
  | 3, _ => by decide
  | n + 4, h => absurd h (by omega)
theorem pow2 {i : Int} {n : Nat} (h : i.natAbs < 2 ^ 62) : -(2 ^ 64) < i ∧ i < 2 ^ 64 := by omega
/-! ### progression, is_in, bezout -/
def tp (a b : Int) : HO := .tup [.int a, .int b]
def spProg : Sp := fun vs H Q _ => ∃ m r : Int, vs = [.int m, .int r] ∧ 0 ≤ m ∧ ∀ p H', Same H H' → H p = none → H' p = some (tp m (prg m r)) → Q (.ref p) H'
theorem ok_progression {f : Addr} {fd : FuncData} (F : Fun K "progression" "progression" s_progression f fd) : FnOk P w K mg base CX0 1 f fd ["modulus", "rest"] spProg := by
  refine F.ok sc_progression (fun vs H Q E h => ?_) (fun cdv A outer s H vs Q E hr h => ?_)
  · obtain ⟨m, r, rfl, _⟩ := h
    rfl
  · obtain ⟨m, r, rfl, hm, q⟩ := h
    refine ⟨_, (pss_one (ps_ret (pe_tup (pa_cons (pv 0) (pa_cons (pe_ifExp (pt_cmpR op_eq (pv 0) pe_int (nomark _)) (pv 1) (pe_op op_mod (pv 1) (pv 0))) pa_nil))))), ?_⟩
    walk_at "rd"
    refine ite2 (fun h0 => ?_) (fun h0 => ?_)
    · have e : m = 0 := V.int.inj (of_decide_eq_true h0)
      subst e
      walk_at "rd"
      refine ⟨sz (by show 2 ≤ 100000; decide), fun p np => q p _ (same_new np) np upd_same⟩
    · have e : m ≠ 0 := fun e => h0 (decide_eq_true (congrArg V.int e))
      walk_at "rd"
      refine ⟨by omega, ?_⟩
      walk_at "rd"
      refine ⟨sz (by show 2 ≤ 100000; decide), fun p np => q p _ (same_new np) np ?_⟩
      rw [upd_same]
      unfold tp prg
      rw [if_neg e]
def spIsIn (K : PySem.W.Frag) : Sp := fun vs H Q _ => ∃ (n m r : Int) (p : Addr), vs = [.int n, .ref p] ∧ SqT K H p [.int m, .int r] ∧ 0 ≤ m ∧ ∀ b H', Same H H' → (b = true ↔ m ∣ n - r) → Q (.bl b) H'
theorem dvd_dec {m x : Int} (h : m ≠ 0) : (decide (V.int (x % m) = V.int 0) = true) ↔ m ∣ x := by
  rw [decide_eq_true_iff]
  constructor
  · exact fun e => Int.dvd_of_emod_eq_zero (V.int.inj e)
  · exact fun e => congrArg V.int (Int.emod_eq_zero_of_dvd e)
theorem zero_dec {x y : Int} : (decide (V.int x = V.int y) = true) ↔ (0 : Int) ∣ x - y := by
  rw [decide_eq_true_iff, Int.zero_dvd]
  constructor
  · intro e
    have := V.int.inj e
    omega
  · intro e
    rw [show x = y by omega]
theorem ok_is_in {f : Addr} {fd : FuncData} (F : Fun K "is_in" "is_in" s_is_in f fd) : FnOk P w K mg base CX0 1 f fd ["number", "steps"] (spIsIn K) := by
  refine F.ok sc_is_in (fun vs H Q E h => ?_) (fun cdv A outer s H vs Q E hr h => ?_)
  · obtain ⟨n, m, r, p, rfl, _⟩ := h
    rfl
  · obtain ⟨n, m, r, p, rfl, hp, hm, q⟩ := h
    refine ⟨_, (pss_cons (ps_asg (pv 1) (pg_tup rfl (pgs_cons (pg_name (i := 2) sc_is_in.nd rfl (Or.inl rfl)) (pgs_cons (pg_name (i := 3) sc_is_in.nd rfl (Or.inl rfl)) pgs_nil))))
    (pss_one (ps_ret (pe_ifExp (pt_cmpR op_eq (pv 2) pe_int (nomark _)) (pe_cmpR op_eq (pv 0) (pv 3) (nomark _)) (pe_cmpR op_eq (pe_op op_mod (pe_op op_sub (pv 0) (pv 3)) (pv 2)) pe_int (nomark _)))))), ?_⟩
    walk_at "rd"
    refine ⟨_, _, rfl, hp, rfl, _, _, rfl, _, _, rfl, rfl, ?_⟩
    walk_at "rd"
    refine ite2 (fun h0 => ?_) (fun h0 => ?_)
    · have e : m = 0 := V.int.inj (of_decide_eq_true h0)
      subst e
      walk_at "rd"
      exact q (decide (V.int n = V.int r)) H (Same.refl H) zero_dec
    · have e : m ≠ 0 := fun e => h0 (decide_eq_true (congrArg V.int e))
      walk_at "rd"
      refine ⟨by omega, ?_⟩
      walk_at "rd"
      exact q (decide (V.int ((n - r) % m) = V.int 0)) H (Same.refl H) (dvd_dec e)
/-- a triple of ints at p -/
def spBez : Sp := fun vs H Q _ => ∃ f s : Int, vs = [.int f, .int s] ∧ 0 ≤ s ∧ f.natAbs < 2 ^ 62 ∧ s.natAbs < 2 ^ 62 ∧
  ∀ p g x y H', Same H H' → H p = none → H' p = some (.tup [.int g, .int x, .int y]) → g = (Int.gcd f s : Int) → (∃ z, g = x * f + z * s) → Q (.ref p) H'
structure BzW (f s : Int) (H0 : Hp) (m : Nat) (p q : Addr) (r x y r' x' y' : Int) (H : Hp) : Prop where
  m : m = r'.toNat
  sm : Same H0 H
  np : H0 p = none
  nq : H0 q = none
  hp : H p = some (.tup [.int r, .int x, .int y])
  hq : H q = some (.tup [.int r', .int x', .int y'])
  bz : Bz f s r x r' x'
theorem ok_bezout {f : Addr} {fd : FuncData} (F : Fun K "bezout" "bezout" s_bezout f fd) (m_zip : mg "zip" = none) (m_tuple : mg "tuple" = none) : FnOk P w K mg base CX0 1 f fd ["first", "second"] spBez := by
  refine F.ok sc_bezout (fun vs H Q E h => ?_) (fun cdv A outer s H vs Q E hr h => ?_)
  · obtain ⟨m, r, rfl, _⟩ := h
    rfl
  · obtain ⟨a, b, rfl, hb, b1, b2, q⟩ := h
    refine ⟨_, (pss_cons (ps_set (i := 2) sc_bezout.nd rfl (Or.inl rfl) (pe_tup (pa_cons (pv 0) (pa_cons pe_int (pa_cons pe_int pa_nil)))))
    (pss_cons (ps_set (i := 3) sc_bezout.nd rfl (Or.inl rfl) (pe_tup (pa_cons (pv 1) (pa_cons pe_int (pa_cons pe_int pa_nil)))))
    (pss_cons (ps_while PassesOwn.never (pt_cmpR op_ne (pe_ix ix_tup (pv 3) pe_int (fun _ _ => rfl)) pe_int (nomark _))
      (pss_cons (ps_set (i := 4) sc_bezout.nd rfl (Or.inr rfl) (pe_op op_fdivW (pe_ix ix_tup (pv 2) pe_int (fun _ _ => rfl)) (pe_ix ix_tup (pv 3) pe_int (fun _ _ => rfl))))
    (pss_one (ps_par (i := 2) (j := 3) rfl sc_bezout.nd rfl rfl (by decide) rfl rfl (pa_cons (pv 3) (pa_cons (pe_callTy (T := "tuple") call_tuple_of (by rfl) m_tuple (by decide +kernel) (pa_cons (pe_lc (own := [("its", 6), ("own", 7)]) (tt := tYes) rfl sc_bezout.nd (RZ.pi_zipA (by rfl) m_zip (pa_cons (pv 2) (pa_cons (pv 3) pa_nil))) (blkOk_by (N := n_bezout) (sc := defScope s_bezout) (by decide +kernel)) (fun _ _ _ _ _ => pg_tupK (K := K) (n := 2) rfl rfl (pgs_cons (pg_name (i := 6) sc_bezout.nd rfl (Or.inl rfl)) (pgs_cons (pg_name (i := 7) sc_bezout.nd rfl (Or.inl rfl)) pgs_nil))) (fun _ _ _ _ _ => pts_nil) (fun _ _ _ _ _ => (pe_op op_sub (pv 6) (pe_op op_mul (pv 4) (pv 7))))) pa_nil)) pa_nil)) (by rfl)))))
    (pss_one (ps_ret (pe_ifExp (pt_cmpR op_ge (pe_ix ix_tup (pv 2) pe_int (fun _ _ => rfl)) pe_int (nomark _)) (pv 2) (pe_callTy (T := "tuple") call_tuple_of (by rfl) m_tuple (by decide +kernel) (pa_cons (pe_lc (own := [("number", 5)]) (tt := tYes) rfl sc_bezout.nd (pi_tup (pv 2)) (blkOk_by (N := n_bezout) (sc := defScope s_bezout) (by decide +kernel)) (fun _ _ _ _ _ => pg_name (i := 5) sc_bezout.nd rfl (Or.inl rfl)) (fun _ _ _ _ _ => pts_nil) (fun _ _ _ _ _ => (pe_un un_neg (pv 5)))) pa_nil)))))))), ?_⟩
    walk_at "rd"
    refine ⟨sz (by show 3 ≤ 100000; decide), fun p np => ?_⟩
    walk_at "rd"
    refine ⟨sz (by show 3 ≤ 100000; decide), fun p2 np2 => ?_⟩
    have n12 : p ≠ p2 := ne_of_none (show (upd H p _) p = _ from upd_same) np2
    have np20 : H p2 = none := by rw [upd_ne n12.symm] at np2; exact np2
    refine ⟨fun m σ H' => ∃ (p q : Addr) (o : Option V) (r x y r' x' y' : Int), σ = [some (.int a), some (.int b), some (.ref p), some (.ref q), o, none, none, none] ∧ BzW a b H m p q r x y r' x' y' H', ⟨_, p, p2, none, a, 1, 0, b, 0, 1, rfl, rfl, (same_new np).trans (same_new np2), np, np20, by rw [upd_ne n12]; exact upd_same, upd_same, bz_start hb b1 b2⟩, ?_⟩
    rintro m σ H1 ⟨u, v, o, r, x, y, r', x', y', rfl, rfl, s1, nu, nv, hu1, hv1, bz⟩
    walk_at "rd"
    refine ⟨_, _, _, _, rfl, rfl, sqt hv1, atI_nat (j := 0) rfl, ?_⟩
    walk_at "rd"
    refine ite2 (fun h0 => ?_) (fun h0 => ?_)
    · have e : r' ≠ 0 := int_nt h0
      have hp : 0 < r' := by have := bz.nn; omega
      obtain ⟨bz2, hlt, hq⟩ := bz_turn bz hp
      refine ⟨fun σ' H' => ∃ m', m' < r'.toNat ∧ ∃ (p q : Addr) (o : Option V) (r x y r' x' y' : Int), σ' = [some (.int a), some (.int b), some (.ref p), some (.ref q), o, none, none, none] ∧ BzW a b H m' p q r x y r' x' y' H', fun σ' H' h => h, ?_⟩
      walk_at "rd"
      refine ⟨_, _, _, _, rfl, rfl, sqt hu1, atI_nat (j := 0) rfl, ?_⟩
      walk_at "rd"
      refine ⟨_, _, _, _, rfl, rfl, sqt hv1, atI_nat (j := 0) rfl, ?_⟩
      refine ⟨r, r', rfl, rfl, wide_div hp (b := 62) bz.b2 (by decide) (by decide), ?_⟩
      walk_at "rd"
      refine ⟨u, v, _, _, rfl, .inr ⟨sqt hu1, sqt hv1, ?_⟩⟩
      intro D hD
      have nD : H D = none := s1.free hD
      refine lc_it (Zx.walk_zipT (n := 3) rfl) (fun i H' => H' D = some (.lst ((([r - r / r' * r', x - r / r' * x', y - r / r' * y'] : List Int).take i).map V.int)) ∧ Same H1 H') ⟨upd_same, same_new hD⟩ (fun i H' _ ⟨_, s⟩ => ⟨Bx.Same.tup s (sqt hu1), Bx.Same.tup s (sqt hv1)⟩) ?_ ?_
      · have hi3 : ∀ {i : Nat} {e1 e2 : V}, [V.int r, V.int x, V.int y][i]? = some e1 → [V.int r', V.int x', V.int y'][i]? = some e2 → ∃ c d : Int, e1 = .int c ∧ e2 = .int d ∧ [r - r / r' * r', x - r / r' * x', y - r / r' * y'][i]? = some (c - r / r' * d) := by
          intro i e1 e2 g1 g2
          match i, g1, g2 with
          | 0, g1, g2 => cases g1; cases g2; exact ⟨_, _, rfl, rfl, rfl⟩
          | 1, g1, g2 => cases g1; cases g2; exact ⟨_, _, rfl, rfl, rfl⟩
          | 2, g1, g2 => cases g1; cases g2; exact ⟨_, _, rfl, rfl, rfl⟩
          | n + 3, g1, g2 => cases g1
        rintro i z H2 H3 hi ⟨hd, s2⟩ ⟨T, e1, e2, rfl, nT, rfl, g1, g2⟩
        obtain ⟨c, d, rfl, rfl, hcd⟩ := hi3 g1 g2
        refine ⟨_, _, rfl, sqt upd_same, rfl, _, _, rfl, _, _, rfl, rfl, ?_⟩
        refine ⟨rfl, ?_⟩
        walk_at "rd"
        refine ⟨.inl (pow2 (n := 0) hq), ?_⟩
        walk_at "rd"
        have nTD : T ≠ D := fun e => by rw [e, hd] at nT; cases nT
        refine ⟨_, by rw [upd_ne nTD.symm]; exact hd, ?_, ?_, ?_⟩
        · rw [List.length_map, List.length_take]
          exact szl (by omega)
        · rw [upd_same, List.take_add_one, hcd, List.map_append]
          rfl
        · exact same_at hD (s2.trans (same_new nT))
      · rintro H2 ⟨hd, s2⟩
        walk_at "rd"
        refine ⟨_, _, rfl, .inl ⟨sq hd, fun t nt => ?_⟩⟩
        walk_at "rd"
        have s3 : Same H1 (upd H2 t (.tup ([r - r / r' * r', x - r / r' * x', y - r / r' * y'].map V.int))) := s2.trans (same_new nt)
        refine ⟨_, _, rfl, _, hlt, v, t, _, r', x', y', _, _, _, rfl, rfl, s1.trans s3, nv, s1.free (s2.free nt), s3 _ _ hv1, upd_same, bz2⟩
    · have e : r' = 0 := int_nf h0
      subst e
      have hg := bz_end bz
      obtain ⟨z, ez⟩ := bz.e1
      walk_at "rd"
      refine ⟨_, _, _, _, rfl, rfl, sqt hu1, atI_nat (j := 0) rfl, ?_⟩
      walk_at "rd"
      refine ite2 (fun h1 => ?_) (fun h1 => ?_)
      · have e : 0 ≤ r := of_decide_eq_true h1
        rw [if_neg (by omega)] at hg
        walk_at "rd"
        exact q u r x y H1 s1 nu hu1 hg.symm ⟨z, ez⟩
      · have e : r < 0 := by
          have := of_decide_eq_false (Bool.not_eq_true _ ▸ h1)
          omega
        rw [if_pos e] at hg
        walk_at "rd"
        refine ⟨⟨_, sqt hu1⟩, fun D hD => lc_it walk_tup (fun i H' => H' D = some (.lst ((([-r, -x, -y] : List Int).take i).map V.int)) ∧ Same H1 H') ⟨upd_same, same_new hD⟩ (fun i H' _ ⟨_, s⟩ => Bx.Same.tup s (sqt hu1)) ?_ ?_⟩
        · have hi3 : ∀ {i : Nat} {e1 : V}, [V.int r, V.int x, V.int y][i]? = some e1 → ∃ c : Int, e1 = .int c ∧ [-r, -x, -y][i]? = some (-c) := by
            intro i e1 g1
            match i, g1 with
            | 0, g1 => cases g1; exact ⟨_, rfl, rfl⟩
            | 1, g1 => cases g1; exact ⟨_, rfl, rfl⟩
            | 2, g1 => cases g1; exact ⟨_, rfl, rfl⟩
            | n + 3, g1 => cases g1
          rintro i z H2 H3 hi ⟨hd, s2⟩ ⟨rfl, g1⟩
          have hi2 : i < 3 := hi
          obtain ⟨c, rfl, hcd⟩ := hi3 g1
          walk_at "rd"
          refine ⟨_, hd, ?_, ?_, ?_⟩
          · rw [List.length_map, List.length_take]
            exact szl (by omega)
          · rw [upd_same, List.take_add_one, hcd, List.map_append]
            rfl
          · exact same_at hD s2
        · rintro H2 ⟨hd, s2⟩
          refine ⟨_, _, rfl, .inl ⟨sq hd, fun t nt => ?_⟩⟩
          have s3 : Same H1 (upd H2 t (.tup ([-r, -x, -y].map V.int))) := s2.trans (same_new nt)
          refine q t (-r) (-x) (-y) _ (s1.trans s3) (s1.free (s2.free nt)) upd_same hg.symm ⟨-z, ?_⟩
          show -r = -x * a + -z * b
          rw [Int.neg_mul, Int.neg_mul, ez]
          omega
/-! ### solve_one, meet -/
def spSolve : Sp := fun vs H Q _ => ∃ c m r : Int, vs = [.int c, .int m, .int r] ∧ 0 ≤ m ∧ c.natAbs < 2 ^ 62 ∧ m.natAbs < 2 ^ 62 ∧ r.natAbs < 2 ^ 62 ∧
  (¬ (Int.gcd c m : Int) ∣ r → ∀ H', Same H H' → Q .non H') ∧
  ((Int.gcd c m : Int) ∣ r → ∀ p a b H', Same H H' → H p = none → H' p = some (tp a b) → Solved c m r a b → Q (.ref p) H')
theorem ok_solve_one {f : Addr} {fd : FuncData} (F : Fun K "solve_one" "solve_one" s_solve_one f fd) (C_bezout : Cal P w K mg base "bezout" 1 ["first", "second"] spBez) (C_progression : Cal P w K mg base "progression" 1 ["modulus", "rest"] spProg) : FnOk P w K mg base CX0 2 f fd ["coefficient", "modulus", "rest"] spSolve := by
  refine F.ok sc_solve_one (fun vs H Q E h => ?_) (fun cdv A outer s H vs Q E hr h => ?_)
  · obtain ⟨c, m, r, rfl, _⟩ := h
    rfl
  · obtain ⟨c, m, r, rfl, hm, b1, b2, b3, q1, q2⟩ := h
    refine ⟨_, (pss_cons (ps_asg (pe_cal C_bezout (hr.mono (by decide)) (pa_cons (pv 0) (pa_cons (pv 1) pa_nil))) (pg_tup rfl (pgs_cons (pg_name (i := 3) sc_solve_one.nd rfl (Or.inl rfl)) (pgs_cons (pg_name (i := 4) sc_solve_one.nd rfl (Or.inl rfl)) (pgs_cons (pg_name (i := 5) sc_solve_one.nd rfl (Or.inl rfl)) pgs_nil)))))
    (pss_cons (ps_if (pt_cmpR op_eq (pv 3) pe_int (nomark _))
      (pss_one (ps_ret (pe_ifExp (pt_cmpR op_eq (pv 2) pe_int (nomark _)) (pe_tup (pa_cons pe_int (pa_cons pe_int pa_nil))) pe_non)))
      pss_nil)
    (pss_cons (ps_if (pt_cmpR op_ne (pe_op op_mod (pv 2) (pv 3)) pe_int (nomark _))
      (pss_one (ps_ret pe_non))
      pss_nil)
    (pss_one (ps_ret (pe_cal C_progression (hr.mono (by decide)) (pa_cons (pe_op op_fdivW (pv 1) (pv 3)) (pa_cons (pe_op op_mul (pe_op op_fdivW (pv 2) (pv 3)) (pv 4)) pa_nil)))))))), ?_⟩
    walk_at "rd"
    refine ⟨c, m, rfl, hm, b1, b2, fun p g x y H1 s1 np hp hg hz => ?_⟩
    refine ⟨_, _, rfl, sqt hp, rfl, _, _, rfl, _, _, rfl, _, _, rfl, rfl, ?_⟩
    walk_at "rd"
    refine ite2 (fun h0 => ?_) (fun h0 => ?_)
    · have e := int_t h0
      subst e
      walk_at "rd"
      refine ite2 (fun h1 => ?_) (fun h1 => ?_)
      · have e2 := int_t h1
        walk_at "rd"
        refine ⟨sz (by show 2 ≤ 100000; decide), fun t nt => ?_⟩
        exact q2 (by rw [e2]; exact Int.dvd_zero _) t 1 0 _ (s1.trans (same_new nt)) (s1.free nt) upd_same (solved_zero hg.symm e2)
      · have e2 := int_f h1
        walk_at "rd"
        refine q1 (fun z => e2 ?_) H1 s1
        rw [← hg] at z
        exact Int.zero_dvd.mp z
    · have e := int_f h0
      have g0 : 0 < g := by omega
      walk_at "rd"
      refine ⟨g0, ?_⟩
      walk_at "rd"
      refine ite2 (fun h1 => ?_) (fun h1 => ?_)
      · have e2 := int_nt h1
        walk_at "rd"
        refine q1 (fun z => e2 ?_) H1 s1
        rw [← hg] at z
        exact Int.emod_eq_zero_of_dvd z
      · have e2 : g ∣ r := Int.dvd_of_emod_eq_zero (int_nf h1)
        walk_at "rd"
        have hgb : g.natAbs < 2 ^ 62 := by
          rw [hg]
          by_cases hc : c = 0
          · subst hc
            rw [Int.gcd_zero_left]
            exact b2
          · have : Int.gcd c m ≤ c.natAbs := Nat.le_of_dvd (by omega) (Int.ofNat_dvd_left.mp (Int.gcd_dvd_left c m))
            omega
        refine ⟨wide_div g0 (b := 62) hgb (by decide) (by decide), ?_⟩
        walk_at "rd"
        refine ⟨wide_div g0 (b := 62) hgb (by decide) (by decide), ?_⟩
        walk_at "rd"
        refine ⟨.inl (pow2 (n := 0) (Nat.lt_of_le_of_lt (Int.natAbs_ediv_le_natAbs r g) b3)), ?_⟩
        refine ⟨_, _, rfl, Int.ediv_nonneg hm (by omega), fun p2 H2 s2 np2 hp2 => ?_⟩
        exact q2 (hg ▸ e2) p2 _ _ H2 (s1.trans s2) (s1.free np2) hp2 (solved_of hm hg.symm g0 e2 hz)
def szm (ps : List (Int × Int)) : Prop := ∀ p ∈ ps, 0 ≤ p.1 ∧ p.1 < 2 ^ 20 ∧ p.2.natAbs < 2 ^ 21
/-- tuples of pairs -/
def prD (p : Int × Int) : PyData := .tuple [.int p.1, .int p.2]
theorem pr_inv {H : Hp} {v : V} {p : Int × Int} (h : Dp K H v (prD p)) : ∃ a, v = .ref a ∧ SqT K H a [.int p.1, .int p.2] := by
  obtain ⟨a, xs, rfl, s, t⟩ := dp_tup h
  cases t with
  | cons h1 t =>
    cases t with
    | cons h2 t =>
      cases t
      rw [dp_int h1, dp_int h2] at s
      exact ⟨a, rfl, s⟩
theorem pr_dp {H : Hp} {a : Addr} {p : Int × Int} (s : SqT K H a [.int p.1, .int p.2]) : Dp K H (.ref a) (prD p) := .tup s (.cons (.int _) (.cons (.int _) .nil))
def spMeet (K : PySem.W.Frag) : Sp := fun vs H Q _ => ∃ ps : List (Int × Int), DpAll K H vs (ps.map prD) ∧ ps.length ≤ 4 ∧ szm ps ∧
  ((¬ ∀ p ∈ ps, ∀ q ∈ ps, Fit p q) → ∀ H', Same H H' → Q .non H') ∧
  (∀ p R H', Same H H' → H p = none → H' p = some (tp (lmL ps) R) → Meets ps (lmL ps) R → (lmL ps = 0 ∨ (0 ≤ R ∧ R < lmL ps)) → Q (.ref p) H')
def spMeet0 (K : PySem.W.Frag) : Sp := fun vs H Q _ => ∃ (a : Addr) (xs : List V) (ps : List (Int × Int)), vs = [.ref a] ∧ SqT K H a xs ∧ DpAll K H xs (ps.map prD) ∧ ps.length ≤ 4 ∧ szm ps ∧
  ((¬ ∀ p ∈ ps, ∀ q ∈ ps, Fit p q) → ∀ H', Same H H' → Q .non H') ∧
  (∀ p R H', Same H H' → H p = none → H' p = some (tp (lmL ps) R) → Meets ps (lmL ps) R → (lmL ps = 0 ∨ (0 ≤ R ∧ R < lmL ps)) → Q (.ref p) H')
theorem ok_meet {f : Addr} {fd : FuncData} (F : Fun K "meet" "meet" s_meet f fd) (C_solve_one : Cal P w K mg base "solve_one" 2 ["coefficient", "modulus", "rest"] spSolve) (C_progression : Cal P w K mg base "progression" 1 ["modulus", "rest"] spProg) : FnR P w K mg base CX0 3 f (spMeet K) := by
  have z := okStar (P := P) (w := w) (K := K) (mg := mg) (base := base) (sp := spMeet0 K) (k := 2) F sc_meet (fun _ _ _ _ _ _ rest => match rest with | [] => rfl | _ :: _ => rfl) (fun cdv A outer s H vs Q E hr h => ?_)
  · refine z.imp fun vs H Q E h => ?_
    obtain ⟨ps, hd, hl, hz, q1, q2⟩ := h
    refine ⟨by rw [da_len hd, List.length_map]; exact sz (by omega), fun p np => ⟨p, vs, ps, rfl, sqt upd_same, dpAll_same (same_new np) hd, hl, hz, fun n H' s => q1 n H' ((same_new np).trans s), fun r R H' s nr => q2 r R H' ((same_new np).trans s) ((same_new np).free nr)⟩⟩
  · obtain ⟨a, xs, ps, rfl, hs, hd, hl, hz, q1, q2⟩ := h
    refine ⟨_, PSs.nox ((pss_cons (ps_asg (pe_tup (pa_cons pe_int (pa_cons pe_int pa_nil))) (pg_tup rfl (pgs_cons (pg_name (i := 1) sc_meet.nd rfl (Or.inl rfl)) (pgs_cons (pg_name (i := 2) sc_meet.nd rfl (Or.inl rfl)) pgs_nil))))
    (pss_cons (ps_for PassesOwn.never rfl (pi_tup (pv 0)) (pg_tup rfl (pgs_cons (pg_name (i := 3) sc_meet.nd rfl (Or.inl rfl)) (pgs_cons (pg_name (i := 4) sc_meet.nd rfl (Or.inl rfl)) pgs_nil)))
      (pss_cons (ps_set (i := 5) sc_meet.nd rfl (Or.inl rfl) (pe_cal C_solve_one (hr.mono (by decide)) (pa_cons (pv 1) (pa_cons (pv 3) (pa_cons (pe_op op_sub (pv 4) (pv 2)) pa_nil)))))
    (pss_cons (ps_if (pt_cmpR op_isN (pv 5) pe_non (nomark _))
      (pss_one (ps_ret pe_non))
      pss_nil)
    (pss_one (ps_asg (pe_cal C_progression (hr.mono (by decide)) (pa_cons (pe_op op_mul (pv 1) (pe_ix ix_tup (pv 5) pe_int (fun _ _ => rfl))) (pa_cons (pe_op op_add (pv 2) (pe_op op_mul (pv 1) (pe_ix ix_tup (pv 5) pe_int (fun _ _ => rfl)))) pa_nil))) (pg_tup rfl (pgs_cons (pg_name (i := 1) sc_meet.nd rfl (Or.inl rfl)) (pgs_cons (pg_name (i := 2) sc_meet.nd rfl (Or.inl rfl)) pgs_nil))))))))
    (pss_one (ps_ret (pe_tup (pa_cons (pv 1) (pa_cons (pv 2) pa_nil)))))))), ?_⟩
    walk_at "rd"
    refine ⟨sz (by show 2 ≤ 100000; decide), fun t nt => ?_⟩
    refine ⟨_, _, rfl, sqt upd_same, rfl, _, _, rfl, _, _, rfl, rfl, ?_⟩
    walk_at "rd"
    have hs1 : SqT K (upd H t (.tup [.int 1, .int 0])) a xs := Bx.Same.tup (same_new nt) hs
    have hxl : xs.length = ps.length := by rw [da_len hd, List.length_map]
    refine ⟨⟨_, hs1⟩, for_it walk_tup (fun i σ H' => ∃ (R : Int) (o3 o4 o5 : Option V), σ = [some (.ref a), some (.int (lmL (ps.take i))), some (.int R), o3, o4, o5] ∧ Same H H' ∧ Meets (ps.take i) (lmL (ps.take i)) R ∧ (lmL (ps.take i) = 0 ∨ (0 ≤ R ∧ R < lmL (ps.take i))) ∧ (i ≤ 3 → R.natAbs < 2 ^ 61)) ⟨0, none, none, none, rfl, same_new nt, meets_nil, .inr ⟨Int.le_refl _, (by decide : (0 : Int) < 1)⟩, fun _ => by decide⟩ (fun i σ H' _ ⟨_, _, _, _, _, s, _⟩ => Bx.Same.tup s hs) ?_ ?_⟩
    · rintro i x σ H1 H2 hi ⟨R, o3, o4, o5, rfl, s1, hm, hR, hRb⟩ ⟨rfl, hx⟩
      obtain ⟨d, hd2, hxd⟩ := da_at hd hx
      rw [List.getElem?_map] at hd2
      obtain ⟨p, hp, rfl⟩ : ∃ p, ps[i]? = some p ∧ d = prD p := by
        cases e : ps[i]? with
        | none => rw [e] at hd2; cases hd2
        | some p => rw [e] at hd2; cases hd2; exact ⟨p, rfl, rfl⟩
      obtain ⟨pa, rfl, hpa⟩ := pr_inv hxd
      obtain ⟨z1, z2, z3⟩ := hz p (List.mem_of_getElem? hp)
      have htk : ps.take (i + 1) = ps.take i ++ [p] := by rw [List.take_add_one, hp]; rfl
      have hsz := lm_size (ps := ps.take i) fun q hq => ⟨(hz q (List.mem_of_mem_take hq)).1, (hz q (List.mem_of_mem_take hq)).2.1⟩
      rw [List.length_take] at hsz
      have hM : lmL (ps.take i) ≤ 2 ^ 60 := by
        exact Int.le_trans hsz.2 (pw3 (by omega))
      have hM0 := hsz.1
      have hRb := hRb (by omega)
      have gRb : (p.2 - R).natAbs < 2 ^ 62 := by omega
      refine ⟨_, _, rfl, Bx.Same.tup s1 hpa, rfl, _, _, rfl, _, _, rfl, rfl, ?_⟩
      walk_at "rd"
      refine ⟨_, _, _, rfl, z1, by omega, by omega, gRb, fun hno H3 s3 => ?_, fun hyes q a1 b1 H3 s3 nq hq hsol => ?_⟩
      · walk_at "rd"
        refine ite2 (fun _ => ?_) (fun h => absurd rfl h)
        walk_at "rd"
        refine q1 (fun z => ?_) H3 (s1.trans s3)
        exact no_snoc hm hno fun q hq => z q (List.mem_of_mem_take hq) p (List.mem_of_getElem? hp)
      · walk_at "rd"
        have hMb : (lmL (ps.take i)).natAbs < 2 ^ 62 := by omega
        refine ⟨_, _, _, _, rfl, rfl, sqt hq, atI_nat (j := 0) rfl, ?_⟩
        refine ⟨_, _, rfl, rfl, .inl (pow2 (n := 0) hMb), ?_⟩
        walk_at "rd"
        refine ⟨_, _, _, _, rfl, rfl, sqt hq, atI_nat (j := 1) rfl, ?_⟩
        refine ⟨_, _, rfl, rfl, .inl (pow2 (n := 0) hMb), ?_⟩
        walk_at "rd"
        obtain ⟨e1, hm2⟩ := meets_snoc hm hsol
        have hsz2 := lm_size (ps := ps.take i ++ [p]) fun q hq => by
          rw [← htk] at hq
          exact ⟨(hz q (List.mem_of_mem_take hq)).1, (hz q (List.mem_of_mem_take hq)).2.1⟩
        have hM2 : 0 ≤ lmL (ps.take i) * a1 := by rw [← e1]; exact hsz2.1
        refine ⟨_, _, rfl, hM2, fun r H4 s4 nr hr4 => ?_⟩
        refine ⟨_, _, rfl, sqt hr4, rfl, _, _, rfl, _, _, rfl, rfl, ?_⟩
        rw [← htk] at e1 hm2
        refine ⟨_, _, _, _, by rw [e1]; rfl, (s1.trans s3).trans s4, by rw [e1]; exact hm2, by rw [e1]; exact prg_p hM2, fun hi3 => ?_⟩
        refine prg_size hsol hRb z3 hM2 ?_
        rw [← e1, htk]
        refine Int.le_trans hsz2.2 (pw3 ?_)
        rw [← htk, List.length_take]
        omega
    · rintro σ H1 ⟨R, o3, o4, o5, rfl, s1, hm, hR, hRb⟩
      rw [hxl, List.take_length] at hm hR ⊢
      walk_at "rd"
      refine ⟨sz (by show 2 ≤ 100000; decide), fun t2 nt2 => ?_⟩
      exact q2 t2 R _ (s1.trans (same_new nt2)) (s1.free nt2) upd_same hm hR
end
end K30
namespace K30
local macro_rules | `(tactic| walk_at "rd") => `(tactic| repeat (first | refine ⟨rfl, ?_⟩ | refine ⟨_, rfl, ?_⟩ | refine ⟨_, _, rfl, rfl, ?_⟩ | refine ⟨⟨_, rfl⟩, ?_⟩))
open PySem PySem.Spec PyProof.Rows L2 Bx TL Dx Zx M30
section
variable {P : Program} {w : World} {K : PySem.W.Frag} {mg : Str → Option Value} {base : Heap}
/-! ### the law's own numbers -/
@[irreducible] def spSize : Sp := fun vs H Q E => ∃ (a : Addr) (most : Int), vs = [.ref a, .int most] ∧ Src H a ∧ 13 ≤ most ∧ most < 1073741824 ∧ ∀ r H', 0 ≤ r → r < most → SameBut a H H' → Src H' a → Q (.int r) H'
theorem ok_size {f : Addr} {fd : FuncData} (F : Fun K "_law_size" "_law_size" s__law_size f fd) (C__law_draw : Cal P w K mg base "_law_draw" 1 ["_law_source_here", "_law_limit"] spDraw) : FnOk P w K mg base CX0 2 f fd ["_law_source_here", "_law_most"] spSize := by
  refine F.ok sc__law_size (fun vs H Q E h => ?_) (fun cdv A outer s H vs Q E hr h => ?_)
  · unfold spSize at h
    obtain ⟨a, n, rfl, _⟩ := h
    rfl
  · unfold spSize at h
    obtain ⟨a, n, rfl, hA, h0, h1, q⟩ := h
    refine ⟨_, (pss_cons (ps_set (i := 2) sc__law_size.nd rfl (Or.inl rfl) (pe_cal C__law_draw (hr.mono (by decide)) (pa_cons (pv 0) (pa_cons pe_int pa_nil))))
    (pss_cons (ps_if (pt_cmpR op_eq (pv 2) pe_int (nomark _))
      (pss_one (ps_ret (pe_cal C__law_draw (hr.mono (by decide)) (pa_cons (pv 0) (pa_cons pe_int pa_nil)))))
      pss_nil)
    (pss_cons (ps_if (pt_cmpR op_lt (pv 2) pe_int (nomark _))
      (pss_one (ps_ret (pe_cal C__law_draw (hr.mono (by decide)) (pa_cons (pv 0) (pa_cons pe_int pa_nil)))))
      pss_nil)
    (pss_one (ps_ret (pe_cal C__law_draw (hr.mono (by decide)) (pa_cons (pv 0) (pa_cons (pv 1) pa_nil)))))))), ?_⟩
    walk_at "rd"
    refine draw_of hA ⟨by decide, by decide⟩ fun r H1 r0 r1 s1 hA1 => ?_
    walk_at "rd"
    refine ite2 (fun h2 => ?_) (fun h2 => ?_)
    · walk_at "rd"
      exact draw_of hA1 ⟨by decide, by decide⟩ fun r H2 r0 r1 s2 hA2 => q r H2 r0 (by omega) (s1.trans s2) hA2
    · walk_at "rd"
      refine ite2 (fun h3 => ?_) (fun h3 => ?_)
      · walk_at "rd"
        exact draw_of hA1 ⟨by decide, by decide⟩ fun r H2 r0 r1 s2 hA2 => q r H2 r0 (by omega) (s1.trans s2) hA2
      · walk_at "rd"
        exact draw_of hA1 ⟨by omega, h1⟩ fun r H2 r0 r1 s2 hA2 => q r H2 r0 r1 (s1.trans s2) hA2
theorem size_of {H : Hp} {a : Addr} {most : Int} {Q : VK} {E : XK} (hA : Src H a) (h0 : 13 ≤ most ∧ most < 1073741824) (q : ∀ r H', 0 ≤ r → r < most → SameBut a H H' → Src H' a → Q (.int r) H') : spSize [.ref a, .int most] H Q E := by
  unfold spSize
  exact ⟨a, most, rfl, hA, h0.1, h0.2, q⟩
def spShared : Sp := fun vs H Q _ => ∃ a b : Int, vs = [.int a, .int b] ∧ a.natAbs < 2 ^ 80 ∧ b.natAbs < 2 ^ 80 ∧ Q (.int (Int.gcd a b : Int)) H
theorem abs_b {a : Int} (h : a.natAbs < 2 ^ 80) : 0 ≤ (if a < 0 then -a else a) ∧ (if a < 0 then -a else a).toNat < 2 ^ 80 := by
  split <;> omega
theorem ok_shared {f : Addr} {fd : FuncData} (F : Fun K "_law_shared" "_law_shared" s__law_shared f fd) (m_abs : mg "abs" = none) (m_range : mg "range" = none) (m_int : mg "int" = none) : FnOk P w K mg base CX0 1 f fd ["_law_first", "_law_second"] spShared := by
  refine F.ok sc__law_shared (fun vs H Q E h => ?_) (fun cdv A outer s H vs Q E hr h => ?_)
  · obtain ⟨a, b, rfl, _⟩ := h
    rfl
  · obtain ⟨a, b, rfl, ha, hb, q⟩ := h
    refine ⟨_, (pss_cons (ps_set (i := 2) sc__law_shared.nd rfl (Or.inl rfl) (pe_callB call_abs (by rfl) m_abs (by decide +kernel) (pa_cons (pv 0) pa_nil)))
    (pss_cons (ps_set (i := 3) sc__law_shared.nd rfl (Or.inl rfl) (pe_callB call_abs (by rfl) m_abs (by decide +kernel) (pa_cons (pv 1) pa_nil)))
    (pss_cons (ps_for PassesOwn.never rfl (pi_range1 (by rfl) m_range (pa_cons pe_int pa_nil)) (pg_name (i := 4) sc__law_shared.nd rfl (Or.inl rfl))
      (pss_cons (ps_if (pt_cmpR op_eq (pv 3) pe_int (nomark _))
      (pss_one (ps_ret (pv 2)))
      pss_nil)
    (pss_cons (ps_set (i := 5) sc__law_shared.nd rfl (Or.inl rfl) (pe_op op_mod (pe_callTy (T := "int") call_int1 (by rfl) m_int (by decide +kernel) (pa_cons (pv 2) pa_nil)) (pv 3)))
    (pss_cons (ps_set (i := 2) sc__law_shared.nd rfl (Or.inl rfl) (pv 3))
    (pss_one (ps_set (i := 3) sc__law_shared.nd rfl (Or.inl rfl) (pv 5)))))))
    (pss_one (ps_ret (pv 2)))))), ?_⟩
    walk_at "rd"
    have ha2 := abs_b ha
    have hb2 := abs_b hb
    rw [← gcd_abs] at q
    generalize (if a < 0 then -a else a) = a0 at *
    generalize (if b < 0 then -b else b) = b0 at *
    refine ⟨by decide, by decide, for_it walk_range (fun i σ H' => ∃ (x y : Int) (o4 o5 : Option V), σ = [some (.int a), some (.int b), some (.int x), some (.int y), o4, o5] ∧ H' = H ∧ Eu a0 b0 i x y) ⟨a0, b0, none, none, rfl, rfl, eu_start ha2.1 hb2.1⟩ (fun _ _ _ _ _ => trivial) ?_ ?_⟩
    · rintro i z σ H1 H2 hi ⟨x, y, o4, o5, rfl, rfl, eu⟩ ⟨rfl, rfl⟩
      walk_at "rd"
      refine ite2 (fun h2 => ?_) (fun h2 => ?_)
      · have e := int_t h2
        subst e
        walk_at "rd"
        rw [eu_gcd eu]
        exact q
      · have e := int_f h2
        have hy := eu.nb
        walk_at "rd"
        refine .inl ⟨_, rfl, ?_⟩
        walk_at "rd"
        refine ⟨by omega, ?_⟩
        walk_at "rd"
        exact ⟨_, _, _, _, rfl, rfl, eu_turn eu e⟩
    · rintro σ H1 ⟨x, y, o4, o5, rfl, rfl, eu⟩
      walk_at "rd"
      have e := eu_end eu ha2.2 hb2.2
      subst e
      rw [eu_gcd eu]
      exact q
def spFits : Sp := fun vs H Q _ => ∃ n m : Int, vs = [.int n, .int m] ∧ 0 ≤ m ∧ ∀ b, (b = true ↔ m ∣ n) → Q (.bl b) H
theorem ok_fits {f : Addr} {fd : FuncData} (F : Fun K "_law_fits" "_law_fits" s__law_fits f fd) (m_int : mg "int" = none) : FnOk P w K mg base CX0 1 f fd ["_law_number", "_law_modulus"] spFits := by
  refine F.ok sc__law_fits (fun vs H Q E h => ?_) (fun cdv A outer s H vs Q E hr h => ?_)
  · obtain ⟨a, b, rfl, _⟩ := h
    rfl
  · obtain ⟨n, m, rfl, hm, q⟩ := h
    refine ⟨_, (pss_cons (ps_if (pt_cmpR op_eq (pv 1) pe_int (nomark _))
      (pss_one (ps_ret (pe_cmpR op_eq (pv 0) pe_int (nomark _))))
      pss_nil)
    (pss_one (ps_ret (pe_cmpR op_eq (pe_op op_mod (pe_callTy (T := "int") call_int1 (by rfl) m_int (by decide +kernel) (pa_cons (pv 0) pa_nil)) (pv 1)) pe_int (nomark _))))), ?_⟩
    walk_at "rd"
    refine ite2 (fun h2 => ?_) (fun h2 => ?_)
    · have e := int_t h2
      subst e
      walk_at "rd"
      refine q (decide (V.int n = V.int 0)) ?_
      have := zero_dec (x := n) (y := 0)
      rw [Int.sub_zero] at this
      exact this
    · have e := int_f h2
      walk_at "rd"
      refine .inl ⟨_, rfl, ?_⟩
      walk_at "rd"
      refine ⟨by omega, ?_⟩
      walk_at "rd"
      exact q (decide (V.int (n % m) = V.int 0)) (dvd_dec e)
def spIsProg (K : PySem.W.Frag) : Sp := fun vs H Q _ => ∃ (p : Addr) (a b : Int), vs = [.ref p] ∧ SqT K H p [.int a, .int b] ∧ ∀ H', Same H H' → Q (.bl (decide (a = 0 ∨ (0 ≤ b ∧ b < a)))) H'
theorem ok_is_prog {f : Addr} {fd : FuncData} (F : Fun K "_law_is_progression" "_law_is_progression" s__law_is_progression f fd) (m_isinstance : mg "isinstance" = none) (m_len : mg "len" = none) (m_tuple : mg "tuple" = none) (m_int : mg "int" = none) (m_bool : mg "bool" = none) : FnOk P w K mg base CX0 1 f fd ["_law_actual"] (spIsProg K) := by
  refine F.ok sc__law_is_progression (fun vs H Q E h => ?_) (fun cdv A outer s H vs Q E hr h => ?_)
  · obtain ⟨p, a, b, rfl, _⟩ := h
    rfl
  · obtain ⟨p, a, b, rfl, hp, q⟩ := h
    refine ⟨_, (pss_cons (ps_if (PW.pt (pw_or (pt_not (pt_val (pe_callB (id := "isinstance") call_isi (by rfl) m_isinstance (by decide +kernel) (pa_cons (pv 0) (pa_cons (pe_bltn (v := .ty "tuple") (by rfl) m_tuple (by decide +kernel) rfl) pa_nil))))) (pw_or1 (pt_cmpR op_ne (pe_callB call_len_seq (by rfl) m_len PySem.boot_len (pa_cons (pv 0) pa_nil)) pe_int (nomark _)))))
      (pss_one (ps_ret pe_bl))
      pss_nil)
    (pss_cons (ps_for PassesOwn.never rfl (pi_tup (pv 0)) (pg_name (i := 1) sc__law_is_progression.nd rfl (Or.inl rfl))
      (pss_one (ps_if (PW.pt (pw_or (pt_not (pt_val (pe_callB (id := "isinstance") call_isi (by rfl) m_isinstance (by decide +kernel) (pa_cons (pv 1) (pa_cons (pe_bltn (v := .ty "int") (by rfl) m_int (by decide +kernel) rfl) pa_nil))))) (pw_or1 (pt_val (pe_callB (id := "isinstance") call_isi (by rfl) m_isinstance (by decide +kernel) (pa_cons (pv 1) (pa_cons (pe_bltn (v := .ty "bool") (by rfl) m_bool (by decide +kernel) rfl) pa_nil)))))))
      (pss_one (ps_ret pe_bl))
      pss_nil)))
    (pss_one (ps_ret (pe_or (pe_cmpR op_eq (pe_ix ix_tup (pv 0) pe_int (fun _ _ => rfl)) pe_int (nomark _)) (pe_one (pe_chain op_le op_lt pe_int (pe_ix ix_tup (pv 0) pe_int (fun _ _ => rfl)) (pe_ix ix_tup (pv 0) pe_int (fun _ _ => rfl))))))))), ?_⟩
    walk_at "rd"
    refine ⟨_, _, _, _, true, rfl, .ty "tuple", ty_tup hp, kit_ty (by decide +kernel), ?_⟩
    walk_at "rd"
    refine ⟨_, _, rfl, .inr hp, ?_⟩
    walk_at "rd"
    refine ⟨⟨_, hp⟩, for_it walk_tup (fun i σ H' => ∃ o1 : Option V, σ = [some (.ref p), o1] ∧ H' = H) ⟨none, rfl, rfl⟩ (fun i σ H' _ ⟨_, _, e⟩ => e ▸ hp) ?_ ?_⟩
    · rintro i z σ H1 H2 hi ⟨o1, rfl, rfl⟩ ⟨rfl, hz⟩
      obtain ⟨n, rfl⟩ : ∃ n : Int, z = .int n := by
        match i, hz with
        | 0, hz => cases hz; exact ⟨_, rfl⟩
        | 1, hz => cases hz; exact ⟨_, rfl⟩
        | n + 2, hz => cases hz
      walk_at "rd"
      refine ⟨_, _, _, _, true, rfl, .ty "int", .base (.int n), kit_ty (by decide +kernel), ?_⟩
      walk_at "rd"
      refine ⟨_, _, _, _, false, rfl, .ty "bool", .base (.int n), kit_ty (by decide +kernel), ?_⟩
      walk_at "rd"
      rfl
    · rintro σ H1 ⟨o1, rfl, rfl⟩
      walk_at "rd"
      refine ⟨_, _, _, _, rfl, rfl, hp, atI_nat (j := 0) rfl, ?_⟩
      walk_at "rd"
      have q0 := q H1 (Same.refl H1)
      refine ite2 (fun h2 => ?_) (fun h2 => ?_)
      · have e := int_t h2
        rw [decide_eq_true (show a = 0 ∨ _ from .inl e)] at q0
        exact q0
      · have e := int_f h2
        walk_at "rd"
        refine ⟨_, _, _, _, rfl, rfl, hp, atI_nat (j := 1) rfl, ?_⟩
        walk_at "rd"
        refine ite2 (fun h3 => ?_) (fun h3 => ?_)
        · have e3 : 0 ≤ b := of_decide_eq_true h3
          walk_at "rd"
          refine ⟨_, _, _, _, rfl, rfl, hp, atI_nat (j := 0) rfl, ?_⟩
          walk_at "rd"
          have e4 : decide (a = 0 ∨ (0 ≤ b ∧ b < a)) = decide (b < a) := by
            by_cases hlt : b < a
            · rw [decide_eq_true hlt, decide_eq_true (.inr ⟨e3, hlt⟩)]
            · rw [decide_eq_false hlt, decide_eq_false (by rintro (z | z); exact e z; exact hlt z.2)]
          rw [e4] at q0
          exact q0
        · have e3 : ¬ 0 ≤ b := fun z => h3 (decide_eq_true z)
          walk_at "rd"
          rw [decide_eq_false (by rintro (z | z); exact e z; exact e3 z.1)] at q0
          exact q0
theorem size_b {x : Int} {n : Nat} (h0 : 0 ≤ x) (h1 : x < 1000000000) : x.natAbs < 2 ^ 30 := by omega
/-! ### solved right -/
def spRightS : Sp := fun vs H Q _ => ∃ a : Addr, vs = [.ref a] ∧ Src H a ∧ ∀ H', SameBut a H H' → Src H' a → Q (.bl true) H'
def Sgn (x : Int) (b : Int) : Prop := -b ≤ x ∧ x ≤ b
theorem ok_solved_right {f : Addr} {fd : FuncData} (F : Fun K "_law_solved_right" "_law_solved_right" s__law_solved_right f fd) (C__law_draw : Cal P w K mg base "_law_draw" 1 ["_law_source_here", "_law_limit"] spDraw) (C__law_size : Cal P w K mg base "_law_size" 2 ["_law_source_here", "_law_most"] spSize)
    (C_solve_one : Cal P w K mg base "solve_one" 2 ["coefficient", "modulus", "rest"] spSolve) (C__law_shared : Cal P w K mg base "_law_shared" 1 ["_law_first", "_law_second"] spShared) (C__law_fits : Cal P w K mg base "_law_fits" 1 ["_law_number", "_law_modulus"] spFits)
    (C__law_is_progression : Cal P w K mg base "_law_is_progression" 1 ["_law_actual"] (spIsProg K)) : FnOk P w K mg base CX0 3 f fd ["_law_source_here"] spRightS := by
  refine F.ok sc__law_solved_right (fun vs H Q E h => ?_) (fun cdv A outer s H vs Q E hr h => ?_)
  · obtain ⟨p, rfl, _⟩ := h
    rfl
  · obtain ⟨src, rfl, hA, q⟩ := h
    refine ⟨_, (pss_cons (ps_set (i := 1) sc__law_solved_right.nd rfl (Or.inl rfl) (pe_cal C__law_size (hr.mono (by decide)) (pa_cons (pv 0) (pa_cons pe_int pa_nil))))
    (pss_cons (ps_if (pt_cmpR op_eq (pe_cal C__law_draw (hr.mono (by decide)) (pa_cons (pv 0) (pa_cons pe_int pa_nil))) pe_int (nomark _))
      (pss_one (ps_set (i := 1) sc__law_solved_right.nd rfl (Or.inl rfl) (pe_un un_neg (pv 1))))
      pss_nil)
    (pss_cons (ps_set (i := 2) sc__law_solved_right.nd rfl (Or.inl rfl) (pe_cal C__law_size (hr.mono (by decide)) (pa_cons (pv 0) (pa_cons pe_int pa_nil))))
    (pss_cons (ps_set (i := 3) sc__law_solved_right.nd rfl (Or.inl rfl) (pe_cal C__law_size (hr.mono (by decide)) (pa_cons (pv 0) (pa_cons pe_int pa_nil))))
    (pss_cons (ps_if (pt_cmpR op_eq (pe_cal C__law_draw (hr.mono (by decide)) (pa_cons (pv 0) (pa_cons pe_int pa_nil))) pe_int (nomark _))
      (pss_one (ps_set (i := 3) sc__law_solved_right.nd rfl (Or.inl rfl) (pe_op op_mul (pv 1) (pe_op op_sub (pe_cal C__law_size (hr.mono (by decide)) (pa_cons (pv 0) (pa_cons pe_int pa_nil))) pe_int))))
      pss_nil)
    (pss_cons (ps_if (pt_cmpR op_eq (pe_cal C__law_draw (hr.mono (by decide)) (pa_cons (pv 0) (pa_cons pe_int pa_nil))) pe_int (nomark _))
      (pss_one (ps_set (i := 3) sc__law_solved_right.nd rfl (Or.inl rfl) (pe_un un_neg (pv 3))))
      pss_nil)
    (pss_cons (ps_set (i := 4) sc__law_solved_right.nd rfl (Or.inl rfl) (pe_cal C_solve_one (hr.mono (by decide)) (pa_cons (pv 1) (pa_cons (pv 2) (pa_cons (pv 3) pa_nil)))))
    (pss_cons (ps_set (i := 5) sc__law_solved_right.nd rfl (Or.inl rfl) (pe_cal C__law_shared (hr.mono (by decide)) (pa_cons (pv 1) (pa_cons (pv 2) pa_nil))))
    (pss_cons (ps_if (pt_not (pt_val (pe_cal C__law_fits (hr.mono (by decide)) (pa_cons (pv 3) (pa_cons (pv 5) pa_nil)))))
      (pss_one (ps_ret (pe_cmpR op_isN (pv 4) pe_non (nomark _))))
      pss_nil)
    (pss_cons (ps_if (PW.pt (pw_or (pt_cmpR op_isN (pv 4) pe_non (nomark _)) (pw_or (pt_not (pt_val (pe_cal C__law_is_progression (hr.mono (by decide)) (pa_cons (pv 4) pa_nil)))) (pw_or1 (pt_not (pt_val (pe_cal C__law_fits (hr.mono (by decide)) (pa_cons (pe_op op_sub (pe_op op_mul (pv 1) (pe_ix ix_tup (pv 4) pe_int (fun _ _ => rfl))) (pv 3)) (pa_cons (pv 2) pa_nil)))))))))
      (pss_one (ps_ret pe_bl))
      pss_nil)
    (pss_cons (ps_if (pt_cmpR op_eq (pv 5) pe_int (nomark _))
      (pss_one (ps_ret (pe_cmpR (op_eqD hr.units) (pv 4) (pe_tup (pa_cons pe_int (pa_cons pe_int pa_nil))) (nomark _))))
      pss_nil)
    (pss_one (ps_ret (pe_cmpR op_eq (pe_ix ix_tup (pv 4) pe_int (fun _ _ => rfl)) (pe_op op_fdivW (pv 2) (pv 5)) (nomark _))))))))))))))), ?_⟩
    walk_at "rd"
    refine size_of hA ⟨by decide, by decide⟩ fun c0 H1 c1 c2 s1 hA1 => ?_
    walk_at "rd"
    refine draw_of hA1 ⟨by decide, by decide⟩ fun r H2 r0 r1 s2 hA2 => ?_
    have s12 := s1.trans s2
    clear s1 s2 hA1
    walk_at "rd"
    refine if_asg (fun v H' => ∃ c : Int, v = .int c ∧ c.natAbs < 2 ^ 30 ∧ SameBut src H H' ∧ Src H' src) rfl (fun _ Z k => ?_) (fun _ => ⟨c0, rfl, by omega, s12, hA2⟩) ?_
    · walk_at "rd"
      exact k _ _ ⟨-c0, rfl, by omega, s12, hA2⟩
    clear c1 c2 r0 r1 s12 hA2
    rintro _ H2 ⟨c, rfl, hc, s2, hA2⟩
    walk_at "rd"
    refine size_of hA2 ⟨by decide, by decide⟩ fun m H3 m1 m2 s3 hA3 => ?_
    walk_at "rd"
    refine size_of hA3 ⟨by decide, by decide⟩ fun r0 H4 r1 r2 s4 hA4 => ?_
    walk_at "rd"
    refine draw_of hA4 ⟨by decide, by decide⟩ fun t H5 t0 t1 s5 hA5 => ?_
    have s25 := s2.trans (s3.trans (s4.trans s5))
    clear s2 s3 s4 s5 hA2 hA3 hA4
    walk_at "rd"
    refine if_asg (fun v H' => ∃ r : Int, v = .int r ∧ r.natAbs < 2 ^ 50 ∧ SameBut src H H' ∧ Src H' src) rfl (fun _ Z k => ?_) (fun _ => ⟨r0, rfl, by omega, s25, hA5⟩) ?_
    · walk_at "rd"
      refine size_of hA5 ⟨by decide, by decide⟩ fun u H6 u0 u1 s6 hA6 => ?_
      walk_at "rd"
      refine ⟨.inl ⟨by omega, by omega⟩, ?_⟩
      refine k _ H6 ⟨c * (u - 6), rfl, ?_, s25.trans s6, hA6⟩
      rw [Int.natAbs_mul]
      have e1 : (u - 6).natAbs < 2 ^ 20 := by omega
      have e2 : c.natAbs * (u - 6).natAbs < 2 ^ 30 * 2 ^ 20 := Nat.mul_lt_mul'' hc e1
      omega
    clear r1 r2 t0 t1 s25 hA5
    rintro _ H5 ⟨ra, rfl, hra, s5, hA5⟩
    walk_at "rd"
    refine draw_of hA5 ⟨by decide, by decide⟩ fun t H6 t0 t1 s6 hA6 => ?_
    walk_at "rd"
    refine if_asg (fun v H' => ∃ r : Int, v = .int r ∧ r.natAbs < 2 ^ 50 ∧ SameBut src H H' ∧ Src H' src) rfl (fun _ Z k => ?_) (fun _ => ⟨ra, rfl, by omega, s5.trans s6, hA6⟩) ?_
    · walk_at "rd"
      exact k _ _ ⟨-ra, rfl, by omega, s5.trans s6, hA6⟩
    clear t0 t1 s5 s6 hA5 hA6 hra
    rintro _ H6 ⟨r, rfl, hrb, s6, hA6⟩
    walk_at "rd"
    refine ⟨c, m, r, rfl, m1, by omega, by omega, by omega, fun hno H7 s7 => ?_, fun hyes p a b H7 s7 np hp sol => ?_⟩
    · walk_at "rd"
      refine ⟨_, _, rfl, by omega, by omega, ?_⟩
      walk_at "rd"
      refine ⟨_, _, rfl, by omega, fun x hx => ?_⟩
      cases x with
      | true => exact absurd (hx.mp rfl) hno
      | false =>
        walk_at "rd"
        exact q H7 (s6.trans (Bx.Same.but s7)) (src_same hA6 s7)
    · walk_at "rd"
      refine ⟨_, _, rfl, by omega, by omega, ?_⟩
      walk_at "rd"
      refine ⟨_, _, rfl, by omega, fun x hx => ?_⟩
      cases x with
      | false => exact absurd (hx.mpr hyes) (by decide)
      | true =>
        walk_at "rd"
        have sq7 : SqT K H7 p [.int a, .int b] := sqt hp
        refine ⟨p, a, b, rfl, sq7, fun H8 s8 => ?_⟩
        rw [decide_eq_true sol.p]
        walk_at "rd"
        refine ⟨_, _, _, _, rfl, rfl, Bx.Same.tup s8 sq7, atI_nat (j := 1) rfl, ?_⟩
        refine ⟨_, _, rfl, rfl, .inl ⟨by omega, by omega⟩, ?_⟩
        walk_at "rd"
        refine ⟨_, _, rfl, m1, fun y hy => ?_⟩
        cases y with
        | false => exact absurd (hy.mpr sol.f) (by decide)
        | true =>
          have s68 : SameBut src H H8 := s6.trans (Bx.Same.but (s7.trans s8))
          walk_at "rd"
          refine ite2 (fun h2 => ?_) (fun h2 => ?_)
          · have e := int_t h2
            obtain ⟨rfl, rfl⟩ := sol.z (by omega)
            walk_at "rd"
            refine ⟨sz (by show 2 ≤ 100000; decide), fun u nu => ?_⟩
            refine ⟨.tuple [.int 1, .int 0], .tuple [.int 1, .int 0], ?_, ?_, rfl, rfl, ?_⟩
            · exact .tup (Bx.Same.tup (s8.trans (same_new nu)) sq7) (dp_ints [1, 0])
            · exact .tup (sqt upd_same) (dp_ints [1, 0])
            · exact q _ (s68.trans (Bx.Same.but (same_new nu))) (src_same hA6 ((s7.trans s8).trans (same_new nu)))
          · have e := int_f h2
            have e0 : Int.gcd c m ≠ 0 := by omega
            walk_at "rd"
            refine ⟨_, _, _, _, rfl, rfl, Bx.Same.tup s8 sq7, atI_nat (j := 0) rfl, ?_⟩
            walk_at "rd"
            have gb : ((Int.gcd c m : Int)).natAbs < 2 ^ 62 := by
              by_cases hc : c = 0
              · subst hc
                rw [Int.gcd_zero_left]
                omega
              · have : Int.gcd c m ≤ c.natAbs := Nat.le_of_dvd (by omega) (Int.ofNat_dvd_left.mp (Int.gcd_dvd_left c m))
                omega
            refine ⟨wide_div (by omega) (b := 62) gb (by decide) (by decide), ?_⟩
            walk_at "rd"
            have q0 := q H8 s68 (src_same hA6 (s7.trans s8))
            rw [← decide_eq_true (congrArg V.int (sol.q e0))] at q0
            exact q0
/-! ### formed right -/
theorem ok_formed_right {f : Addr} {fd : FuncData} (F : Fun K "_law_formed_right" "_law_formed_right" s__law_formed_right f fd) (m_isinstance : mg "isinstance" = none) (m_bool : mg "bool" = none) (C__law_size : Cal P w K mg base "_law_size" 2 ["_law_source_here", "_law_most"] spSize)
    (C_progression : Cal P w K mg base "progression" 1 ["modulus", "rest"] spProg) (C_is_in : Cal P w K mg base "is_in" 1 ["number", "steps"] (spIsIn K)) (C__law_fits : Cal P w K mg base "_law_fits" 1 ["_law_number", "_law_modulus"] spFits)
    (C__law_is_progression : Cal P w K mg base "_law_is_progression" 1 ["_law_actual"] (spIsProg K)) : FnOk P w K mg base CX0 3 f fd ["_law_source_here"] spRight := by
  refine F.ok sc__law_formed_right (fun vs H Q E h => ?_) (fun cdv A outer s H vs Q E hr h => ?_)
  · obtain ⟨p, rfl, _⟩ := h
    rfl
  · obtain ⟨src, rfl, hA, q⟩ := h
    refine ⟨_, (pss_cons (ps_set (i := 1) sc__law_formed_right.nd rfl (Or.inl rfl) (pe_cal C__law_size (hr.mono (by decide)) (pa_cons (pv 0) (pa_cons pe_int pa_nil))))
    (pss_cons (ps_set (i := 2) sc__law_formed_right.nd rfl (Or.inl rfl) (pe_op op_sub (pe_cal C__law_size (hr.mono (by decide)) (pa_cons (pv 0) (pa_cons pe_int pa_nil))) (pe_cal C__law_size (hr.mono (by decide)) (pa_cons (pv 0) (pa_cons pe_int pa_nil)))))
    (pss_cons (ps_set (i := 3) sc__law_formed_right.nd rfl (Or.inl rfl) (pe_cal C_progression (hr.mono (by decide)) (pa_cons (pv 1) (pa_cons (pv 2) pa_nil))))
    (pss_cons (ps_if (PW.pt (pw_or (pt_not (pt_val (pe_cal C__law_is_progression (hr.mono (by decide)) (pa_cons (pv 3) pa_nil)))) (pw_or (pt_cmpR op_ne (pe_ix ix_tup (pv 3) pe_int (fun _ _ => rfl)) (pv 1) (nomark _)) (pw_or1 (pt_not (pt_val (pe_cal C__law_fits (hr.mono (by decide)) (pa_cons (pe_op op_sub (pv 2) (pe_ix ix_tup (pv 3) pe_int (fun _ _ => rfl))) (pa_cons (pv 1) pa_nil)))))))))
      (pss_one (ps_ret pe_bl))
      pss_nil)
    (pss_cons (ps_for PassesOwn.never rfl (pi_list (pe_lst (pa_cons (pv 2) (pa_cons (pe_ix ix_tup (pv 3) pe_int (fun _ _ => rfl)) (pa_cons (pe_op op_add (pv 2) (pv 1)) (pa_cons (pe_op op_add (pv 2) pe_int) (pa_cons (pe_op op_sub (pv 2) (pe_op op_mul pe_int (pv 1))) (pa_cons (pe_op op_sub (pe_ix ix_tup (pv 3) pe_int (fun _ _ => rfl)) pe_int) (pa_cons pe_int (pa_cons (pe_un un_neg (pv 2)) pa_nil)))))))))) (pg_name (i := 4) sc__law_formed_right.nd rfl (Or.inl rfl))
      (pss_cons (ps_set (i := 5) sc__law_formed_right.nd rfl (Or.inl rfl) (pe_cal C_is_in (hr.mono (by decide)) (pa_cons (pv 4) (pa_cons (pv 3) pa_nil))))
    (pss_one (ps_if (PW.pt (pw_or (pt_not (pt_val (pe_callB (id := "isinstance") call_isi (by rfl) m_isinstance (by decide +kernel) (pa_cons (pv 5) (pa_cons (pe_bltn (v := .ty "bool") (by rfl) m_bool (by decide +kernel) rfl) pa_nil))))) (pw_or1 (pt_cmpR op_ne (pv 5) (pe_cal C__law_fits (hr.mono (by decide)) (pa_cons (pe_op op_sub (pv 4) (pv 2)) (pa_cons (pv 1) pa_nil))) (nomark _)))))
      (pss_one (ps_ret pe_bl))
      pss_nil))))
    (pss_one (ps_ret pe_bl))))))), ?_⟩
    walk_at "rd"
    refine size_of hA ⟨by decide, by decide⟩ fun m H1 m0 m1 s1 hA1 => ?_
    walk_at "rd"
    refine size_of hA1 ⟨by decide, by decide⟩ fun r1 H2 _ _ s2 hA2 => ?_
    walk_at "rd"
    refine size_of hA2 ⟨by decide, by decide⟩ fun r2 H3 _ _ s3 hA3 => ?_
    walk_at "rd"
    have s13 := s1.trans (s2.trans s3)
    refine ⟨_, _, rfl, m0, fun p H4 s4 np hp => ?_⟩
    walk_at "rd"
    have sq4 : SqT K H4 p [.int m, .int (prg m (r1 - r2))] := sqt hp
    refine ⟨p, m, prg m (r1 - r2), rfl, sq4, fun H5 s5 => ?_⟩
    rw [decide_eq_true (prg_p m0)]
    have sq5 := Bx.Same.tup s5 sq4
    have s15 : SameBut src H H5 := s13.trans (Bx.Same.but (s4.trans s5))
    walk_at "rd"
    refine ⟨_, _, _, _, rfl, rfl, sq5, atI_nat (j := 0) rfl, ?_⟩
    walk_at "rd"
    refine ite2 (fun h => absurd rfl (int_nt h)) (fun _ => ?_)
    walk_at "rd"
    refine ⟨_, _, _, _, rfl, rfl, sq5, atI_nat (j := 1) rfl, ?_⟩
    walk_at "rd"
    have pd : ∀ x : Int, m ∣ x - prg m (r1 - r2) ↔ m ∣ x - (r1 - r2) := fun x => prg_dv
    refine ⟨_, _, rfl, m0, fun y hy => ?_⟩
    cases y with
    | false =>
      have e := (pd (prg m (r1 - r2))).mp (by rw [Int.sub_self]; exact Int.dvd_zero _)
      have e2 : m ∣ (r1 - r2) - prg m (r1 - r2) := (pd _).mpr (by rw [Int.sub_self]; exact Int.dvd_zero _)
      exact absurd (hy.mpr e2) (by decide)
    | true =>
      walk_at "rd"
      refine ⟨_, _, _, _, rfl, rfl, sq5, atI_nat (j := 1) rfl, ?_⟩
      walk_at "rd"
      refine ⟨.inl ⟨by decide, by decide⟩, ?_⟩
      walk_at "rd"
      refine ⟨_, _, _, _, rfl, rfl, sq5, atI_nat (j := 1) rfl, ?_⟩
      walk_at "rd"
      refine ⟨sz (by show 8 ≤ 100000; decide), fun l nl => ?_⟩
      have hints : ∀ z ∈ ([.int (r1 - r2), .int (prg m (r1 - r2)), .int (r1 - r2 + m), .int (r1 - r2 + 1), .int (r1 - r2 - 2 * m), .int (prg m (r1 - r2) - 1), .int 0, .int (-(r1 - r2))] : List V), ∃ n : Int, z = .int n := by
        intro z hz
        simp only [List.mem_cons, List.mem_nil_iff, or_false] at hz
        rcases hz with e | e | e | e | e | e | e | e <;> exact ⟨_, e⟩
      have nsl : src ≠ l := by
        obtain ⟨x, c, h⟩ := hA3
        exact ne_of_none ((s4.trans s5) _ _ h) nl
      have sq6 : SqT K (upd H5 l (.lst [.int (r1 - r2), .int (prg m (r1 - r2)), .int (r1 - r2 + m), .int (r1 - r2 + 1), .int (r1 - r2 - 2 * m), .int (prg m (r1 - r2) - 1), .int 0, .int (-(r1 - r2))])) p [.int m, .int (prg m (r1 - r2))] := Bx.Same.tup (same_new nl) sq5
      have s16 : SameBut src H (upd H5 l (.lst [.int (r1 - r2), .int (prg m (r1 - r2)), .int (r1 - r2 + m), .int (r1 - r2 + 1), .int (r1 - r2 - 2 * m), .int (prg m (r1 - r2) - 1), .int 0, .int (-(r1 - r2))])) := s15.trans (Bx.Same.but (same_new nl))
      have hl6 : (upd H5 l (.lst [.int (r1 - r2), .int (prg m (r1 - r2)), .int (r1 - r2 + m), .int (r1 - r2 + 1), .int (r1 - r2 - 2 * m), .int (prg m (r1 - r2) - 1), .int 0, .int (-(r1 - r2))])) l = some (.lst [.int (r1 - r2), .int (prg m (r1 - r2)), .int (r1 - r2 + m), .int (r1 - r2 + 1), .int (r1 - r2 - 2 * m), .int (prg m (r1 - r2) - 1), .int 0, .int (-(r1 - r2))]) := upd_same
      refine ⟨l, rfl, ?_⟩
      show (∃ xs, SqL K (upd H5 l (.lst [.int (r1 - r2), .int (prg m (r1 - r2)), .int (r1 - r2 + m), .int (r1 - r2 + 1), .int (r1 - r2 - 2 * m), .int (prg m (r1 - r2) - 1), .int 0, .int (-(r1 - r2))])) l xs) ∧ _
      generalize (upd H5 l (.lst [.int (r1 - r2), .int (prg m (r1 - r2)), .int (r1 - r2 + m), .int (r1 - r2 + 1), .int (r1 - r2 - 2 * m), .int (prg m (r1 - r2) - 1), .int 0, .int (-(r1 - r2))])) = H6 at sq6 s16 hl6 ⊢
      generalize [V.int (r1 - r2), .int (prg m (r1 - r2)), .int (r1 - r2 + m), .int (r1 - r2 + 1), .int (r1 - r2 - 2 * m), .int (prg m (r1 - r2) - 1), .int 0, .int (-(r1 - r2))] = xs at hints hl6
      refine ⟨⟨_, sq hl6⟩, for_it walk_list (fun i σ H' => ∃ o4 o5 : Option V, σ = [some (.ref src), some (.int m), some (.int (r1 - r2)), some (.ref p), o4, o5] ∧ Same H6 H') ⟨none, none, rfl, Same.refl _⟩ (fun i σ H' _ ⟨_, _, _, e⟩ => e.seq (sq hl6)) ?_ ?_⟩
      · rintro i z σ H7 H8 hi ⟨o4, o5, rfl, s7⟩ ⟨rfl, hz⟩
        obtain ⟨n, rfl⟩ := hints z (List.mem_of_getElem? hz)
        walk_at "rd"
        refine ⟨n, m, _, p, rfl, Bx.Same.tup s7 sq6, m0, fun b H9 s9 hb => ?_⟩
        walk_at "rd"
        refine ⟨_, _, _, _, true, rfl, .ty "bool", .base (.bl b), kit_ty (by decide +kernel), ?_⟩
        walk_at "rd"
        refine ⟨_, _, rfl, m0, fun c hc => ?_⟩
        have e : b = c := by
          have h1 := pd n
          cases b <;> cases c <;> simp_all
        subst e
        walk_at "rd"
        refine ite2 (fun h => absurd rfl (ne_t h)) (fun _ => ?_)
        walk_at "rd"
        exact ⟨_, _, rfl, s7.trans s9⟩
      · rintro σ H7 ⟨o4, o5, rfl, s7⟩
        walk_at "rd"
        exact q H7 (s16.trans (Bx.Same.but s7))
/-! ### the progressions -/
def spProgs (K : PySem.W.Frag) : Sp := fun vs H Q _ => ∃ a : Addr, vs = [.ref a] ∧ Src H a ∧ ∀ r (ps : List (Int × Int)) H', SameBut a H H' → Dp K H' (.ref r) (.list (ps.map prD)) → ps.length ≤ 4 → szm ps → Q (.ref r) H'
theorem ok_progs {f : Addr} {fd : FuncData} (F : Fun K "_law_progressions" "_law_progressions" s__law_progressions f fd) (m_range : mg "range" = none) (m_int : mg "int" = none) (C__law_draw : Cal P w K mg base "_law_draw" 1 ["_law_source_here", "_law_limit"] spDraw) (C__law_size : Cal P w K mg base "_law_size" 2 ["_law_source_here", "_law_most"] spSize) :
    FnOk P w K mg base CX0 3 f fd ["_law_source_here"] (spProgs K) := by
  refine F.ok sc__law_progressions (fun vs H Q E h => ?_) (fun cdv A outer s H vs Q E hr h => ?_)
  · obtain ⟨p, rfl, _⟩ := h
    rfl
  · obtain ⟨src, rfl, hA, q⟩ := h
    refine ⟨_, (pss_cons (ps_set (i := 1) sc__law_progressions.nd rfl (Or.inl rfl) (pe_op op_sub (pe_cal C__law_size (hr.mono (by decide)) (pa_cons (pv 0) (pa_cons pe_int pa_nil))) (pe_cal C__law_size (hr.mono (by decide)) (pa_cons (pv 0) (pa_cons pe_int pa_nil)))))
    (pss_cons (ps_set (i := 2) sc__law_progressions.nd rfl (Or.inl rfl) (pe_cal C__law_size (hr.mono (by decide)) (pa_cons (pv 0) (pa_cons pe_int pa_nil))))
    (pss_cons (ps_set (i := 3) sc__law_progressions.nd rfl (Or.inl rfl) (pe_lst pa_nil))
    (pss_cons (ps_for PassesOwn.never rfl (pi_range1 (by rfl) m_range (pa_cons (pe_cal C__law_draw (hr.mono (by decide)) (pa_cons (pv 0) (pa_cons pe_int pa_nil))) pa_nil)) (pg_name (i := 4) sc__law_progressions.nd rfl (Or.inl rfl))
      (pss_cons (ps_set (i := 5) sc__law_progressions.nd rfl (Or.inl rfl) (pe_cal C__law_size (hr.mono (by decide)) (pa_cons (pv 0) (pa_cons pe_int pa_nil))))
    (pss_cons (ps_if (pt_cmpR op_eq (pe_cal C__law_draw (hr.mono (by decide)) (pa_cons (pv 0) (pa_cons pe_int pa_nil))) pe_int (nomark _))
      (pss_one (ps_set (i := 5) sc__law_progressions.nd rfl (Or.inl rfl) (pv 2)))
      pss_nil)
    (pss_cons (ps_set (i := 6) sc__law_progressions.nd rfl (Or.inl rfl) (pv 1))
    (pss_cons (ps_if (pt_cmpR op_eq (pe_cal C__law_draw (hr.mono (by decide)) (pa_cons (pv 0) (pa_cons pe_int pa_nil))) pe_int (nomark _))
      (pss_one (ps_set (i := 6) sc__law_progressions.nd rfl (Or.inl rfl) (pe_op op_sub (pe_op op_add (pv 1) (pe_cal C__law_draw (hr.mono (by decide)) (pa_cons (pv 0) (pa_cons pe_int pa_nil)))) pe_int)))
      pss_nil)
    (pss_cons (ps_if (pt_cmpR op_gt (pv 5) pe_int (nomark _))
      (pss_one (ps_set (i := 6) sc__law_progressions.nd rfl (Or.inl rfl) (pe_op op_mod (pe_callTy (T := "int") call_int1 (by rfl) m_int (by decide +kernel) (pa_cons (pv 6) pa_nil)) (pv 5))))
      pss_nil)
    (pss_one (ps_expr (pe_bm PySem.F.plainAttrs_list PySem.F.slot_list_append PySem.F.type_list_append mt_append (pv 3) (pa_cons (pe_tup (pa_cons (pv 5) (pa_cons (pv 6) pa_nil))) pa_nil))))))))))
    (pss_one (ps_ret (pv 3))))))), ?_⟩
    walk_at "rd"
    refine size_of hA ⟨by decide, by decide⟩ fun r1 H1 _ _ s1 hA1 => ?_
    walk_at "rd"
    refine size_of hA1 ⟨by decide, by decide⟩ fun r2 H2 _ _ s2 hA2 => ?_
    walk_at "rd"
    refine size_of hA2 ⟨by decide, by decide⟩ fun sm H3 _ _ s3 hA3 => ?_
    walk_at "rd"
    refine ⟨sz (by decide), fun l nl => ?_⟩
    have nsl := src_ne hA3 nl
    walk_at "rd"
    refine draw_of (src_upd hA3 nsl) ⟨by decide, by decide⟩ fun k H4 k0 k1 s4 hA4 => ?_
    have s13 := s1.trans (s2.trans s3)
    have s14 : SameBut src H H4 := s13.trans (but_new nl s4)
    have hl4 : H4 l = some (.lst []) := s4 _ _ nsl.symm upd_same
    have nl0 : H l = none := but_free s13 nsl.symm nl
    obtain ⟨kn, rfl⟩ := Int.eq_ofNat_of_zero_le k0
    refine ⟨_, rfl, by omega, by omega, for_it walk_range (fun i σ H' => ∃ (o4 o5 o6 : Option V) (xs : List V) (ps : List (Int × Int)), σ = [some (.ref src), some (.int (r1 - r2)), some (.int sm), some (.ref l), o4, o5, o6] ∧ SameBut src H H' ∧ Src H' src ∧ H' l = some (.lst xs) ∧ DpAll K (mn H' [src, l]) xs (ps.map prD) ∧ ps.length = i ∧ szm ps)
      ⟨none, none, none, [], [], rfl, s14, hA4, hl4, .nil, rfl, fun p hp => by cases hp⟩ (fun _ _ _ _ _ => trivial) ?_ ?_⟩
    · rintro i z σ H6 H5 hi ⟨o4, o5, o6, xs, ps, rfl, s5, hA5, hl5, hd, hn, hz⟩ ⟨rfl, rfl⟩
      walk_at "rd"
      refine size_of hA5 ⟨by decide, by decide⟩ fun m0 H7 m1 m2 s7 hA7 => ?_
      walk_at "rd"
      refine draw_of hA7 ⟨by decide, by decide⟩ fun t H8 _ _ s8 hA8 => ?_
      walk_at "rd"
      refine if_asg (fun v H' => ∃ m : Int, v = .int m ∧ 0 ≤ m ∧ m < 1000000 ∧ SameBut src H5 H' ∧ Src H' src) rfl (fun _ Z k => ?_) (fun _ => ⟨m0, rfl, m1, m2, s7.trans s8, hA8⟩) ?_
      · walk_at "rd"
        exact k _ H8 ⟨sm, rfl, by omega, by omega, s7.trans s8, hA8⟩
      rintro _ H8 ⟨m, rfl, m1, m2, s8, hA8⟩
      walk_at "rd"
      refine draw_of hA8 ⟨by decide, by decide⟩ fun t H9 _ _ s9 hA9 => ?_
      walk_at "rd"
      have hb : (r1 - r2).natAbs < 2 ^ 20 := by omega
      refine if_asg (fun v H' => ∃ r : Int, v = .int r ∧ r.natAbs < 2 ^ 21 ∧ SameBut src H5 H' ∧ Src H' src) rfl (fun _ Z k => ?_) (fun _ => ⟨r1 - r2, rfl, by omega, s8.trans s9, hA9⟩) ?_
      · walk_at "rd"
        refine draw_of hA9 ⟨by decide, by decide⟩ fun u H10 u0 u1 s10 hA10 => ?_
        walk_at "rd"
        exact k _ H10 ⟨_, rfl, by omega, s8.trans (s9.trans s10), hA10⟩
      rintro _ H10 ⟨ra, rfl, ra1, s10, hA10⟩
      walk_at "rd"
      refine if_asg (fun v H' => ∃ r : Int, v = .int r ∧ r.natAbs < 2 ^ 21 ∧ H' = H10) rfl (fun h Z k => ?_) (fun _ => ⟨ra, rfl, ra1, rfl⟩) ?_
      · have hm : 0 < m := of_decide_eq_true h
        walk_at "rd"
        refine .inl ⟨_, rfl, ?_⟩
        walk_at "rd"
        refine ⟨hm, ?_⟩
        have a1 := Int.emod_nonneg ra (show m ≠ 0 by omega)
        have a2 := Int.emod_lt_of_pos ra hm
        exact k _ _ ⟨ra % m, rfl, by omega, rfl⟩
      rintro _ H10 ⟨r, rfl, hrb, rfl⟩
      walk_at "rd"
      have nl5 : l ≠ src := nsl.symm
      have hl10 : H10 l = some (.lst xs) := s10 _ _ nl5 hl5
      have hxl : xs.length = i := by rw [da_len hd, List.length_map, hn]
      refine ⟨.inl ⟨rfl, _, sq hl10⟩, ?_⟩
      walk_at "rd"
      refine ⟨sz (by show 2 ≤ 100000; decide), fun t nt => ?_⟩
      have ntl : t ≠ l := fun e => by rw [e, hl10] at nt; cases nt
      refine ⟨l, _, _, rfl, rfl, by rw [upd_ne ntl.symm]; exact hl10, szl (by omega), ?_⟩
      have nts : t ≠ src := fun e => (src_ne hA10 (e ▸ nt)) e.symm
      have sm5 : Same (mn H5 [src, l]) (mn H10 [src, l]) := mn_but (by simp) s10
      have sm6 : Same (mn H10 [src, l]) (mn (upd (upd H10 t (.tup [.int m, .int r])) l (.lst (xs ++ [.ref t]))) [src, l]) := by
        rw [mn_upd (by simp)]
        exact mn_new nt
      refine ⟨_, _, _, _, ps ++ [(m, r)], rfl, ?_, ?_, upd_same, ?_, by rw [List.length_append, hn]; rfl, ?_⟩
      · intro b o hb e
        have e10 := s10 _ _ hb (s5 _ _ hb e)
        by_cases hbl : b = l
        · rw [hbl, nl0] at e
          cases e
        · rw [upd_ne hbl, upd_ne (ne_of_none e10 nt)]
          exact e10
      · exact src_upd (src_upd hA10 nts.symm) nsl
      · rw [List.map_append]
        refine da_app (dpAll_same (sm5.trans sm6) hd) (da_one (pr_dp (p := (m, r)) (sqt (mn_at ?_ ?_))))
        · simp only [List.mem_cons, List.mem_nil_iff, or_false, not_or]
          exact ⟨nts, ntl⟩
        · rw [upd_ne ntl, upd_same]
      · intro p hp
        rcases List.mem_append.mp hp with hp | hp
        · exact hz p hp
        · rw [List.mem_singleton.mp hp]
          exact ⟨m1, by show m < 2 ^ 20; omega, hrb⟩
    · rintro σ H5 ⟨o4, o5, o6, xs, ps, rfl, s5, hA5, hl5, hd, hn, hz⟩
      walk_at "rd"
      refine q l ps H5 s5 (.lst (sq hl5) (dpAll_same mn_same hd)) (by omega) hz
end
end K30
namespace K30
local macro_rules | `(tactic| walk_at "rd") => `(tactic| repeat (first | refine ⟨rfl, ?_⟩ | refine ⟨_, rfl, ?_⟩ | refine ⟨_, _, rfl, rfl, ?_⟩ | refine ⟨⟨_, rfl⟩, ?_⟩))
open PySem PySem.Spec PyProof.Rows L2 Bx TL Dx Zx M30
section
variable {P : Program} {w : World} {K : PySem.W.Frag} {mg : Str → Option Value} {base : Heap}
@[irreducible] def spMet (K : PySem.W.Frag) : Sp := fun vs H Q _ => ∃ (a : Addr) (xs : List V) (ps : List (Int × Int)), vs = [.ref a] ∧ SqL K H a xs ∧ DpAll K H xs (ps.map prD) ∧ ps.length ≤ 4 ∧ szm ps ∧
  ((¬ ∀ p ∈ ps, ∀ q ∈ ps, Fit p q) → ∀ H', Same H H' → Q .non H') ∧
  (∀ p R H', Same H H' → H p = none → H' p = some (tp (lmL ps) R) → Meets ps (lmL ps) R → (lmL ps = 0 ∨ (0 ≤ R ∧ R < lmL ps)) → Q (.ref p) H')
theorem len_dec {n k : Nat} (h : decide (V.int (n : Int) = V.int (k : Int)) = true) : n = k := by
  have := int_t h
  omega
theorem ok_met {f : Addr} {fd : FuncData} (F : Fun K "_law_met" "_law_met" s__law_met f fd) (m_len : mg "len" = none) (C_meet : CalR P w K mg base "meet" 3 (spMeet K)) : FnOk P w K mg base CX0 4 f fd ["_law_steps"] (spMet K) := by
  refine F.ok sc__law_met (fun vs H Q E h => ?_) (fun cdv A outer s H vs Q E hr h => ?_)
  · unfold spMet at h
    obtain ⟨a, xs, ps, rfl, _⟩ := h
    rfl
  · unfold spMet at h
    obtain ⟨a, xs, ps, rfl, hs, hd, hl, hz, q1, q2⟩ := h
    have hxl : xs.length = ps.length := by rw [da_len hd, List.length_map]
    have go : spMeet K xs H Q E0 := ⟨ps, hd, hl, hz, q1, q2⟩
    refine ⟨_, (pss_cons (ps_if (pt_cmpR op_eq (pe_callB call_len_seq (by rfl) m_len PySem.boot_len (pa_cons (pv 0) pa_nil)) pe_int (nomark _))
      (pss_one (ps_ret (pe_calR0 C_meet (hr.mono (by decide)))))
      pss_nil)
    (pss_cons (ps_if (pt_cmpR op_eq (pe_callB call_len_seq (by rfl) m_len PySem.boot_len (pa_cons (pv 0) pa_nil)) pe_int (nomark _))
      (pss_one (ps_ret (pe_calR C_meet (hr.mono (by decide)) (pa_cons (pe_ix ix_list (pv 0) pe_int (fun _ _ => rfl)) pa_nil))))
      pss_nil)
    (pss_cons (ps_if (pt_cmpR op_eq (pe_callB call_len_seq (by rfl) m_len PySem.boot_len (pa_cons (pv 0) pa_nil)) pe_int (nomark _))
      (pss_one (ps_ret (pe_calR C_meet (hr.mono (by decide)) (pa_cons (pe_ix ix_list (pv 0) pe_int (fun _ _ => rfl)) (pa_cons (pe_ix ix_list (pv 0) pe_int (fun _ _ => rfl)) pa_nil)))))
      pss_nil)
    (pss_cons (ps_if (pt_cmpR op_eq (pe_callB call_len_seq (by rfl) m_len PySem.boot_len (pa_cons (pv 0) pa_nil)) pe_int (nomark _))
      (pss_one (ps_ret (pe_calR C_meet (hr.mono (by decide)) (pa_cons (pe_ix ix_list (pv 0) pe_int (fun _ _ => rfl)) (pa_cons (pe_ix ix_list (pv 0) pe_int (fun _ _ => rfl)) (pa_cons (pe_ix ix_list (pv 0) pe_int (fun _ _ => rfl)) pa_nil))))))
      pss_nil)
    (pss_one (ps_ret (pe_calR C_meet (hr.mono (by decide)) (pa_cons (pe_ix ix_list (pv 0) pe_int (fun _ _ => rfl)) (pa_cons (pe_ix ix_list (pv 0) pe_int (fun _ _ => rfl)) (pa_cons (pe_ix ix_list (pv 0) pe_int (fun _ _ => rfl)) (pa_cons (pe_ix ix_list (pv 0) pe_int (fun _ _ => rfl)) pa_nil))))))))))), ?_⟩
    walk_at "rd"
    refine ⟨_, _, rfl, .inl hs, ?_⟩
    walk_at "rd"
    refine ite2 (fun h0 => ?_) (fun h0 => ?_)
    · have e := len_dec (k := 0) h0
      match xs, e, hs, go with
      | [], _, hs, go =>
        walk_at "rd"
        exact go
    · have e0 := int_f h0
      walk_at "rd"
      refine ⟨_, _, rfl, .inl hs, ?_⟩
      walk_at "rd"
      refine ite2 (fun h1 => ?_) (fun h1 => ?_)
      · have e := len_dec (k := 1) h1
        match xs, e, hs, go with
        | [x0], _, hs, go =>
          walk_at "rd"
          refine ⟨_, _, _, _, rfl, rfl, hs, atI_nat (j := 0) rfl, ?_⟩
          exact go
      · have e1 := int_f h1
        walk_at "rd"
        refine ⟨_, _, rfl, .inl hs, ?_⟩
        walk_at "rd"
        refine ite2 (fun h2 => ?_) (fun h2 => ?_)
        · have e := len_dec (k := 2) h2
          match xs, e, hs, go with
          | [x0, x1], _, hs, go =>
            walk_at "rd"
            refine ⟨_, _, _, _, rfl, rfl, hs, atI_nat (j := 0) rfl, ?_⟩
            walk_at "rd"
            refine ⟨_, _, _, _, rfl, rfl, hs, atI_nat (j := 1) rfl, ?_⟩
            exact go
        · have e2 := int_f h2
          walk_at "rd"
          refine ⟨_, _, rfl, .inl hs, ?_⟩
          walk_at "rd"
          refine ite2 (fun h3 => ?_) (fun h3 => ?_)
          · have e := len_dec (k := 3) h3
            match xs, e, hs, go with
            | [x0, x1, x2], _, hs, go =>
              walk_at "rd"
              refine ⟨_, _, _, _, rfl, rfl, hs, atI_nat (j := 0) rfl, ?_⟩
              walk_at "rd"
              refine ⟨_, _, _, _, rfl, rfl, hs, atI_nat (j := 1) rfl, ?_⟩
              walk_at "rd"
              refine ⟨_, _, _, _, rfl, rfl, hs, atI_nat (j := 2) rfl, ?_⟩
              exact go
          · have e3 := int_f h3
            have e : xs.length = 4 := by omega
            match xs, e, hs, go with
            | [x0, x1, x2, x3], _, hs, go =>
              walk_at "rd"
              refine ⟨_, _, _, _, rfl, rfl, hs, atI_nat (j := 0) rfl, ?_⟩
              walk_at "rd"
              refine ⟨_, _, _, _, rfl, rfl, hs, atI_nat (j := 1) rfl, ?_⟩
              walk_at "rd"
              refine ⟨_, _, _, _, rfl, rfl, hs, atI_nat (j := 2) rfl, ?_⟩
              walk_at "rd"
              refine ⟨_, _, _, _, rfl, rfl, hs, atI_nat (j := 3) rfl, ?_⟩
              exact go
theorem pr_at {H : Hp} {xs : List V} {ps : List (Int × Int)} (hd : DpAll K H xs (ps.map prD)) {i : Nat} {x : V} (hx : xs[i]? = some x) : ∃ p, ps[i]? = some p ∧ ∃ a, x = .ref a ∧ SqT K H a [.int p.1, .int p.2] := by
  obtain ⟨d, hd2, hxd⟩ := da_at hd hx
  rw [List.getElem?_map] at hd2
  cases e : ps[i]? with
  | none =>
    rw [e] at hd2
    cases hd2
  | some p =>
    rw [e] at hd2
    cases hd2
    exact ⟨p, rfl, pr_inv hxd⟩
def spLm (K : PySem.W.Frag) : Sp := fun vs H Q _ => ∃ (a : Addr) (xs : List V) (ps : List (Int × Int)), vs = [.ref a] ∧ SqL K H a xs ∧ DpAll K H xs (ps.map prD) ∧ ps.length ≤ 4 ∧ szm ps ∧ Q (.int (lmL ps)) H
theorem ok_lm {f : Addr} {fd : FuncData} (F : Fun K "_law_least_multiple" "_law_least_multiple" s__law_least_multiple f fd) (C__law_shared : Cal P w K mg base "_law_shared" 1 ["_law_first", "_law_second"] spShared) : FnOk P w K mg base CX0 2 f fd ["_law_steps"] (spLm K) := by
  refine F.ok sc__law_least_multiple (fun vs H Q E h => ?_) (fun cdv A outer s H vs Q E hr h => ?_)
  · obtain ⟨a, xs, ps, rfl, _⟩ := h
    rfl
  · obtain ⟨a, xs, ps, rfl, hs, hd, hl, hz, q⟩ := h
    have hxl : xs.length = ps.length := by rw [da_len hd, List.length_map]
    refine ⟨_, (pss_cons (ps_set (i := 1) sc__law_least_multiple.nd rfl (Or.inl rfl) pe_int)
    (pss_cons (ps_for PassesOwn.never rfl (pi_list (pv 0)) (pg_tup rfl (pgs_cons (pg_name (i := 2) sc__law_least_multiple.nd rfl (Or.inl rfl)) (pgs_cons (pg_name (i := 3) sc__law_least_multiple.nd rfl (Or.inl rfl)) pgs_nil)))
      (pss_one (ps_if (PW.pt (pw_or (pt_cmpR op_eq (pv 2) pe_int (nomark _)) (pw_or1 (pt_cmpR op_eq (pv 1) pe_int (nomark _)))))
      (pss_one (ps_set (i := 1) sc__law_least_multiple.nd rfl (Or.inl rfl) pe_int))
      (pss_one (ps_set (i := 1) sc__law_least_multiple.nd rfl (Or.inl rfl) (pe_op op_fdivW (pe_op op_mul (pv 1) (pv 2)) (pe_cal C__law_shared (hr.mono (by decide)) (pa_cons (pv 1) (pa_cons (pv 2) pa_nil)))))))))
    (pss_one (ps_ret (pv 1))))), ?_⟩
    walk_at "rd"
    refine ⟨⟨_, hs⟩, for_it walk_list (fun i σ H' => ∃ o2 o3 : Option V, σ = [some (.ref a), some (.int (lmL (ps.take i))), o2, o3] ∧ H' = H) ⟨none, none, rfl, rfl⟩ (fun i σ H' _ ⟨_, _, _, e⟩ => e ▸ hs) ?_ ?_⟩
    · rintro i x σ H1 H2 hi ⟨o2, o3, rfl, rfl⟩ ⟨rfl, hx⟩
      obtain ⟨p, hp, pa, rfl, hpa⟩ := pr_at hd hx
      obtain ⟨z1, z2, z3⟩ := hz p (List.mem_of_getElem? hp)
      have htk : ps.take (i + 1) = ps.take i ++ [p] := by rw [List.take_add_one, hp]; rfl
      have hsz := lm_size (ps := ps.take i) fun q hq => ⟨(hz q (List.mem_of_mem_take hq)).1, (hz q (List.mem_of_mem_take hq)).2.1⟩
      rw [List.length_take] at hsz
      have hM : lmL (ps.take i) ≤ 2 ^ 60 := Int.le_trans hsz.2 (pw3 (by omega))
      have hM0 := hsz.1
      have hL := lm_snoc (ps.take i) p
      rw [← lmL_turn, ← htk] at hL
      refine ⟨_, _, rfl, hpa, rfl, _, _, rfl, _, _, rfl, rfl, ?_⟩
      walk_at "rd"
      refine ite2 (fun h0 => ?_) (fun h0 => ?_)
      · have e := int_t h0
        rw [if_pos (.inl e)] at hL
        walk_at "rd"
        exact ⟨_, _, by rw [hL]; rfl, rfl⟩
      · have e := int_f h0
        walk_at "rd"
        refine ite2 (fun h1 => ?_) (fun h1 => ?_)
        · have e1 := int_t h1
          rw [if_pos (.inr e1)] at hL
          walk_at "rd"
          exact ⟨_, _, by rw [hL]; rfl, rfl⟩
        · have e1 := int_f h1
          rw [if_neg (by rintro (z | z); exact e z; exact e1 z)] at hL
          walk_at "rd"
          refine ⟨.inl ⟨by omega, by omega⟩, ?_⟩
          walk_at "rd"
          refine ⟨_, _, rfl, by omega, by omega, ?_⟩
          have gp : Int.gcd (lmL (ps.take i)) p.1 ≠ 0 := fun z => e (Int.gcd_eq_zero_iff.mp z).2
          have gl : Int.gcd (lmL (ps.take i)) p.1 ≤ p.1.natAbs := Nat.le_of_dvd (by omega) (Int.ofNat_dvd_left.mp (Int.gcd_dvd_right _ _))
          walk_at "rd"
          refine ⟨wide_div (by omega) (b := 62) (by omega) (by decide) (by decide), ?_⟩
          walk_at "rd"
          exact ⟨_, _, by rw [hL]; rfl, rfl⟩
    · rintro σ H1 ⟨o2, o3, rfl, rfl⟩
      rw [hxl, List.take_length]
      walk_at "rd"
      exact q
end
end K30
namespace K30
local macro_rules | `(tactic| walk_at "rd") => `(tactic| repeat (first | refine ⟨rfl, ?_⟩ | refine ⟨_, rfl, ?_⟩ | refine ⟨_, _, rfl, rfl, ?_⟩ | refine ⟨⟨_, rfl⟩, ?_⟩))
open PySem PySem.Spec PyProof.Rows L2 Bx TL Dx Zx M30
section
variable {P : Program} {w : World} {K : PySem.W.Frag} {mg : Str → Option Value} {base : Heap}
def AllFit (ps : List (Int × Int)) : Prop := ∀ p ∈ ps, ∀ q ∈ ps, Fit p q
def Got (ps : List (Int × Int)) (v : V) (H' : Hp) : Prop := (v = .non ∧ ¬ AllFit ps) ∨ ∃ p R, v = .ref p ∧ H' p = some (tp (lmL ps) R) ∧ Meets ps (lmL ps) R ∧ (lmL ps = 0 ∨ (0 ≤ R ∧ R < lmL ps))
theorem met_of {H : Hp} {a : Addr} {xs : List V} {ps : List (Int × Int)} {Q : VK} {E : XK} (hs : SqL K H a xs) (hd : DpAll K H xs (ps.map prD)) (hl : ps.length ≤ 4) (hz : szm ps) (q : ∀ v H', Same H H' → Got ps v H' → Q v H') : spMet K [.ref a] H Q E := by
  unfold spMet
  exact ⟨a, xs, ps, rfl, hs, hd, hl, hz, fun n H' s => q _ _ s (.inl ⟨rfl, n⟩), fun p R H' s np hp m b => q _ _ s (.inr ⟨p, R, rfl, hp, m, b⟩)⟩
theorem lay_prs (ps : List (Int × Int)) : Lay 2 (.list (ps.map prD)) := lay_list (lays_of fun d hd => by
  obtain ⟨p, _, rfl⟩ := List.mem_map.mp hd
  exact lay_tuple (lays_ints (n := 0) (ns := [p.1, p.2])))
def spMR (K : PySem.W.Frag) : Sp := fun vs H Q _ => ∃ (a : Addr) (xs : List V) (ps : List (Int × Int)), vs = [.ref a] ∧ SqL K H a xs ∧ DpAll K H xs (ps.map prD) ∧ ps.length ≤ 4 ∧ szm ps ∧ ∀ H', Same H H' → Q (.bl true) H'
theorem ok_meet_right {f : Addr} {fd : FuncData} (F : Fun K "_law_meet_right" "_law_meet_right" s__law_meet_right f fd) (m_list : mg "list" = none) (C__law_met : Cal P w K mg base "_law_met" 4 ["_law_steps"] (spMet K)) (C__law_least_multiple : Cal P w K mg base "_law_least_multiple" 2 ["_law_steps"] (spLm K))
    (C__law_shared : Cal P w K mg base "_law_shared" 1 ["_law_first", "_law_second"] spShared) (C__law_fits : Cal P w K mg base "_law_fits" 1 ["_law_number", "_law_modulus"] spFits) (C__law_is_progression : Cal P w K mg base "_law_is_progression" 1 ["_law_actual"] (spIsProg K)) :
    FnOk P w K mg base CX0 5 f fd ["_law_steps"] (spMR K) := by
  refine F.ok sc__law_meet_right (fun vs H Q E h => ?_) (fun cdv A outer s H vs Q E hr h => ?_)
  · obtain ⟨a, xs, ps, rfl, _⟩ := h
    rfl
  · obtain ⟨a, xs, ps, rfl, hs, hd, hl, hz, q⟩ := h
    have hxl : xs.length = ps.length := by rw [da_len hd, List.length_map]
    refine ⟨_, (pss_cons (ps_set (i := 1) sc__law_meet_right.nd rfl (Or.inl rfl) (pe_callTy (T := "list") call_list_of (by rfl) m_list (by decide +kernel) (pa_cons (pv 0) pa_nil)))
    (pss_cons (ps_set (i := 2) sc__law_meet_right.nd rfl (Or.inl rfl) (pe_cal C__law_met (hr.mono (by decide)) (pa_cons (pv 1) pa_nil)))
    (pss_cons (ps_if (pt_cmpR (op_neD hr.units) (pv 1) (pv 0) (nomark _))
      (pss_one (ps_ret pe_bl))
      pss_nil)
    (pss_cons (ps_set (i := 3) sc__law_meet_right.nd rfl (Or.inl rfl) pe_bl)
    (pss_cons (ps_for PassesOwn.never rfl (pi_list (pv 0)) (pg_name (i := 4) sc__law_meet_right.nd rfl (Or.inl rfl))
      (pss_one (ps_for PassesOwn.never rfl (pi_list (pv 0)) (pg_name (i := 5) sc__law_meet_right.nd rfl (Or.inl rfl))
      (pss_one (ps_if (pt_not (pt_val (pe_cal C__law_fits (hr.mono (by decide)) (pa_cons (pe_op op_sub (pe_ix ix_tup (pv 4) pe_int (fun _ _ => rfl)) (pe_ix ix_tup (pv 5) pe_int (fun _ _ => rfl))) (pa_cons (pe_cal C__law_shared (hr.mono (by decide)) (pa_cons (pe_ix ix_tup (pv 4) pe_int (fun _ _ => rfl)) (pa_cons (pe_ix ix_tup (pv 5) pe_int (fun _ _ => rfl)) pa_nil))) pa_nil)))))
      (pss_one (ps_set (i := 3) sc__law_meet_right.nd rfl (Or.inl rfl) pe_bl))
      pss_nil)))))
    (pss_cons (ps_if (pt_not (pt_val (pv 3)))
      (pss_one (ps_ret (pe_cmpR op_isN (pv 2) pe_non (nomark _))))
      pss_nil)
    (pss_cons (ps_if (PW.pt (pw_or (pt_cmpR op_isN (pv 2) pe_non (nomark _)) (pw_or1 (pt_not (pt_val (pe_cal C__law_is_progression (hr.mono (by decide)) (pa_cons (pv 2) pa_nil)))))))
      (pss_one (ps_ret pe_bl))
      pss_nil)
    (pss_cons (ps_for PassesOwn.never rfl (pi_list (pv 0)) (pg_tup rfl (pgs_cons (pg_name (i := 6) sc__law_meet_right.nd rfl (Or.inl rfl)) (pgs_cons (pg_name (i := 7) sc__law_meet_right.nd rfl (Or.inl rfl)) pgs_nil)))
      (pss_one (ps_if (pt_not (pt_val (pe_cal C__law_fits (hr.mono (by decide)) (pa_cons (pe_op op_sub (pe_ix ix_tup (pv 2) pe_int (fun _ _ => rfl)) (pv 7)) (pa_cons (pv 6) pa_nil)))))
      (pss_one (ps_ret pe_bl))
      pss_nil)))
    (pss_one (ps_ret (pe_cmpR op_eq (pe_ix ix_tup (pv 2) pe_int (fun _ _ => rfl)) (pe_cal C__law_least_multiple (hr.mono (by decide)) (pa_cons (pv 0) pa_nil)) (nomark _)))))))))))), ?_⟩
    walk_at "rd"
    refine ⟨_, _, rfl, .inl hs, fun l nl => ?_⟩
    have s1 : Same H (upd H l (.lst xs)) := same_new nl
    have hl1 : (upd H l (.lst xs)) l = some (.lst xs) := upd_same
    revert hl1 s1
    generalize upd H l (.lst xs) = H1
    intro s1 hl1
    walk_at "rd"
    refine met_of (sq hl1) (dpAll_same s1 hd) hl hz fun v H2 s2 got => ?_
    have s12 := s1.trans s2
    have hs2 := s12.seq hs
    have hd2 := dpAll_same s12 hd
    walk_at "rd"
    refine ⟨.list (ps.map prD), .list (ps.map prD), .lst (sq (s2 _ _ hl1)) hd2, .lst hs2 hd2, shape (lay_prs ps) (by decide), shape (lay_prs ps) (by decide), ?_⟩
    rw [eq_refl (lay_prs ps)]
    walk_at "rd"
    have fitb : ∀ {p q : Int × Int} {b : Bool}, (b = true ↔ (Int.gcd p.1 q.1 : Int) ∣ p.2 - q.2) → (b = true ↔ Fit p q) := fun h => h
    refine ⟨⟨_, hs2⟩, for_it walk_list (fun i σ H' => ∃ (b : Bool) (o4 o5 : Option V), σ = [some (.ref a), some (.ref l), some v, some (.bl b), o4, o5, none, none] ∧ H' = H2 ∧ (b = true ↔ ∀ p ∈ ps.take i, ∀ q ∈ ps, Fit p q)) ⟨true, none, none, rfl, rfl, ⟨fun _ p hp => (by cases hp), fun _ => rfl⟩⟩ (fun i σ H' _ ⟨_, _, _, _, e, _⟩ => e ▸ hs2) ?_ ?_⟩
    · rintro i x σ H3 H4 hi ⟨b, o4, o5, rfl, rfl, hb⟩ ⟨rfl, hx⟩
      obtain ⟨p, hp, pa, rfl, hpa⟩ := pr_at hd2 hx
      obtain ⟨z1, z2, z3⟩ := hz p (List.mem_of_getElem? hp)
      have htk : ps.take (i + 1) = ps.take i ++ [p] := by rw [List.take_add_one, hp]; rfl
      walk_at "rd"
      refine ⟨⟨_, hs2⟩, for_it walk_list (fun j σ H' => ∃ (b : Bool) (o5 : Option V), σ = [some (.ref a), some (.ref l), some v, some (.bl b), some (.ref pa), o5, none, none] ∧ H' = H4 ∧ (b = true ↔ (∀ p ∈ ps.take i, ∀ q ∈ ps, Fit p q) ∧ ∀ q ∈ ps.take j, Fit p q)) ⟨b, o5, rfl, rfl, by rw [hb]; exact ⟨fun h => ⟨h, fun q hq => (by cases hq)⟩, fun h => h.1⟩⟩ (fun i σ H' _ ⟨_, _, _, e, _⟩ => e ▸ hs2) ?_ ?_⟩
      · rintro j y σ H5 H6 hj ⟨c, o5, rfl, rfl, hc⟩ ⟨rfl, hy⟩
        obtain ⟨r, hr2, ra, rfl, hra⟩ := pr_at hd2 hy
        obtain ⟨y1, y2, y3⟩ := hz r (List.mem_of_getElem? hr2)
        have htj : ps.take (j + 1) = ps.take j ++ [r] := by rw [List.take_add_one, hr2]; rfl
        walk_at "rd"
        refine ⟨_, _, _, _, rfl, rfl, hpa, atI_nat (j := 1) rfl, ?_⟩
        walk_at "rd"
        refine ⟨_, _, _, _, rfl, rfl, hra, atI_nat (j := 1) rfl, ?_⟩
        walk_at "rd"
        refine ⟨_, _, _, _, rfl, rfl, hpa, atI_nat (j := 0) rfl, ?_⟩
        walk_at "rd"
        refine ⟨_, _, _, _, rfl, rfl, hra, atI_nat (j := 0) rfl, ?_⟩
        refine ⟨_, _, rfl, by omega, by omega, ?_⟩
        refine ⟨_, _, rfl, by omega, fun d hdd => ?_⟩
        have hf := fitb hdd
        have hnew : (∀ q ∈ ps.take (j + 1), Fit p q) ↔ (∀ q ∈ ps.take j, Fit p q) ∧ Fit p r := by
          rw [htj]
          constructor
          · exact fun h => ⟨fun q hq => h q (List.mem_append_left _ hq), h r (List.mem_append_right _ List.mem_cons_self)⟩
          · rintro ⟨h1, h2⟩ q hq
            rcases List.mem_append.mp hq with hq | hq
            · exact h1 q hq
            · rw [List.mem_singleton.mp hq]
              exact h2
        cases d with
        | true =>
          walk_at "rd"
          rw [hc, hnew]
          have := hf.mp rfl
          constructor
          · exact fun h => ⟨h.1, h.2, this⟩
          · exact fun h => ⟨h.1, h.2.1⟩
        | false =>
          walk_at "rd"
          rw [hnew]
          constructor
          · intro h
            cases h
          · exact fun h => hf.mpr h.2.2
      · rintro σ H5 ⟨c, o5, rfl, rfl, hc⟩
        rw [hxl, List.take_length] at hc
        refine ⟨c, _, _, rfl, rfl, ?_⟩
        rw [hc, htk]
        constructor
        · rintro ⟨h1, h2⟩ q hq
          rcases List.mem_append.mp hq with hq | hq
          · exact h1 q hq
          · rw [List.mem_singleton.mp hq]
            exact h2
        · exact fun h => ⟨fun q hq => h q (List.mem_append_left _ hq), h p (List.mem_append_right _ List.mem_cons_self)⟩
    · rintro σ H3 ⟨b, o4, o5, rfl, rfl, hb⟩
      rw [hxl, List.take_length] at hb
      walk_at "rd"
      cases b with
      | false =>
        have hn : ¬ AllFit ps := fun h => absurd (hb.mpr h) (by decide)
        rcases got with ⟨rfl, _⟩ | ⟨p, R, rfl, hp, hm, hR⟩
        · walk_at "rd"
          exact q _ s12
        · exact absurd (fits_of hm) hn
      | true =>
        have hy := hb.mp rfl
        rcases got with ⟨rfl, hn⟩ | ⟨p, R, rfl, hp, hm, hR⟩
        · exact absurd hy hn
        · walk_at "rd"
          have sqp : SqT K H3 p [.int (lmL ps), .int R] := sqt hp
          refine ⟨p, _, _, rfl, sqp, fun H4 s4 => ?_⟩
          rw [decide_eq_true hR]
          have hs4 := s4.seq hs2
          have hd4 := dpAll_same s4 hd2
          have sqp4 := Bx.Same.tup s4 sqp
          walk_at "rd"
          refine ⟨⟨_, hs4⟩, for_it walk_list (fun i σ H' => ∃ (o6 o7 : Option V), σ = [some (.ref a), some (.ref l), some (.ref p), some (.bl true), o4, o5, o6, o7] ∧ H' = H4) ⟨none, none, rfl, rfl⟩ (fun i σ H' _ ⟨_, _, _, e⟩ => e ▸ hs4) ?_ ?_⟩
          · rintro i x σ H5 H6 hi ⟨o6, o7, rfl, rfl⟩ ⟨rfl, hx⟩
            obtain ⟨r, hr2, ra, rfl, hra⟩ := pr_at hd4 hx
            obtain ⟨y1, y2, y3⟩ := hz r (List.mem_of_getElem? hr2)
            refine ⟨_, _, rfl, hra, rfl, _, _, rfl, _, _, rfl, rfl, ?_⟩
            walk_at "rd"
            refine ⟨_, _, _, _, rfl, rfl, sqp4, atI_nat (j := 1) rfl, ?_⟩
            walk_at "rd"
            refine ⟨_, _, rfl, y1, fun d hdd => ?_⟩
            have hdv := (hm R).mpr (by rw [Int.sub_self]; exact Int.dvd_zero _) r (List.mem_of_getElem? hr2)
            cases d with
            | false => exact absurd (hdd.mpr hdv) (by decide)
            | true =>
              walk_at "rd"
              exact ⟨_, _, rfl, rfl⟩
          · rintro σ H5 ⟨o6, o7, rfl, rfl⟩
            walk_at "rd"
            refine ⟨_, _, _, _, rfl, rfl, sqp4, atI_nat (j := 0) rfl, ?_⟩
            walk_at "rd"
            refine ⟨a, xs, ps, rfl, hs4, hd4, hl, hz, ?_⟩
            walk_at "rd"
            have q0 := q _ (s12.trans s4)
            rw [← decide_eq_true (show V.int (lmL ps) = V.int (lmL ps) from rfl)] at q0
            exact q0
theorem da_rev {H : Hp} : ∀ {xs : List V} {ds : List PyData}, DpAll K H xs ds → DpAll K H xs.reverse ds.reverse
  | _, _, .nil => .nil
  | _, _, .cons h t => by
    rw [List.reverse_cons, List.reverse_cons]
    exact da_app (da_rev t) (da_one h)
/-! ### the law -/
def spLaw (K : PySem.W.Frag) : Sp := fun vs H Q _ => ∃ (a : Addr) (ns : List Int), vs = [.ref a] ∧ SqL K H a (ns.map V.int) ∧ ns.length ≤ 63 ∧ ∀ H', Q (.bl true) H'
theorem ok_law {f : Addr} {fd : FuncData} (F : Fun K "law" "law" s_law f fd) (m_range : mg "range" = none) (C__law_source : Cal P w K mg base "_law_source" 1 ["_law_script", "_law_k"] (spSource K)) (C__law_solved_right : Cal P w K mg base "_law_solved_right" 3 ["_law_source_here"] spRightS)
    (C__law_formed_right : Cal P w K mg base "_law_formed_right" 3 ["_law_source_here"] spRight) (C__law_progressions : Cal P w K mg base "_law_progressions" 3 ["_law_source_here"] (spProgs K)) (C__law_meet_right : Cal P w K mg base "_law_meet_right" 5 ["_law_steps"] (spMR K)) :
    FnOk P w K mg base CX0 6 f fd ["_law_script"] (spLaw K) := by
  refine F.ok sc_law (fun vs H Q E h => ?_) (fun cdv A outer s H vs Q E hr h => ?_)
  · obtain ⟨a, ns, rfl, _⟩ := h
    rfl
  · obtain ⟨a, ns, rfl, hs, hl, q⟩ := h
    refine ⟨_, (pss_cons (ps_set (i := 1) sc_law.nd rfl (Or.inl rfl) (pe_cal C__law_source (hr.mono (by decide)) (pa_cons (pv 0) (pa_cons pe_int pa_nil))))
    (pss_cons (ps_for PassesOwn.never rfl (pi_range1 (by rfl) m_range (pa_cons pe_int pa_nil)) (pg_name (i := 2) sc_law.nd rfl (Or.inl rfl))
      (pss_one (ps_if (pt_not (pt_val (pe_cal C__law_solved_right (hr.mono (by decide)) (pa_cons (pv 1) pa_nil))))
      (pss_one (ps_ret pe_bl))
      pss_nil)))
    (pss_cons (ps_if (pt_not (pt_val (pe_cal C__law_formed_right (hr.mono (by decide)) (pa_cons (pe_cal C__law_source (hr.mono (by decide)) (pa_cons (pv 0) (pa_cons pe_int pa_nil))) pa_nil))))
      (pss_one (ps_ret pe_bl))
      pss_nil)
    (pss_cons (ps_set (i := 3) sc_law.nd rfl (Or.inl rfl) (pe_cal C__law_progressions (hr.mono (by decide)) (pa_cons (pe_cal C__law_source (hr.mono (by decide)) (pa_cons (pv 0) (pa_cons pe_int pa_nil))) pa_nil)))
    (pss_cons (ps_if (PW.pt (pw_or (pt_not (pt_val (pe_cal C__law_meet_right (hr.mono (by decide)) (pa_cons (pv 3) pa_nil)))) (pw_or1 (pt_not (pt_val (pe_cal C__law_meet_right (hr.mono (by decide)) (pa_cons (pe_revL (pv 3)) pa_nil)))))))
      (pss_one (ps_ret pe_bl))
      pss_nil)
    (pss_one (ps_ret (pe_cal C__law_meet_right (hr.mono (by decide)) (pa_cons (pe_slice sl_list (pv 3) po_none (po_some pe_int)) pa_nil))))))))), ?_⟩
    walk_at "rd"
    refine ⟨a, ns, 0, rfl, hs, by decide, fun p n c np => ?_⟩
    have s1 : Same H (upd H p (.lst [.int n, .int c])) := same_new np
    have hA1 : Src (upd H p (.lst [.int n, .int c])) p := ⟨n, c, upd_same⟩
    revert s1 hA1
    generalize upd H p (.lst [.int n, .int c]) = H1
    intro s1 hA1
    walk_at "rd"
    refine ⟨by decide, by decide, for_it walk_range (fun i σ H' => ∃ (o2 : Option V), σ = [some (.ref a), some (.ref p), o2, none] ∧ Same H H' ∧ Src H' p) ⟨none, rfl, s1, hA1⟩ (fun _ _ _ _ _ => trivial) ?_ ?_⟩
    · rintro i z σ H3 H2 hi ⟨o2, rfl, s2, hA2⟩ ⟨rfl, rfl⟩
      walk_at "rd"
      refine ⟨hA2, fun H4 s4 hA4 => ?_⟩
      walk_at "rd"
      exact ⟨SameBut.same s2 np s4, hA4⟩
    · rintro σ H2 ⟨o2, rfl, s2, hA2⟩
      walk_at "rd"
      refine ⟨a, ns, 1, rfl, s2.seq hs, by decide, fun p3 n3 c3 np3 => ?_⟩
      walk_at "rd"
      refine ⟨⟨n3, c3, upd_same⟩, fun H4 s4 => ?_⟩
      have s24 : Same H H4 := SameBut.same (s2.trans (same_new np3)) (s2.free np3) s4
      walk_at "rd"
      refine ⟨a, ns, 2, rfl, s24.seq hs, by decide, fun p5 n5 c5 np5 => ?_⟩
      walk_at "rd"
      refine ⟨⟨n5, c5, upd_same⟩, fun r ps H6 s6 hd hl4 hz => ?_⟩
      walk_at "rd"
      obtain ⟨a0, xs, e0, sr, dr⟩ := dp_lst hd
      cases e0
      refine ⟨r, xs, ps, rfl, sr, dr, hl4, hz, fun H7 s7 => ?_⟩
      walk_at "rd"
      have sr7 := s7.seq sr
      have dr7 := dpAll_same s7 dr
      refine ⟨r, xs, rfl, sr7, fun u nu => ?_⟩
      walk_at "rd"
      refine ⟨u, xs.reverse, ps.reverse, rfl, sq upd_same, ?_, by rw [List.length_reverse]; exact hl4, fun p hp => hz p (List.mem_reverse.mp hp), fun H8 s8 => ?_⟩
      · rw [List.map_reverse]
        exact dpAll_same (same_new nu) (da_rev dr7)
      have s78 : Same H7 H8 := (same_new nu).trans s8
      walk_at "rd"
      have sr8 := s78.seq sr7
      have dr8 := dpAll_same s78 dr7
      have hcut : cutV xs none (some 2) = xs.take 2 := by
        show (xs.drop (HT.sIx xs.length 0 none)).take (HT.sIx xs.length xs.length (some ((2 : Nat) : Int)) - HT.sIx xs.length 0 none) = _
        rw [HT.sIx_none, HT.sIx_nat, List.drop_zero, Nat.sub_zero]
        by_cases h : 2 ≤ xs.length
        · rw [Nat.min_eq_left h]
        · rw [Nat.min_eq_right (by omega), List.take_of_length_le (Nat.le_refl _), List.take_of_length_le (by omega)]
      refine ⟨r, xs, rfl, sr8, fun t nt => ?_⟩
      rw [hcut]
      walk_at "rd"
      refine ⟨t, xs.take 2, ps.take 2, rfl, sq upd_same, ?_, by rw [List.length_take]; omega, fun p hp => hz p (List.mem_of_mem_take hp), fun H9 s9 => ?_⟩
      · rw [List.map_take]
        exact dpAll_same (same_new nt) (da_take dr8 2)
      · exact q H9
end
end K30
namespace K30
open PySem PySem.Spec PyProof.Rows L2 Bx TL Dx Zx
/-! ### what the top leaves -/
theorem all_mk {l : PySem.W.OpenLaw} {w : World} {K : PySem.W.Frag} {h : Heap} {mg : Str → Option Value} {fa : Addr} (X : K.In h) (G : h.Ns mainGlobals mg) (hfa : mg "law" = some (.ref fa))
    {f_progression : Addr} {oc_progression kV_progression dc_progression pm_progression cd_progression ct_progression : Value} {od_progression an_progression : Option Addr} {sl_progression : Array (Option Value)}
    {f_is_in : Addr} {oc_is_in kV_is_in dc_is_in pm_is_in cd_is_in ct_is_in : Value} {od_is_in an_is_in : Option Addr} {sl_is_in : Array (Option Value)}
    {f_bezout : Addr} {oc_bezout kV_bezout dc_bezout pm_bezout cd_bezout ct_bezout : Value} {od_bezout an_bezout : Option Addr} {sl_bezout : Array (Option Value)}
    {f_solve_one : Addr} {oc_solve_one kV_solve_one dc_solve_one pm_solve_one cd_solve_one ct_solve_one : Value} {od_solve_one an_solve_one : Option Addr} {sl_solve_one : Array (Option Value)}
    {f_meet : Addr} {oc_meet kV_meet dc_meet pm_meet cd_meet ct_meet : Value} {od_meet an_meet : Option Addr} {sl_meet : Array (Option Value)}
    {f__law_source : Addr} {oc__law_source kV__law_source dc__law_source pm__law_source cd__law_source ct__law_source : Value} {od__law_source an__law_source : Option Addr} {sl__law_source : Array (Option Value)}
    {f__law_draw : Addr} {oc__law_draw kV__law_draw dc__law_draw pm__law_draw cd__law_draw ct__law_draw : Value} {od__law_draw an__law_draw : Option Addr} {sl__law_draw : Array (Option Value)}
    {f__law_size : Addr} {oc__law_size kV__law_size dc__law_size pm__law_size cd__law_size ct__law_size : Value} {od__law_size an__law_size : Option Addr} {sl__law_size : Array (Option Value)}
    {f__law_shared : Addr} {oc__law_shared kV__law_shared dc__law_shared pm__law_shared cd__law_shared ct__law_shared : Value} {od__law_shared an__law_shared : Option Addr} {sl__law_shared : Array (Option Value)}
    {f__law_fits : Addr} {oc__law_fits kV__law_fits dc__law_fits pm__law_fits cd__law_fits ct__law_fits : Value} {od__law_fits an__law_fits : Option Addr} {sl__law_fits : Array (Option Value)}
    {f__law_is_progression : Addr} {oc__law_is_progression kV__law_is_progression dc__law_is_progression pm__law_is_progression cd__law_is_progression ct__law_is_progression : Value} {od__law_is_progression an__law_is_progression : Option Addr} {sl__law_is_progression : Array (Option Value)}
    {f__law_solved_right : Addr} {oc__law_solved_right kV__law_solved_right dc__law_solved_right pm__law_solved_right cd__law_solved_right ct__law_solved_right : Value} {od__law_solved_right an__law_solved_right : Option Addr} {sl__law_solved_right : Array (Option Value)}
    {f__law_formed_right : Addr} {oc__law_formed_right kV__law_formed_right dc__law_formed_right pm__law_formed_right cd__law_formed_right ct__law_formed_right : Value} {od__law_formed_right an__law_formed_right : Option Addr} {sl__law_formed_right : Array (Option Value)}
    {f__law_progressions : Addr} {oc__law_progressions kV__law_progressions dc__law_progressions pm__law_progressions cd__law_progressions ct__law_progressions : Value} {od__law_progressions an__law_progressions : Option Addr} {sl__law_progressions : Array (Option Value)}
    {f__law_met : Addr} {oc__law_met kV__law_met dc__law_met pm__law_met cd__law_met ct__law_met : Value} {od__law_met an__law_met : Option Addr} {sl__law_met : Array (Option Value)}
    {f__law_least_multiple : Addr} {oc__law_least_multiple kV__law_least_multiple dc__law_least_multiple pm__law_least_multiple cd__law_least_multiple ct__law_least_multiple : Value} {od__law_least_multiple an__law_least_multiple : Option Addr} {sl__law_least_multiple : Array (Option Value)}
    {f__law_meet_right : Addr} {oc__law_meet_right kV__law_meet_right dc__law_meet_right pm__law_meet_right cd__law_meet_right ct__law_meet_right : Value} {od__law_meet_right an__law_meet_right : Option Addr} {sl__law_meet_right : Array (Option Value)}
    {f_law : Addr} {oc_law kV_law dc_law pm_law cd_law ct_law : Value} {od_law an_law : Option Addr} {sl_law : Array (Option Value)}
    (a_progression : PySem.W.nsIn K mainGlobals "progression" = some (some (.ref f_progression))) (l_progression : K.lookup f_progression = some ⟨oc_progression, od_progression, .func (PySem.W.fnOf "progression" "progression" (defArgs s_progression) (defBody s_progression) (defScope s_progression) .none kV_progression dc_progression pm_progression an_progression cd_progression ct_progression), sl_progression⟩) (c_progression : PySem.W.codeIn K cd_progression "progression" = true) (k_progression : PySem.W.keepIn K (.ref f_progression) = true)
    (a_is_in : PySem.W.nsIn K mainGlobals "is_in" = some (some (.ref f_is_in))) (l_is_in : K.lookup f_is_in = some ⟨oc_is_in, od_is_in, .func (PySem.W.fnOf "is_in" "is_in" (defArgs s_is_in) (defBody s_is_in) (defScope s_is_in) .none kV_is_in dc_is_in pm_is_in an_is_in cd_is_in ct_is_in), sl_is_in⟩) (c_is_in : PySem.W.codeIn K cd_is_in "is_in" = true) (k_is_in : PySem.W.keepIn K (.ref f_is_in) = true)
    (a_bezout : PySem.W.nsIn K mainGlobals "bezout" = some (some (.ref f_bezout))) (l_bezout : K.lookup f_bezout = some ⟨oc_bezout, od_bezout, .func (PySem.W.fnOf "bezout" "bezout" (defArgs s_bezout) (defBody s_bezout) (defScope s_bezout) .none kV_bezout dc_bezout pm_bezout an_bezout cd_bezout ct_bezout), sl_bezout⟩) (c_bezout : PySem.W.codeIn K cd_bezout "bezout" = true) (k_bezout : PySem.W.keepIn K (.ref f_bezout) = true)
    (a_solve_one : PySem.W.nsIn K mainGlobals "solve_one" = some (some (.ref f_solve_one))) (l_solve_one : K.lookup f_solve_one = some ⟨oc_solve_one, od_solve_one, .func (PySem.W.fnOf "solve_one" "solve_one" (defArgs s_solve_one) (defBody s_solve_one) (defScope s_solve_one) .none kV_solve_one dc_solve_one pm_solve_one an_solve_one cd_solve_one ct_solve_one), sl_solve_one⟩) (c_solve_one : PySem.W.codeIn K cd_solve_one "solve_one" = true) (k_solve_one : PySem.W.keepIn K (.ref f_solve_one) = true)
    (a_meet : PySem.W.nsIn K mainGlobals "meet" = some (some (.ref f_meet))) (l_meet : K.lookup f_meet = some ⟨oc_meet, od_meet, .func (PySem.W.fnOf "meet" "meet" (defArgs s_meet) (defBody s_meet) (defScope s_meet) .none kV_meet dc_meet pm_meet an_meet cd_meet ct_meet), sl_meet⟩) (c_meet : PySem.W.codeIn K cd_meet "meet" = true) (k_meet : PySem.W.keepIn K (.ref f_meet) = true)
    (a__law_source : PySem.W.nsIn K mainGlobals "_law_source" = some (some (.ref f__law_source))) (l__law_source : K.lookup f__law_source = some ⟨oc__law_source, od__law_source, .func (PySem.W.fnOf "_law_source" "_law_source" (defArgs s__law_source) (defBody s__law_source) (defScope s__law_source) .none kV__law_source dc__law_source pm__law_source an__law_source cd__law_source ct__law_source), sl__law_source⟩) (c__law_source : PySem.W.codeIn K cd__law_source "_law_source" = true) (k__law_source : PySem.W.keepIn K (.ref f__law_source) = true)
    (a__law_draw : PySem.W.nsIn K mainGlobals "_law_draw" = some (some (.ref f__law_draw))) (l__law_draw : K.lookup f__law_draw = some ⟨oc__law_draw, od__law_draw, .func (PySem.W.fnOf "_law_draw" "_law_draw" (defArgs s__law_draw) (defBody s__law_draw) (defScope s__law_draw) .none kV__law_draw dc__law_draw pm__law_draw an__law_draw cd__law_draw ct__law_draw), sl__law_draw⟩) (c__law_draw : PySem.W.codeIn K cd__law_draw "_law_draw" = true) (k__law_draw : PySem.W.keepIn K (.ref f__law_draw) = true)
    (a__law_size : PySem.W.nsIn K mainGlobals "_law_size" = some (some (.ref f__law_size))) (l__law_size : K.lookup f__law_size = some ⟨oc__law_size, od__law_size, .func (PySem.W.fnOf "_law_size" "_law_size" (defArgs s__law_size) (defBody s__law_size) (defScope s__law_size) .none kV__law_size dc__law_size pm__law_size an__law_size cd__law_size ct__law_size), sl__law_size⟩) (c__law_size : PySem.W.codeIn K cd__law_size "_law_size" = true) (k__law_size : PySem.W.keepIn K (.ref f__law_size) = true)
    (a__law_shared : PySem.W.nsIn K mainGlobals "_law_shared" = some (some (.ref f__law_shared))) (l__law_shared : K.lookup f__law_shared = some ⟨oc__law_shared, od__law_shared, .func (PySem.W.fnOf "_law_shared" "_law_shared" (defArgs s__law_shared) (defBody s__law_shared) (defScope s__law_shared) .none kV__law_shared dc__law_shared pm__law_shared an__law_shared cd__law_shared ct__law_shared), sl__law_shared⟩) (c__law_shared : PySem.W.codeIn K cd__law_shared "_law_shared" = true) (k__law_shared : PySem.W.keepIn K (.ref f__law_shared) = true)
    (a__law_fits : PySem.W.nsIn K mainGlobals "_law_fits" = some (some (.ref f__law_fits))) (l__law_fits : K.lookup f__law_fits = some ⟨oc__law_fits, od__law_fits, .func (PySem.W.fnOf "_law_fits" "_law_fits" (defArgs s__law_fits) (defBody s__law_fits) (defScope s__law_fits) .none kV__law_fits dc__law_fits pm__law_fits an__law_fits cd__law_fits ct__law_fits), sl__law_fits⟩) (c__law_fits : PySem.W.codeIn K cd__law_fits "_law_fits" = true) (k__law_fits : PySem.W.keepIn K (.ref f__law_fits) = true)
    (a__law_is_progression : PySem.W.nsIn K mainGlobals "_law_is_progression" = some (some (.ref f__law_is_progression))) (l__law_is_progression : K.lookup f__law_is_progression = some ⟨oc__law_is_progression, od__law_is_progression, .func (PySem.W.fnOf "_law_is_progression" "_law_is_progression" (defArgs s__law_is_progression) (defBody s__law_is_progression) (defScope s__law_is_progression) .none kV__law_is_progression dc__law_is_progression pm__law_is_progression an__law_is_progression cd__law_is_progression ct__law_is_progression), sl__law_is_progression⟩) (c__law_is_progression : PySem.W.codeIn K cd__law_is_progression "_law_is_progression" = true) (k__law_is_progression : PySem.W.keepIn K (.ref f__law_is_progression) = true)
    (a__law_solved_right : PySem.W.nsIn K mainGlobals "_law_solved_right" = some (some (.ref f__law_solved_right))) (l__law_solved_right : K.lookup f__law_solved_right = some ⟨oc__law_solved_right, od__law_solved_right, .func (PySem.W.fnOf "_law_solved_right" "_law_solved_right" (defArgs s__law_solved_right) (defBody s__law_solved_right) (defScope s__law_solved_right) .none kV__law_solved_right dc__law_solved_right pm__law_solved_right an__law_solved_right cd__law_solved_right ct__law_solved_right), sl__law_solved_right⟩) (c__law_solved_right : PySem.W.codeIn K cd__law_solved_right "_law_solved_right" = true) (k__law_solved_right : PySem.W.keepIn K (.ref f__law_solved_right) = true)
    (a__law_formed_right : PySem.W.nsIn K mainGlobals "_law_formed_right" = some (some (.ref f__law_formed_right))) (l__law_formed_right : K.lookup f__law_formed_right = some ⟨oc__law_formed_right, od__law_formed_right, .func (PySem.W.fnOf "_law_formed_right" "_law_formed_right" (defArgs s__law_formed_right) (defBody s__law_formed_right) (defScope s__law_formed_right) .none kV__law_formed_right dc__law_formed_right pm__law_formed_right an__law_formed_right cd__law_formed_right ct__law_formed_right), sl__law_formed_right⟩) (c__law_formed_right : PySem.W.codeIn K cd__law_formed_right "_law_formed_right" = true) (k__law_formed_right : PySem.W.keepIn K (.ref f__law_formed_right) = true)
    (a__law_progressions : PySem.W.nsIn K mainGlobals "_law_progressions" = some (some (.ref f__law_progressions))) (l__law_progressions : K.lookup f__law_progressions = some ⟨oc__law_progressions, od__law_progressions, .func (PySem.W.fnOf "_law_progressions" "_law_progressions" (defArgs s__law_progressions) (defBody s__law_progressions) (defScope s__law_progressions) .none kV__law_progressions dc__law_progressions pm__law_progressions an__law_progressions cd__law_progressions ct__law_progressions), sl__law_progressions⟩) (c__law_progressions : PySem.W.codeIn K cd__law_progressions "_law_progressions" = true) (k__law_progressions : PySem.W.keepIn K (.ref f__law_progressions) = true)
    (a__law_met : PySem.W.nsIn K mainGlobals "_law_met" = some (some (.ref f__law_met))) (l__law_met : K.lookup f__law_met = some ⟨oc__law_met, od__law_met, .func (PySem.W.fnOf "_law_met" "_law_met" (defArgs s__law_met) (defBody s__law_met) (defScope s__law_met) .none kV__law_met dc__law_met pm__law_met an__law_met cd__law_met ct__law_met), sl__law_met⟩) (c__law_met : PySem.W.codeIn K cd__law_met "_law_met" = true) (k__law_met : PySem.W.keepIn K (.ref f__law_met) = true)
    (a__law_least_multiple : PySem.W.nsIn K mainGlobals "_law_least_multiple" = some (some (.ref f__law_least_multiple))) (l__law_least_multiple : K.lookup f__law_least_multiple = some ⟨oc__law_least_multiple, od__law_least_multiple, .func (PySem.W.fnOf "_law_least_multiple" "_law_least_multiple" (defArgs s__law_least_multiple) (defBody s__law_least_multiple) (defScope s__law_least_multiple) .none kV__law_least_multiple dc__law_least_multiple pm__law_least_multiple an__law_least_multiple cd__law_least_multiple ct__law_least_multiple), sl__law_least_multiple⟩) (c__law_least_multiple : PySem.W.codeIn K cd__law_least_multiple "_law_least_multiple" = true) (k__law_least_multiple : PySem.W.keepIn K (.ref f__law_least_multiple) = true)
    (a__law_meet_right : PySem.W.nsIn K mainGlobals "_law_meet_right" = some (some (.ref f__law_meet_right))) (l__law_meet_right : K.lookup f__law_meet_right = some ⟨oc__law_meet_right, od__law_meet_right, .func (PySem.W.fnOf "_law_meet_right" "_law_meet_right" (defArgs s__law_meet_right) (defBody s__law_meet_right) (defScope s__law_meet_right) .none kV__law_meet_right dc__law_meet_right pm__law_meet_right an__law_meet_right cd__law_meet_right ct__law_meet_right), sl__law_meet_right⟩) (c__law_meet_right : PySem.W.codeIn K cd__law_meet_right "_law_meet_right" = true) (k__law_meet_right : PySem.W.keepIn K (.ref f__law_meet_right) = true)
    (a_law : PySem.W.nsIn K mainGlobals "law" = some (some (.ref f_law))) (l_law : K.lookup f_law = some ⟨oc_law, od_law, .func (PySem.W.fnOf "law" "law" (defArgs s_law) (defBody s_law) (defScope s_law) .none kV_law dc_law pm_law an_law cd_law ct_law), sl_law⟩) (c_law : PySem.W.codeIn K cd_law "law" = true) (k_law : PySem.W.keepIn K (.ref f_law) = true)
    (z_zip : PySem.W.nsIn K mainGlobals "zip" = some none)
    (z_tuple : PySem.W.nsIn K mainGlobals "tuple" = some none)
    (z_len : PySem.W.nsIn K mainGlobals "len" = some none)
    (z_int : PySem.W.nsIn K mainGlobals "int" = some none)
    (z_abs : PySem.W.nsIn K mainGlobals "abs" = some none)
    (z_range : PySem.W.nsIn K mainGlobals "range" = some none)
    (z_isinstance : PySem.W.nsIn K mainGlobals "isinstance" = some none)
    (z_bool : PySem.W.nsIn K mainGlobals "bool" = some none)
    (z_list : PySem.W.nsIn K mainGlobals "list" = some none)
    : ∃ fd : FuncData, (∀ (s : Shared) (v : Value), BindsTo s fd ⟨[v], []⟩ [("_law_script", v)]) ∧ ∀ base : Heap, K.In base → base.Ns mainGlobals mg → FnOk l.prog w K mg base CX0 6 fa fd ["_law_script"] (spLaw K) := by
  have e := hfa.symm.trans (PySem.W.mg_of X G a_law)
  cases e
  have F_progression := fun_mk (st := s_progression) l_progression c_progression k_progression
  have b_progression := F_progression.binds (ps := ["modulus", "rest"]) fun _ _ _ _ _ _ us hl => match us, hl with | [_, _], _ => rfl
  have F_is_in := fun_mk (st := s_is_in) l_is_in c_is_in k_is_in
  have b_is_in := F_is_in.binds (ps := ["number", "steps"]) fun _ _ _ _ _ _ us hl => match us, hl with | [_, _], _ => rfl
  have F_bezout := fun_mk (st := s_bezout) l_bezout c_bezout k_bezout
  have b_bezout := F_bezout.binds (ps := ["first", "second"]) fun _ _ _ _ _ _ us hl => match us, hl with | [_, _], _ => rfl
  have F_solve_one := fun_mk (st := s_solve_one) l_solve_one c_solve_one k_solve_one
  have b_solve_one := F_solve_one.binds (ps := ["coefficient", "modulus", "rest"]) fun _ _ _ _ _ _ us hl => match us, hl with | [_, _, _], _ => rfl
  have F_meet := fun_mk (st := s_meet) l_meet c_meet k_meet
  have F__law_source := fun_mk (st := s__law_source) l__law_source c__law_source k__law_source
  have b__law_source := F__law_source.binds (ps := ["_law_script", "_law_k"]) fun _ _ _ _ _ _ us hl => match us, hl with | [_, _], _ => rfl
  have F__law_draw := fun_mk (st := s__law_draw) l__law_draw c__law_draw k__law_draw
  have b__law_draw := F__law_draw.binds (ps := ["_law_source_here", "_law_limit"]) fun _ _ _ _ _ _ us hl => match us, hl with | [_, _], _ => rfl
  have F__law_size := fun_mk (st := s__law_size) l__law_size c__law_size k__law_size
  have b__law_size := F__law_size.binds (ps := ["_law_source_here", "_law_most"]) fun _ _ _ _ _ _ us hl => match us, hl with | [_, _], _ => rfl
  have F__law_shared := fun_mk (st := s__law_shared) l__law_shared c__law_shared k__law_shared
  have b__law_shared := F__law_shared.binds (ps := ["_law_first", "_law_second"]) fun _ _ _ _ _ _ us hl => match us, hl with | [_, _], _ => rfl
  have F__law_fits := fun_mk (st := s__law_fits) l__law_fits c__law_fits k__law_fits
  have b__law_fits := F__law_fits.binds (ps := ["_law_number", "_law_modulus"]) fun _ _ _ _ _ _ us hl => match us, hl with | [_, _], _ => rfl
  have F__law_is_progression := fun_mk (st := s__law_is_progression) l__law_is_progression c__law_is_progression k__law_is_progression
  have b__law_is_progression := F__law_is_progression.binds (ps := ["_law_actual"]) fun _ _ _ _ _ _ us hl => match us, hl with | [_], _ => rfl
  have F__law_solved_right := fun_mk (st := s__law_solved_right) l__law_solved_right c__law_solved_right k__law_solved_right
  have b__law_solved_right := F__law_solved_right.binds (ps := ["_law_source_here"]) fun _ _ _ _ _ _ us hl => match us, hl with | [_], _ => rfl
  have F__law_formed_right := fun_mk (st := s__law_formed_right) l__law_formed_right c__law_formed_right k__law_formed_right
  have b__law_formed_right := F__law_formed_right.binds (ps := ["_law_source_here"]) fun _ _ _ _ _ _ us hl => match us, hl with | [_], _ => rfl
  have F__law_progressions := fun_mk (st := s__law_progressions) l__law_progressions c__law_progressions k__law_progressions
  have b__law_progressions := F__law_progressions.binds (ps := ["_law_source_here"]) fun _ _ _ _ _ _ us hl => match us, hl with | [_], _ => rfl
  have F__law_met := fun_mk (st := s__law_met) l__law_met c__law_met k__law_met
  have b__law_met := F__law_met.binds (ps := ["_law_steps"]) fun _ _ _ _ _ _ us hl => match us, hl with | [_], _ => rfl
  have F__law_least_multiple := fun_mk (st := s__law_least_multiple) l__law_least_multiple c__law_least_multiple k__law_least_multiple
  have b__law_least_multiple := F__law_least_multiple.binds (ps := ["_law_steps"]) fun _ _ _ _ _ _ us hl => match us, hl with | [_], _ => rfl
  have F__law_meet_right := fun_mk (st := s__law_meet_right) l__law_meet_right c__law_meet_right k__law_meet_right
  have b__law_meet_right := F__law_meet_right.binds (ps := ["_law_steps"]) fun _ _ _ _ _ _ us hl => match us, hl with | [_], _ => rfl
  have F_law := fun_mk (st := s_law) l_law c_law k_law
  have m_zip := PySem.W.mg_none_of X G z_zip
  have m_tuple := PySem.W.mg_none_of X G z_tuple
  have m_len := PySem.W.mg_none_of X G z_len
  have m_int := PySem.W.mg_none_of X G z_int
  have m_abs := PySem.W.mg_none_of X G z_abs
  have m_range := PySem.W.mg_none_of X G z_range
  have m_isinstance := PySem.W.mg_none_of X G z_isinstance
  have m_bool := PySem.W.mg_none_of X G z_bool
  have m_list := PySem.W.mg_none_of X G z_list
  refine ⟨PySem.W.fnOf "law" "law" (defArgs s_law) (defBody s_law) (defScope s_law) .none kV_law dc_law pm_law an_law cd_law ct_law, fun s v => .of_eq rfl, fun base _ _ => ?_⟩
  have C_progression : Cal l.prog w K mg base "progression" 1 ["modulus", "rest"] spProg := ⟨_, _, ok_progression F_progression , PySem.W.mg_of X G a_progression, F_progression.kp, b_progression⟩
  have C_is_in : Cal l.prog w K mg base "is_in" 1 ["number", "steps"] (spIsIn K) := ⟨_, _, ok_is_in F_is_in , PySem.W.mg_of X G a_is_in, F_is_in.kp, b_is_in⟩
  have C_bezout : Cal l.prog w K mg base "bezout" 1 ["first", "second"] spBez := ⟨_, _, ok_bezout F_bezout (m_zip := m_zip) (m_tuple := m_tuple), PySem.W.mg_of X G a_bezout, F_bezout.kp, b_bezout⟩
  have C_solve_one : Cal l.prog w K mg base "solve_one" 2 ["coefficient", "modulus", "rest"] spSolve := ⟨_, _, ok_solve_one F_solve_one (C_bezout := C_bezout) (C_progression := C_progression), PySem.W.mg_of X G a_solve_one, F_solve_one.kp, b_solve_one⟩
  have C_meet : CalR l.prog w K mg base "meet" 3 (spMeet K) := ⟨_, ok_meet F_meet (C_solve_one := C_solve_one) (C_progression := C_progression), PySem.W.mg_of X G a_meet, F_meet.kp⟩
  have C__law_source : Cal l.prog w K mg base "_law_source" 1 ["_law_script", "_law_k"] (spSource K) := ⟨_, _, ok_source F__law_source (m_len := m_len) (m_int := m_int), PySem.W.mg_of X G a__law_source, F__law_source.kp, b__law_source⟩
  have C__law_draw : Cal l.prog w K mg base "_law_draw" 1 ["_law_source_here", "_law_limit"] spDraw := ⟨_, _, ok_draw F__law_draw (m_int := m_int), PySem.W.mg_of X G a__law_draw, F__law_draw.kp, b__law_draw⟩
  have C__law_size : Cal l.prog w K mg base "_law_size" 2 ["_law_source_here", "_law_most"] spSize := ⟨_, _, ok_size F__law_size (C__law_draw := C__law_draw), PySem.W.mg_of X G a__law_size, F__law_size.kp, b__law_size⟩
  have C__law_shared : Cal l.prog w K mg base "_law_shared" 1 ["_law_first", "_law_second"] spShared := ⟨_, _, ok_shared F__law_shared (m_abs := m_abs) (m_range := m_range) (m_int := m_int), PySem.W.mg_of X G a__law_shared, F__law_shared.kp, b__law_shared⟩
  have C__law_fits : Cal l.prog w K mg base "_law_fits" 1 ["_law_number", "_law_modulus"] spFits := ⟨_, _, ok_fits F__law_fits (m_int := m_int), PySem.W.mg_of X G a__law_fits, F__law_fits.kp, b__law_fits⟩
  have C__law_is_progression : Cal l.prog w K mg base "_law_is_progression" 1 ["_law_actual"] (spIsProg K) := ⟨_, _, ok_is_prog F__law_is_progression (m_isinstance := m_isinstance) (m_len := m_len) (m_tuple := m_tuple) (m_int := m_int) (m_bool := m_bool), PySem.W.mg_of X G a__law_is_progression, F__law_is_progression.kp, b__law_is_progression⟩
  have C__law_solved_right : Cal l.prog w K mg base "_law_solved_right" 3 ["_law_source_here"] spRightS := ⟨_, _, ok_solved_right F__law_solved_right (C__law_draw := C__law_draw) (C__law_size := C__law_size) (C_solve_one := C_solve_one) (C__law_shared := C__law_shared) (C__law_fits := C__law_fits) (C__law_is_progression := C__law_is_progression), PySem.W.mg_of X G a__law_solved_right, F__law_solved_right.kp, b__law_solved_right⟩
  have C__law_formed_right : Cal l.prog w K mg base "_law_formed_right" 3 ["_law_source_here"] spRight := ⟨_, _, ok_formed_right F__law_formed_right (m_isinstance := m_isinstance) (m_bool := m_bool) (C__law_size := C__law_size) (C_progression := C_progression) (C_is_in := C_is_in) (C__law_fits := C__law_fits) (C__law_is_progression := C__law_is_progression), PySem.W.mg_of X G a__law_formed_right, F__law_formed_right.kp, b__law_formed_right⟩
  have C__law_progressions : Cal l.prog w K mg base "_law_progressions" 3 ["_law_source_here"] (spProgs K) := ⟨_, _, ok_progs F__law_progressions (m_range := m_range) (m_int := m_int) (C__law_draw := C__law_draw) (C__law_size := C__law_size), PySem.W.mg_of X G a__law_progressions, F__law_progressions.kp, b__law_progressions⟩
  have C__law_met : Cal l.prog w K mg base "_law_met" 4 ["_law_steps"] (spMet K) := ⟨_, _, ok_met F__law_met (m_len := m_len) (C_meet := C_meet), PySem.W.mg_of X G a__law_met, F__law_met.kp, b__law_met⟩
  have C__law_least_multiple : Cal l.prog w K mg base "_law_least_multiple" 2 ["_law_steps"] (spLm K) := ⟨_, _, ok_lm F__law_least_multiple (C__law_shared := C__law_shared), PySem.W.mg_of X G a__law_least_multiple, F__law_least_multiple.kp, b__law_least_multiple⟩
  have C__law_meet_right : Cal l.prog w K mg base "_law_meet_right" 5 ["_law_steps"] (spMR K) := ⟨_, _, ok_meet_right F__law_meet_right (m_list := m_list) (C__law_met := C__law_met) (C__law_least_multiple := C__law_least_multiple) (C__law_shared := C__law_shared) (C__law_fits := C__law_fits) (C__law_is_progression := C__law_is_progression), PySem.W.mg_of X G a__law_meet_right, F__law_meet_right.kp, b__law_meet_right⟩
  exact ok_law F_law (m_range := m_range) (C__law_source := C__law_source) (C__law_solved_right := C__law_solved_right) (C__law_formed_right := C__law_formed_right) (C__law_progressions := C__law_progressions) (C__law_meet_right := C__law_meet_right)
end K30
open PySem PySem.W PyProof.Rows
set_option maxRecDepth 100000 in
set_option maxHeartbeats 0 in
theorem PySem.Challenge.cw_shadowlinks_k30_progressions_holds : PySem.Challenge.rw_shadowlinks_k30_progressions.Holds := by
  w_on; o_law; k_head; (case hw => w_witness2)
  k_fill
  refine L2.walk_of (l := PySem.Challenge.rw_shadowlinks_k30_progressions) (n := 63) (k := 6) (x := "_law_script") (CX := fun _ => L2.CX0) (sp := fun w => K30.spLaw _) rfl (by decide) rfl ⟨rfl, by decide, by decide⟩ (fun w h Y => PySem.W.kIn_of Y) ?F (fun _ _ a ns hl _ hS => ⟨a, ns, rfl, hS, hl, fun _ => rfl⟩) (fun _ _ _ _ _ h => h)
  case F =>
    intro w mg fa h KX G hmg
    refine' K30.all_mk KX G hmg ?a_progression ?l_progression ?c_progression ?k_progression ?a_is_in ?l_is_in ?c_is_in ?k_is_in ?a_bezout ?l_bezout ?c_bezout ?k_bezout ?a_solve_one ?l_solve_one ?c_solve_one ?k_solve_one ?a_meet ?l_meet ?c_meet ?k_meet ?a__law_source ?l__law_source ?c__law_source ?k__law_source ?a__law_draw ?l__law_draw ?c__law_draw ?k__law_draw ?a__law_size ?l__law_size ?c__law_size ?k__law_size ?a__law_shared ?l__law_shared ?c__law_shared ?k__law_shared ?a__law_fits ?l__law_fits ?c__law_fits ?k__law_fits ?a__law_is_progression ?l__law_is_progression ?c__law_is_progression ?k__law_is_progression ?a__law_solved_right ?l__law_solved_right ?c__law_solved_right ?k__law_solved_right ?a__law_formed_right ?l__law_formed_right ?c__law_formed_right ?k__law_formed_right ?a__law_progressions ?l__law_progressions ?c__law_progressions ?k__law_progressions ?a__law_met ?l__law_met ?c__law_met ?k__law_met ?a__law_least_multiple ?l__law_least_multiple ?c__law_least_multiple ?k__law_least_multiple ?a__law_meet_right ?l__law_meet_right ?c__law_meet_right ?k__law_meet_right ?a_law ?l_law ?c_law ?k_law ?z_zip ?z_tuple ?z_len ?z_int ?z_abs ?z_range ?z_isinstance ?z_bool ?z_list
    (case a_progression => k_is)
    (case l_progression => k_is)
    (case c_progression => k_is)
    (case k_progression => k_is)
    (case a_is_in => k_is)
    (case l_is_in => k_is)
    (case c_is_in => k_is)
    (case k_is_in => k_is)
    (case a_bezout => k_is)
    (case l_bezout => k_is)
    (case c_bezout => k_is)
    (case k_bezout => k_is)
    (case a_solve_one => k_is)
    (case l_solve_one => k_is)
    (case c_solve_one => k_is)
    (case k_solve_one => k_is)
    (case a_meet => k_is)
    (case l_meet => k_is)
    (case c_meet => k_is)
    (case k_meet => k_is)
    (case a__law_source => k_is)
    (case l__law_source => k_is)
    (case c__law_source => k_is)
    (case k__law_source => k_is)
    (case a__law_draw => k_is)
    (case l__law_draw => k_is)
    (case c__law_draw => k_is)
    (case k__law_draw => k_is)
    (case a__law_size => k_is)
    (case l__law_size => k_is)
    (case c__law_size => k_is)
    (case k__law_size => k_is)
    (case a__law_shared => k_is)
    (case l__law_shared => k_is)
    (case c__law_shared => k_is)
    (case k__law_shared => k_is)
    (case a__law_fits => k_is)
    (case l__law_fits => k_is)
    (case c__law_fits => k_is)
    (case k__law_fits => k_is)
    (case a__law_is_progression => k_is)
    (case l__law_is_progression => k_is)
    (case c__law_is_progression => k_is)
    (case k__law_is_progression => k_is)
    (case a__law_solved_right => k_is)
    (case l__law_solved_right => k_is)
    (case c__law_solved_right => k_is)
    (case k__law_solved_right => k_is)
    (case a__law_formed_right => k_is)
    (case l__law_formed_right => k_is)
    (case c__law_formed_right => k_is)
    (case k__law_formed_right => k_is)
    (case a__law_progressions => k_is)
    (case l__law_progressions => k_is)
    (case c__law_progressions => k_is)
    (case k__law_progressions => k_is)
    (case a__law_met => k_is)
    (case l__law_met => k_is)
    (case c__law_met => k_is)
    (case k__law_met => k_is)
    (case a__law_least_multiple => k_is)
    (case l__law_least_multiple => k_is)
    (case c__law_least_multiple => k_is)
    (case k__law_least_multiple => k_is)
    (case a__law_meet_right => k_is)
    (case l__law_meet_right => k_is)
    (case c__law_meet_right => k_is)
    (case k__law_meet_right => k_is)
    (case a_law => k_is)
    (case l_law => k_is)
    (case c_law => k_is)
    (case k_law => k_is)
    (case z_zip => k_is)
    (case z_tuple => k_is)
    (case z_len => k_is)
    (case z_int => k_is)
    (case z_abs => k_is)
    (case z_range => k_is)
    (case z_isinstance => k_is)
    (case z_bool => k_is)
    (case z_list => k_is)
#print axioms PySem.Challenge.cw_shadowlinks_k30_progressions_holds
