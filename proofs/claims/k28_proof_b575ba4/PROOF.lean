import PyProof.Rows.All
import Wide.All
import OpenK.AllK
import Wide.FinOn
import HandS.ForMost
import HandS.Set
import HandS.Strs
import HandS.SetBool
import HandS.SetTxt0
import HandS.SetFor
import HandS.Lambda
import HandS.Nested
import OpenK.KRaise
import HandS.Wide
import HandS.WideBits
import HandS.IsInst
import HandS.Zip
import HandS.Walk
import HandS.WordsDict
import HandS.More
import HandS.Conv
import HandS.DictComp
import HandS.SetKeys
import KE.KDictKeyed
import HandS.TupLen
import PyProof.StrWalks
import KE.GoesCell
import PyProof.Draws
import PyProof.EnumMake
import KE.GoesMore
import HandS.Evl
import PyProof.ListStr
import HandS.DeepEq
import HandS.Steps
import HandS.ListItems
import HandS.Text
import HandS.Property
import HandS.Codes
import PyProof.ReprRoads
import HandS.RaiseMore
import PyProof.InstSpecial
import PyProof.ReprLen
import HandS.FStr
import HandS.Defaults
import HandS.MakeKw
import HandS.MakeKwOnly
import HandS.Finally
import HandS.WordsExc
import HandS.GenList
import HandS.OwnEq
import PyProof.InstNe
import HandS.Rev
import HandS.RevTup
import PyProof.ReprLoop
import PyProof.Rows.Chain
import PyProof.SetRoads
import HandS.ClsMeth
import HandS.Comp
import HandS.Style
import HandS.Ends
import HandS.EndTab
import HandS.HeadWalk
import KE.KNest
import KE.KNestM
import OpenK.XHead
import PySem.Challenge.RW_sealedslots_k28_whole_states_by_all_text
/-! ## S1 -/
set_option Elab.async false
set_option linter.all false
set_option maxRecDepth 100000
set_option maxHeartbeats 4000000
/-! ### sets of texts that can be walked: made, added to, sorted -/
namespace TxS
open PySem PySem.Spec PyProof.Rows L2 PySem.Froz
/-- the texts l, each once, are the set at a; its table can be walked -/
def SetS (P : Program) (w : World) (h : Heap) (a : Addr) (l : List Str) : Prop :=
  ∃ D : SD, h.get? a = some (sObj "set" D) ∧ TxOk P w D l ∧ (Ris D.2.2.place.toList ∧ (w.params.followText "set-order" = true ∨ D.2.2.led = true)) ∧ l.Nodup
theorem addTx_walk {w : World} {D : SD} {x : Int} {v : Value} (r : Ris D.2.2.place.toList ∧ (w.params.followText "set-order" = true ∨ D.2.2.led = true)) :
    Ris (addTx x v D).2.2.place.toList ∧ (w.params.followText "set-order" = true ∨ (addTx x v D).2.2.led = true) := by
  have r1 := layNew_ris D.2.2 D.1 x v r.1
  have r2 := layNew_led D.2.2 D.1 x v
  unfold addTx
  generalize layNew D.2.2 D.1 x v = Z at r1 r2
  obtain ⟨es1, t1, wd, gv⟩ := Z
  dsimp only at r1 r2 ⊢
  have r3 : Ris (if t1.plain = true then { t1 with plain := false } else t1).place.toList ∧ (if t1.plain = true then { t1 with plain := false } else t1).led = D.2.2.led := by
    by_cases c : t1.plain = true
    · rw [if_pos c]
      exact ⟨r1, r2⟩
    · rw [if_neg c]
      exact ⟨r1, r2⟩
  generalize (if t1.plain = true then { t1 with plain := false } else t1) = t2 at r3
  unfold tailTx
  split
  · exact ⟨relayAll_ris _ _ _, r.2.imp id fun z => by
      show (relayAll t2 es1 (SetTable.grown es1.size)).2.1.led = true
      rw [relayAll_led, r3.2]
      exact z⟩
  · exact ⟨r3.1, r.2.imp id fun z => by
      show t2.led = true
      rw [r3.2]
      exact z⟩
theorem SetS.later {P : Program} {w : World} {h h' : Heap} {a : Addr} {l : List Str} (R : SetS P w h a l) (k : ∀ o, h.get? a = some o → h'.get? a = some o) : SetS P w h' a l := by
  obtain ⟨D, e, r⟩ := R
  exact ⟨D, k _ e, r⟩
theorem SetS.fresh (P : Program) (w : World) {h : Heap} : SetS P w (h.push { cls := .type "set", dict := none, data := .set #[] 0 (.fresh 0 0 (!w.params.followText "set-order")) }) h.objs.size [] := by
  refine ⟨(#[], 0, .fresh 0 0 (!w.params.followText "set-order")), Heap.get?_push_size _ rfl, TxOk.nil (by rfl), ⟨List.Pairwise.nil, ?_⟩, List.nodup_nil⟩
  show _ ∨ (!w.params.followText "set-order") = true
  cases w.params.followText "set-order"
  · exact .inr rfl
  · exact .inl rfl
/-- the values of the table are the texts, in some order -/
theorem strs_all {P : Program} {w : World} : ∀ (vs : List Value), (∀ v ∈ vs, ∃ k : Str, (strKind P w).is k v = true) → ∃ ws, StrsAre vs ws
  | [], _ => ⟨[], .nil⟩
  | v :: vs, h => by
    obtain ⟨k, hk⟩ := h v List.mem_cons_self
    obtain ⟨ws, q⟩ := strs_all vs fun u hu => h u (List.mem_cons_of_mem _ hu)
    have e : Value.isStrOf k v = true := hk
    cases v with
    | str x u => exact ⟨x :: ws, .cons x u q⟩
    | _ => simp [Value.isStrOf] at e
theorem strs_mem {P : Program} {w : World} : ∀ {vs : List Value} {ws : List Str}, StrsAre vs ws → ∀ k : Str, k ∈ ws ↔ ∃ v ∈ vs, (strKind P w).is k v = true
  | _, _, .nil, k => by simp
  | _, _, .cons x u r, k => by
    rw [List.mem_cons, strs_mem (P := P) (w := w) r k]
    constructor
    · rintro (rfl | ⟨v, hv, z⟩)
      · exact ⟨_, List.mem_cons_self, is_str k u⟩
      · exact ⟨v, List.mem_cons_of_mem _ hv, z⟩
    · rintro ⟨v, hv, z⟩
      rcases List.mem_cons.mp hv with e | e
      · rw [e] at z
        exact .inl ((strKind P w).inj (.str x u) k x z (is_str x u))
      · exact .inr ⟨v, e, z⟩
theorem strs_len : ∀ {vs : List Value} {ws : List Str}, StrsAre vs ws → ws.length = vs.length
  | _, _, .nil => rfl
  | _, _, .cons _ _ r => congrArg (· + 1) (strs_len r)
/-- as many as the members, all members among them: each once -/
theorem perm_of_all : ∀ {l ws : List Str}, l.Nodup → (∀ k ∈ l, k ∈ ws) → ws.length = l.length → ws.Perm l
  | [], ws, _, _, e => by
    rw [List.eq_nil_of_length_eq_zero e]
  | x :: l, ws, nd, h, e => by
    obtain ⟨nx, nd'⟩ := List.nodup_cons.mp nd
    have hx := h x List.mem_cons_self
    have p := List.perm_cons_erase hx
    have hl : (ws.erase x).length = l.length := by
      have q := p.length_eq
      rw [List.length_cons] at q e
      omega
    exact p.trans ((perm_of_all nd' (fun k hk => (List.mem_erase_of_ne (fun z => nx (by rw [← z]; exact hk))).mpr (h k (List.mem_cons_of_mem _ hk))) hl).cons x)
theorem texts_of {P : Program} {w : World} {es : Array (Int × Value)} {ep : Nat} {t : SetTable} {l : List Str} {vs : List Value} (nd : l.Nodup) (G : TxOk P w (es, ep, t) l) (pm : vs.Perm (es.toList.map (·.2))) :
    ∃ ws, StrsAre vs ws ∧ ws.Perm l := by
  obtain ⟨ws, q⟩ := strs_all (P := P) (w := w) vs fun v hv => by
    obtain ⟨e, he, z⟩ := List.mem_map.mp (pm.mem_iff.mp hv)
    obtain ⟨⟨k, hk, _⟩, _⟩ := G.el e he
    exact ⟨k, by rw [← z]; exact hk⟩
  refine ⟨ws, q, perm_of_all nd (fun k hk => ?_) ?_⟩
  · revert hk
    refine (show k ∈ ws ↔ k ∈ l from ?_).mpr
    rw [strs_mem (P := P) (w := w) q k, G.mem k]
    constructor
    · rintro ⟨v, hv, z⟩
      obtain ⟨e, he, y⟩ := List.mem_map.mp (pm.mem_iff.mp hv)
      exact ⟨e, he, by rw [y]; exact z⟩
    · rintro ⟨e, he, z⟩
      exact ⟨e.2, pm.mem_iff.mpr (List.mem_map.mpr ⟨e, he, rfl⟩), z⟩
  · rw [strs_len q, pm.length_eq, List.length_map, Array.length_toList]
    exact G.sz
section
variable {P : Program} {w : World} {A : Around} {E : Value → Shared → Prop} {s : Shared} {a : Addr} {l : List Str}
/-- a text that is there already -/
theorem there_x {D : SD} {k : Str} {u : Tok} {Q : Bool → Shared → Prop} (ho : s.heap.get? a = some (sObj "set" D)) (F : TxOk P w D l) (hk : k ∈ l) (hb : l.length < scanBound)
    (h : Q false s) : wpAny (model P w) A (setAddHashed a (.str k u) (hashStr w k)) Q E s := by
  obtain ⟨es, ep, t⟩ := D
  have hd : (sObj "set" (es, ep, t)).data = .set es ep t := rfl
  have hf : t.fits es.size = true := F.fit
  have hel : ElemsOf (strKind P w) es.toList := F.el
  have hb0 : es.size < scanBound := by
    have q : es.size = l.length := F.sz
    omega
  unfold setAddHashed setAddHashedIn
  refine wpAny_holding (wpAny_bind (wpAny_setState_of ho hd hf ?_))
  dsimp only
  rw [byScan_of rfl hb0 hel]
  simp only [↓reduceIte]
  unfold setAddByScan
  refine wpAny_bind (wpAny_bind (wpAny_rule (wpAny_bind (wpAny_setScan_of (knd := strKind P w) (k := k) (is_str k u) ho hd hf hel ?_))))
  cases hr : List.findIdx? (fun e => (strKind P w).is k e.2) es.toList with
  | some j =>
    dsimp only
    exact wpAny_pure (wpAny_pure h)
  | none =>
    obtain ⟨e, he, q⟩ := (F.mem k).mp hk
    have c := List.findIdx?_eq_none_iff.mp hr e he
    rw [q] at c
    cases c
theorem setS_add {k : Str} {u : Tok} {Q : Value → Shared → Prop} (R : SetS P w s.heap a l) (room : l.length + 1 < scanBound)
    (hQ : ∀ h', Heap.SameBut a s.heap h' → SetS P w h' a (if k ∈ l then l else k :: l) → Q .none { s with heap := h', toks := s.toks + 1 }) :
    wpAny (model P w) A (call (.builtin "set.add") [.ref a, .str k u]) Q E s := by
  obtain ⟨D, ho, G, r, nd⟩ := R
  refine wpAny_call_entry F.slot_set_add ⟨_, ho, rfl⟩ F.entry_set_add ?_ (F.args_set_add_2 _ _)
  unfold Builtin.«set.add» Builtin.Frozenset.oneOther
  simp only [List.isEmpty_nil, bind_assoc]
  unfold Builtin.Frozenset.addrOf setAdd
  refine wpAny_bind (wpAny_pure ?_)
  try dsimp only
  refine wpAny_bind (wpAny_pure ?_)
  try dsimp only
  refine wpAny_bind (wpAny_holding (wpAny_bind ((strKind P w).pyHash (is_str k u) ?_)))
  by_cases c : k ∈ l
  · refine there_x (s := { s with toks := s.toks + 1 }) ho G c (by omega) ?_
    refine wpAny_pure ⟨_, rfl, hQ s.heap (Heap.SameBut.refl a s.heap) ?_⟩
    rw [if_pos c]
    exact ⟨D, ho, G, r, nd⟩
  · refine add_x (s := { s with toks := s.toks + 1 }) ho G c room ?_
    refine wpAny_pure ⟨_, rfl, hQ _ ?_ ?_⟩
    · exact Heap.SameBut.update ..
    · rw [if_neg c]
      exact ⟨_, get_upd _ ho rfl, add_ok u G, addTx_walk r, List.nodup_cons.mpr ⟨c, nd⟩⟩
/-- sorted(set): ascending -/
theorem sorted_setS {Q : Value → Shared → Prop} (R : SetS P w s.heap a l) (hh : A.handled = none) (h64 : l.length < 64)
    (hQ : ∀ s' p (out : Array Value) (c : Nat) (ys : List Str), (∀ b o, s.heap.get? b = some o → s'.heap.get? b = some o) → s'.gens = s.gens → s'.os = s.os → s.heap.objs.size ≤ p →
      s'.heap.get? p = some (seqObj "list" out c) → StrsAre out.toList ys → sortedS ys = true → ys.Perm l → Q (.ref p) s') :
    wpAny (model P w) A (call (.builtin "sorted") [.ref a]) Q E s := by
  obtain ⟨D, ho, G, r, nd⟩ := R
  obtain ⟨es, ep, t⟩ := D
  have hsz : es.size = l.length := G.sz
  have hb : es.size < scanBound := by
    unfold scanBound
    omega
  refine Calls.call_function_entry kind_sorted plain_sorted entry_sorted (args_sorted1 _) ?_
  unfold Builtin.«sorted»
  refine wpAny_bind (m := checkCount "sorted" 1 1 _) (wpAny_pure ?_)
  refine wpAny_bind (collect_set (A := A.in1) hh ⟨_, ho, rfl, rfl⟩ G.fit hb r.1 r.2 fun s1 vs k1 hz g1 o1 pm => ?_)
  obtain ⟨ws, hws, pw⟩ := texts_of (P := P) (w := w) nd G pm
  have hvl : vs.length = l.length := by rw [pm.length_eq, List.length_map, Array.length_toList, hsz]
  refine wpAny_bind (wpAny_newList ?_ (by rw [hvl, sizeLine_eq]; omega))
  have hoL : (s1.heap.push (seqObj "list" vs.toArray 0)).get? s1.heap.objs.size = some (seqObj "list" vs.toArray 0) := Heap.get?_push_size _ rfl
  refine wpAny_bind (wpAny_holding (wpAny_call_entry slot_list_sort ⟨_, hoL, rfl⟩ entry_list_sort (list_sort_treeK strKind_oneLt hoL hws.keysOf (fun v₁ v₂ rest e => keyKind_strs (by rw [← e]; exact hws)) (by rw [hvl]; exact h64) fun st' hp hs => ⟨_, rfl, ?_⟩) (args_list_sort _)))
  obtain ⟨ys, q1, q2, q3⟩ := sorted_out_str hws hp hs
  obtain ⟨c, hc⟩ := sortedHeap_at (vs := vs) (out := (arrOf st').map (·.2)) hoL
  refine wpAny_pure ⟨_, rfl, hQ _ s1.heap.objs.size _ c ys (fun b u e => ?_) g1 o1 hz hc q1 q3 (q2.trans pw)⟩
  have q := k1 b u e
  have hlt := Heap.lt_size q
  show (sortedHeap (s1.heap.push (seqObj "list" vs.toArray 0)) s1.heap.objs.size vs ((arrOf st').map (·.2))).get? b = some u
  rw [sortedHeap_old (Nat.ne_of_lt hlt) (by rw [size_push']; exact Nat.lt_succ_of_lt hlt)]
  exact Heap.get?_push_of_some _ q
end
/-! ### over the layer -/
def SetSO (P : Program) (w : World) (a : Addr) (l : List Str) : HO := .ext fun h => SetS P w h a l
theorem setSO_new {w : World} {P : Program} {H : Hp} {h : Heap} {a : Addr} {l : List Str} (R : SetS P w h a l) : ObjOk P w H h a (SetSO P w a l) := by
  have ⟨D, ho, _⟩ := R
  exact ⟨R, ⟨_, ho⟩, fun h1 h2 p k => SetS.later p k⟩
section
variable {X : Cx}
theorem setSO_get {pins : List (Addr × Obj)} {σ : L2.St} {H : Hp} {s : Shared} {a : Addr} {l : List Str} (I : Inv X pins σ H s) (ha : H a = some (SetSO X.prog X.w a l)) : SetS X.prog X.w s.heap a l := (I.hok a _ ha).1
/-- one more text for the set at D -/
theorem addS_ok {pins : List (Addr × Obj)} {σ : L2.St} {H : Hp} {s : Shared} {A : Around} {E : Value → Shared → Prop} {D : Addr} {l : List Str} {k : Str} {u : Tok} {Q : Value → Shared → Prop} (I : Inv X pins σ H s) (hD : H D = some (SetSO X.prog X.w D l)) (room : l.length + 1 < scanBound)
    (h : ∀ s', Inv X pins σ (upd H D (SetSO X.prog X.w D (if k ∈ l then l else k :: l))) s' → Q .none s') : wpAny (model X.prog X.w) A (call (.builtin "set.add") [.ref D, .str k u]) Q E s := by
  refine setS_add (setSO_get I hD) room fun h' sb new => h _ ?_
  have he : ∃ o, h'.get? D = some o := by
    have ⟨_, ho, _⟩ := new
    exact ⟨_, ho⟩
  exact I.write (e := D) (t' := s.toks + 1) (by rw [hD]; trivial) (.inl rfl) (fun b u hb hu => (sb.2 b hb).trans hu) he (setSO_new new)
/-- sorted(a set of texts) -/
def rSortedTx (P : Program) (w : World) : List V → Hp → VK → Prop := fun vs H Q => ∃ (a : Addr) (l : List Str), vs = [V.ref a] ∧ H a = some (SetSO P w a l) ∧ l.length < 64 ∧
  ∀ (ys : List Str) (p : Addr), ys.Perm l → sortedS ys = true → H p = none → Q (.ref p) (upd H p (.lst (ys.map V.str)))
theorem cr_sortedTx (hc : X.calm = true) : CallR X (.builtin "sorted") (rSortedTx X.prog X.w) := by
  intro pins s σ H vs us Q I r h
  obtain ⟨a, l, rfl, ha, h64, q⟩ := h
  have R := setSO_get I ha
  rw [Vals.ref1 r]
  refine sorted_setS R (I.ok.hd hc) h64 fun s' p out c ys k g o hp hg hi hs pm => ?_
  have hlen : (ys.map V.str).length ≤ sizeLine := by rw [List.length_map, pm.length_eq, sizeLine_eq]; omega
  have hn : H p = none := I.hok.fresh hp
  have J : Inv X pins σ (upd H p (.lst (ys.map V.str))) { s with heap := s'.heap, gens := s'.gens, drawn := s'.drawn, toks := s'.toks } :=
    I.call (ch := []) (Un.laid k hp hn) (I.hok.laid k hp ⟨hlen, out.toList, c, vals_of_strs hi, hg⟩) (by rw [g]; exact I.bare) (fun _ z => nomatch z)
  obtain ⟨s'h, s'g, s'd, s't, s'o⟩ := s'
  have e : s'o = s.os := o
  subst e
  exact ⟨.ref p, _, J, rfl, q ys p pm hs hn⟩
end
end TxS
/-! ## C15 -/
set_option Elab.async false
set_option linter.all false
set_option maxRecDepth 100000
set_option maxHeartbeats 4000000
/-! the set of a list of texts, of any length -/
namespace TxS
open PySem PySem.Spec PyProof.Rows L2 PySem.Froz
/-- l, and then the texts of xs that are not there yet -/
def addAll : List Str → List Str → List Str
  | l, [] => l
  | l, x :: xs => addAll (if x ∈ l then l else x :: l) xs
theorem addAll_mem : ∀ (xs l : List Str) (k : Str), k ∈ addAll l xs ↔ k ∈ l ∨ k ∈ xs
  | [], l, k => by simp [addAll]
  | x :: xs, l, k => by
    show k ∈ addAll (if x ∈ l then l else x :: l) xs ↔ _
    rw [addAll_mem xs]
    by_cases c : x ∈ l
    · rw [if_pos c, List.mem_cons]
      constructor
      · rintro (z | z)
        · exact .inl z
        · exact .inr (.inr z)
      · rintro (z | rfl | z)
        · exact .inl z
        · exact .inl c
        · exact .inr z
    · rw [if_neg c, List.mem_cons, List.mem_cons]
      constructor
      · rintro ((rfl | z) | z)
        · exact .inr (.inl rfl)
        · exact .inl z
        · exact .inr (.inr z)
      · rintro (z | rfl | z)
        · exact .inl (.inr z)
        · exact .inl (.inl rfl)
        · exact .inr z
theorem addAll_nodup : ∀ (xs l : List Str), l.Nodup → (addAll l xs).Nodup
  | [], l, h => h
  | x :: xs, l, h => by
    show (addAll (if x ∈ l then l else x :: l) xs).Nodup
    refine addAll_nodup xs _ ?_
    by_cases c : x ∈ l
    · rw [if_pos c]
      exact h
    · rw [if_neg c]
      exact List.nodup_cons.mpr ⟨c, h⟩
theorem one_len (l : List Str) (x : Str) : (if x ∈ l then l else x :: l).length ≤ l.length + 1 := by
  split
  · omega
  · simp
theorem StrsAre.pick : ∀ {us : List Value} {xs : List Str}, StrsAre us xs → ∀ (i : Nat) (v : Value), us[i]? = some v → ∃ k t, xs[i]? = some k ∧ v = .str k t
  | _, _, .nil, i, v, h => nomatch h
  | _, _, .cons x u r, 0, v, h => ⟨x, u, rfl, (Option.some.inj h).symm⟩
  | _, _, .cons x u r, i + 1, v, h => StrsAre.pick r i v h
section
variable {P : Program} {w : World} {A : Around} {E : Value → Shared → Prop} {s : Shared} {a : Addr} {l : List Str}
/-- one text into the set -/
theorem setS_put {k : Str} {u : Tok} {Q : Bool → Shared → Prop} (R : SetS P w s.heap a l) (room : l.length + 1 < scanBound)
    (hQ : ∀ b h', Heap.SameBut a s.heap h' → SetS P w h' a (if k ∈ l then l else k :: l) → Q b { s with heap := h', toks := s.toks + 1 }) :
    wpAny (model P w) A (setAdd a (.str k u)) Q E s := by
  obtain ⟨D, ho, G, r, nd⟩ := R
  unfold setAdd
  refine wpAny_holding (wpAny_bind ((strKind P w).pyHash (is_str k u) ?_))
  by_cases c : k ∈ l
  · refine there_x (s := { s with toks := s.toks + 1 }) ho G c (by omega) (hQ _ s.heap (Heap.SameBut.refl a s.heap) ?_)
    rw [if_pos c]
    exact ⟨D, ho, G, r, nd⟩
  · refine add_x (s := { s with toks := s.toks + 1 }) ho G c room (hQ _ _ ?_ ?_)
    · exact Heap.SameBut.update ..
    · rw [if_neg c]
      exact ⟨_, get_upd _ ho rfl, add_ok u G, addTx_walk r, List.nodup_cons.mpr ⟨c, nd⟩⟩
/-- what an iterator gives, put in one after another -/
theorem fillTx {I : Addr} {fp wr : List Addr} {G : Array GenState → Array GenState → Prop} {n : Nat}
    {Pv : Nat → Value → Prop} {St : Nat → Shared → Prop} {R : Result → Shared → Prop}
    (W : WalksS P w A.in1 I fp wr G n Pv St) (S : Addr) (out : S ∉ fp) (xs : List Str) (hn : n = xs.length)
    (val : ∀ i v, Pv i v → ∃ k t, xs[i]? = some k ∧ v = .str k t) :
    ∀ (k i : Nat) (l : List Str) (s : Shared), n - i = k → i ≤ n → l.length + k + 1 < scanBound → St i s → SetS P w s.heap S l →
      (∀ s', Moved (S :: wr) G s s' → SetS P w s'.heap S (addAll l (xs.drop i)) → R (.ok (.ret .none)) s') →
      codeAny (model P w) A (.builtin "set.update.loop" ⟨[.ref S, .ref I], []⟩) R s := by
  have nw : S ∉ wr := fun z => out (W.sub _ z)
  have more : ∀ b ∈ wr, b ∈ S :: wr := fun b z => List.mem_cons_of_mem _ z
  intro k
  induction k with
  | zero =>
    intro i l s e1 e2 room hst have1 fin
    have e3 : i = n := by omega
    subst e3
    refine codeAny_builtin PyProof.Rows.F.entry_set_update_loop ?_
    rw [Around.under_plainId PyProof.Rows.F.plain_set_update_loop _]
    show wpAny _ A.in1 (pyNext (.ref I) >>= _) _ _ s
    refine wpAny_bind (W.done s _ _ hst fun s1 m1 => ?_)
    show wpAny _ A.in1 (ret Value.none) _ _ s1
    rw [show xs.drop i = [] from List.drop_of_length_le (by omega)] at fin
    exact wpAny_pure (fin s1 (m1.mono more) (have1.later fun o e => m1.heap S o nw e))
  | succ k ih =>
    intro i l s e1 e2 room hst have1 fin
    have lt : i < n := by omega
    refine codeAny_builtin PyProof.Rows.F.entry_set_update_loop ?_
    rw [Around.under_plainId PyProof.Rows.F.plain_set_update_loop _]
    show wpAny _ A.in1 (pyNext (.ref I) >>= _) _ _ s
    refine wpAny_bind (W.item i s _ _ lt hst fun v s1 hv st1 m1 => ?_)
    obtain ⟨x, t, hx, rfl⟩ := val i v hv
    have dr : xs.drop i = x :: xs.drop (i + 1) := by
      obtain ⟨hi, ex⟩ := List.getElem?_eq_some_iff.mp hx
      rw [List.drop_eq_getElem_cons hi, ex]
    rw [dr] at fin
    show wpAny _ A.in1 (holding [Value.str x t] (setAdd S (.str x t)) >>= _) _ _ s1
    refine wpAny_bind (wpAny_holding (setS_put (have1.later fun o e => m1.heap S o nw e) (by omega) fun b h2 sb have2 => ?_))
    refine wpAny_pure ⟨plainId_quiet PyProof.Rows.F.plain_set_update_loop _, ?_⟩
    refine ih (i + 1) _ _ (by omega) lt (by have q := one_len l x; omega) ?_ have2 fun s3 m3 have3 => ?_
    · exact W.frame _ s1 _ _ st1 (Nat.le_succ _) fun b hb o e => (sb.2 b fun z => out (z ▸ hb)).trans e
    · refine fin s3 (Moved.trans W.gtrans ?_ m3) have3
      exact (m1.mono more).then_heap (Nat.le_succ _) fun b o hb e => (sb.2 b fun z => hb (z ▸ List.mem_cons_self)).trans e
/-- an empty set, laid anew -/
def emptyS (w : World) : Obj := { cls := .type "set", dict := none, data := .set #[] 0 (.fresh 0 0 (!w.params.followText "set-order")) }
theorem emptyS_at {h : Heap} (e : h.get? a = some (emptyS w)) : SetS P w h a [] := by
  refine ⟨(#[], 0, .fresh 0 0 (!w.params.followText "set-order")), e, TxOk.nil (by rfl), ⟨List.Pairwise.nil, ?_⟩, List.nodup_nil⟩
  show _ ∨ (!w.params.followText "set-order") = true
  cases w.params.followText "set-order"
  · exact .inr rfl
  · exact .inl rfl
end
end TxS
/-! ## V1 -/
set_option Elab.async false
set_option linter.all false
set_option maxRecDepth 100000
set_option maxHeartbeats 4000000
/-! lambdas with parameters, as values that are handed on; defs that get them -/
namespace Sl
open PySem PySem.Spec PyProof.Rows L2 LamX NdefX
/-- a lambda: its words, the cells that it captured, its code object -/
structure LF where
  qual : Str
  params : Arguments
  body : Expr
  scope : Scope
  cl : List (Str × Addr)
  c : Addr
abbrev LF.fd (F : LF) (pm ctv : Value) : FuncData := PySem.W.kla_fn "<lambda>" F.qual F.params F.body F.scope F.cl pm (.ref F.c) ctv
/-- as a nested def, for its frame -/
abbrev LF.nf (F : LF) : NF := ⟨"<lambda>", F.qual, F.params, [], F.scope, F.cl, F.c⟩
/-- the object at f is the lambda F -/
def LamO (f : Addr) (F : LF) : HO := .ext fun h => ∃ (od : Option Addr) (sl : Array (Option Value)) (pm ctv : Value), h.get? f = some (⟨.type "function", od, .func (F.fd pm ctv), sl⟩ : Obj)
theorem lamO_ne {f : Addr} {F : LF} (ps : Array Value) : LamO f F ≠ .tbl ps := fun z => by
  unfold LamO at z
  cases z
theorem lamO_at {P : Program} {w : World} {H : Hp} {h : Heap} {f : Addr} {F : LF} (hok : HOk P w H h) (e : H f = some (LamO f F)) : ∃ (od : Option Addr) (sl : Array (Option Value)) (pm ctv : Value), h.get? f = some (⟨.type "function", od, .func (F.fd pm ctv), sl⟩ : Obj) := by
  obtain ⟨z, _, _⟩ := hok f _ e
  exact z
section
variable {X : Cx} {pins : List (Addr × Obj)} {σ : L2.St} {H : Hp} {s : Shared}
theorem inv_lam {F : LF} {o : Obj} {t' : Nat} {pm ctv : Value} (I : Inv X pins σ H s) (ho : o = { cls := .type "function", data := .func (F.fd pm ctv) }) :
    Inv X pins σ (upd H s.heap.objs.size (LamO s.heap.objs.size F)) { s with heap := s.heap.push o, toks := t' } := by
  subst ho
  refine I.laid (a := s.heap.objs.size) (fun b u e => Heap.get?_push_of_some _ e) (Nat.le_refl _) ?_
  have e : (s.heap.push ({ cls := .type "function", data := .func (F.fd pm ctv) } : Obj)).get? s.heap.objs.size = some ({ cls := .type "function", data := .func (F.fd pm ctv) } : Obj) := Heap.get?_push_size _ rfl
  exact ⟨⟨_, _, pm, ctv, e⟩, ⟨_, e⟩, fun h1 h2 ⟨od, sl, p, t, z⟩ st => ⟨od, sl, p, t, st _ z⟩⟩
/-- the lambda is made, and known from now on -/
theorem lam_make3 {T : List (Addr × Str)} {c P : Addr} {params : Arguments} {body : Expr} {scope : Scope} {pos : Pos} {E : Value → Shared → Prop} {Q : Value → Shared → Prop} (I : Inv X pins σ H s) (TB : TabB X.base X.mg c P) (hcode : X.env.code = .ref c)
    (hm : (P, X.env.qual ++ "<lambda>") ∈ T) (hu : ∀ p ∈ T, p.1 = P → p.2 = X.env.qual ++ "<lambda>") (hT : Tabs T H) (hdef : defaultsOf params X.env = ([], [])) (hfree : ∀ y ∈ scope.names, y.2 = .free → ∃ c, X.env.cells.lookup y.1 = some c)
    (h : ∀ (f c' : Addr) (H1 : Hp) (s' : Shared), Inv X pins σ H1 s' → ExtN H H1 → (∀ b, H1 b = Option.none → H b = Option.none) → Tabs T H1 → H f = none → H1 f = some (LamO f ⟨X.env.qual ++ "<lambda>", params, body, scope, cloFrom X.env.cells scope.names [], c'⟩) →
      H1 c' = some (CodeO c' (X.env.qual ++ "<lambda>")) → Q (.ref f) s') :
    wpAny (model X.prog X.w) X.A (eval (.Lambda params body scope pos) X.env) Q E s := by
  obtain ⟨ps, hP, ht, ha⟩ := hT _ hm
  refine PySem.W.kla_eval hdef ?_
  have bP : s.heap.BuiltinsAt X.mg P := TB.bm.keeps I.bk
  have hP' : s.heap.get? P = some { cls := .none, data := .fields ps } := I.hok P _ hP
  cases hc : codeAmong pos ps.toList with
  | none =>
    refine PySem.W.kla_makeFunction (mg := X.mg) (c := c) (P := P) (ps := ps) (closure_ok hfree) I.ok.glob (I.mod.glob.keeps I.bk) hcode (TB.code.keeps I.bk) hP' ht hc TB.gP bP fun c' ctv h' tk hx hge hlt hrec htb => ?_
    obtain ⟨c2, oc, vs, t, e2, hoc, hd, hv⟩ := hrec
    cases e2
    have nC : H c' = none := I.hok.fresh hge
    have I1 := inv_table (t' := tk) (more := #[rawInt pos.line, rawInt pos.col, .ref c']) (h' := h') I hP (fun b o hb e => hx b o hb e) htb hge ⟨oc, vs, t, hoc, hd, hv⟩
    have hE : ExtN H (upd (upd H P (.tbl (ps ++ #[rawInt pos.line, rawInt pos.col, .ref c']))) c' (CodeO c' (X.env.qual ++ "<lambda>"))) := fun b o e n => by
      rw [upd_ne (ne_of_none e nC), upd_ne (fun z => n ps (Option.some.inj (e.symm.trans (by rw [z]; exact hP))))]
      exact e
    have eL : (ps ++ #[rawInt pos.line, rawInt pos.col, .ref c']).toList = ps.toList ++ [rawInt pos.line, rawInt pos.col, .ref c'] := by simp
    have T1 : Tabs T (upd (upd H P (.tbl (ps ++ #[rawInt pos.line, rawInt pos.col, .ref c']))) c' (CodeO c' (X.env.qual ++ "<lambda>"))) := fun p hp => by
      by_cases hb : p.1 = P
      · rw [hu p hp hb, hb]
        refine ⟨_, by rw [upd_ne (ne_of_none hP nC), upd_same], by rw [eL]; exact PySem.TriplesOk_snoc _ _ _ _ ht, fun p' cv hcv => ?_⟩
        rw [eL] at hcv
        rcases among_app _ ht hcv with z | z
        · obtain ⟨c0, e1, e2⟩ := ha p' cv z
          exact ⟨c0, e1, hE _ _ e2 codeO_ne⟩
        · exact ⟨c', z, upd_same⟩
      · obtain ⟨ps', a1, a2, a3⟩ := hT p hp
        refine ⟨ps', by rw [upd_ne (ne_of_none a1 nC), upd_ne hb]; exact a1, a2, fun p' cv hcv => ?_⟩
        obtain ⟨c0, e1, e2⟩ := a3 p' cv hcv
        exact ⟨c0, e1, hE _ _ e2 codeO_ne⟩
    have nF := I1.hok.fresh (Nat.le_refl _)
    have I2 := inv_lam (F := ⟨X.env.qual ++ "<lambda>", params, body, scope, cloFrom X.env.cells scope.names [], c'⟩) (t' := tk) (pm := (X.mg "__name__").getD .none) (ctv := ctv) I1 rfl
    refine h h'.objs.size c' _ _ I2 (fun b o e n => ?_) (fun b e => upd_none (upd_none (upd_none e))) (T1.ext fun b o e => ?_) (I.hok.fresh (Nat.le_trans hge (Nat.le_of_lt hlt))) upd_same ?_
    · have e1 := hE b o e n
      exact (upd_ne (ne_of_none e1 nF)).trans e1
    · exact (upd_ne (ne_of_none e nF)).trans e
    · exact (upd_ne (Nat.ne_of_lt hlt)).trans upd_same
  | some cv =>
    obtain ⟨c', e, hco⟩ := ha pos cv hc
    subst e
    refine PySem.W.kla_makeFunctionHit (mg := X.mg) (c := c) (P := P) (ps := ps) (closure_ok hfree) I.ok.glob (I.mod.glob.keeps I.bk) hcode (TB.code.keeps I.bk) hP' ht hc bP fun ctv h' tk hx hsz => ?_
    have I1 : Inv X pins σ H { s with heap := h', toks := tk } := I.kept hx
    have nF : H h'.objs.size = none := I1.hok.fresh (Nat.le_refl _)
    have I2 := inv_lam (F := ⟨X.env.qual ++ "<lambda>", params, body, scope, cloFrom X.env.cells scope.names [], c'⟩) (t' := tk) (pm := (X.mg "__name__").getD .none) (ctv := ctv) I1 rfl
    refine h h'.objs.size c' _ _ I2 (fun b o e n => ?_) (fun b e => upd_none e) (hT.ext fun b o e => ?_) nF upd_same ?_
    · exact (upd_ne (ne_of_none e nF)).trans e
    · exact (upd_ne (ne_of_none e nF)).trans e
    · exact (upd_ne (ne_of_none hco nF)).trans hco
end
/-! ### the expression -/
/-- the reading of a lambda: its value is the new function -/
def tLamV (T : List (Addr × Str)) (mk : Addr → LF) : TE := fun σ H Q => Tabs T H ∧ ∀ (f c' : Addr) (H1 : Hp), ExtN H H1 → (∀ b, H1 b = Option.none → H b = Option.none) → Tabs T H1 → H f = none → H1 f = some (LamO f (mk c')) → H1 c' = some (CodeO c' (mk c').qual) → Q (.ref f) H1
section
variable {X : Cx}
theorem pe_lamV {T : List (Addr × Str)} {c P : Addr} {params : Arguments} {body : Expr} {scope : Scope} {pos : Pos} (TB : TabB X.base X.mg c P) (hcode : X.env.code = .ref c) (hm : (P, X.env.qual ++ "<lambda>") ∈ T) (hu : ∀ p ∈ T, p.1 = P → p.2 = X.env.qual ++ "<lambda>") (hdef : defaultsOf params X.env = ([], []))
    (hfree : ∀ y ∈ scope.names, y.2 = .free → X.env.scope.names.lookup y.1 = some .cell ∨ X.env.scope.names.lookup y.1 = some .free) :
    PE X (.Lambda params body scope pos) (tLamV T fun c' => ⟨X.env.qual ++ "<lambda>", params, body, scope, cloFrom X.env.cells scope.names [], c'⟩) := by
  refine ⟨fun pins s σ H Q I h => ?_⟩
  obtain ⟨hT, h⟩ := h
  have hfr : ∀ y ∈ scope.names, y.2 = .free → ∃ c, X.env.cells.lookup y.1 = some c := fun y hy e => (hfree y hy e).elim (fun z => I.ok.has _ (.inl z)) fun z => I.ok.has _ (.inr z)
  exact lam_make3 I TB hcode hm hu hT hdef hfr fun f c' H1 s' I1 eN nn T1 f0 f1 c1 => ⟨.ref f, H1, I1, rfl, h f c' H1 eN nn T1 f0 f1 c1⟩
end
/-! ### what it promises -/
/-- the promise of the lambda F, wherever it stands: sp ws, ws what its captured cells hold at the call -/
structure LOk (P : Program) (w : World) (K : PySem.W.Frag) (mg : Str → Option Value) (base : Heap) (CX : CXT) (k : Nat) (F : LF) (ps fr : List Str) (sp : List (Option V) → Sp) : Prop where
  len : ∀ ws vs H Q E, sp ws vs H Q E → vs.length = ps.length
  run : ∀ (f : Addr) (A : Around) (outer : List Env) (s : Shared) (H : Hp) (us : List Value) (vs : List V) (ws : List (Option V)) (Q : VK) (E : XK), Room k A → Env0 P w K mg base A outer s H → H f = some (LamO f F) → H F.c = some (CodeO F.c F.qual) →
    CellsAt F.cl fr ws s.heap H → Vals vs us → sp ws vs H Q E → codeAny (model P w) A (.call (.ref f) ⟨us, []⟩) (CR CX outer P w H s Q E) s
section
variable {CX : CXT} {P : Program} {w : World} {K : PySem.W.Frag} {mg : Str → Option Value} {base : Heap} {N ps fr : List Str} {F : LF} {f : Addr} {k j : Nat} {sp sp' : List (Option V) → Sp}
theorem LOk.mono (o : LOk P w K mg base CX j F ps fr sp) (h : j ≤ k) : LOk P w K mg base CX k F ps fr sp := ⟨o.len, fun f A outer s H us vs ws Q E hr => o.run f A outer s H us vs ws Q E (hr.mono h)⟩
/-- THE RULE: a lambda by its body -/
theorem lok_of (S : NScope N ps fr F.scope) (hb : ∀ (pm ctv : Value) (us : List Value), us.length = ps.length → bindArgs (F.fd pm ctv) ⟨us, []⟩ = pure (ps.zip us)) (len : ∀ ws vs H Q E, sp ws vs H Q E → vs.length = ps.length)
    (hbody : ∀ (f : Addr) (A : Around) (outer : List Env) (s : Shared) (H : Hp) (vs : List V) (ws : List (Option V)) (Q : VK) (E : XK), Room k (A.deeper (envF F.nf f s.heap.objs.size)) → H f = some (LamO f F) → H F.c = some (CodeO F.c F.qual) → ws.length = fr.length → sp ws vs H Q E →
      ∃ t, PE (ncx CX P w K mg base N F.nf f A outer s H E) F.body t ∧ t (startF N vs ws) H Q) :
    LOk P w K mg base CX (k + 1) F ps fr sp := by
  refine ⟨len, fun f A outer s H us vs ws Q E hr e0 hf hc C r hsp => ?_⟩
  have hl := len _ _ _ _ _ hsp
  have lim : s.heap.NoLimit := e0.mod.nolimit.keeps fun b o e => (e0.bs b o e).1
  obtain ⟨od, sl, pm, ctv, ho⟩ := lamO_at e0.hok hf
  refine PySem.W.kla_callFunE hr.depth ho rfl S.co S.gen rfl (codeO_at e0.hok hc) ?_
  rw [hb pm ctv us (by rw [← r.length]; exact hl)]
  refine wpAny_pure (wpAny_newFunctionEnv S.nocell (fun ⟨n, _⟩ hy => S.par n (List.of_mem_zip hy).1) (fun h₁ hns hsb => ⟨lim.fresh _ hsb, ?_⟩) S.kind)
  show codeAny _ _ (.expr F.body (envF F.nf f s.heap.objs.size)) _ _
  have kp : ∀ b o, s.heap.get? b = some o → h₁.get? b = some o := fun b o e => hsb.extBut b o (Nat.ne_of_lt (Heap.lt_size e)) (Heap.get?_push_of_some _ e)
  obtain ⟨t, ht, hq⟩ := hbody f A outer s H vs ws Q E (hr.deeper _) hf hc C.len hsp
  have I : Inv (ncx CX P w K mg base N F.nf f A outer s H E) [] (startF N vs ws) H { s with heap := h₁, toks := s.toks + (ps.zip us).length } := inv_startN (F := F.nf) S hr.hd e0 hl r C hns kp
  refine PySem.W.kla_codeExpr (wpAny_mono (ht.run [] _ (startF N vs ws) H Q I hq) (fun u s' hs => ?_) fun e s' hs => hs)
  obtain ⟨v, H', J, rv, q⟩ := hs
  exact ⟨v, H', J.os, J.bare, J.base, J.hok, rv, q⟩
end
/-! ### cells of others -/
/-- what the cells held when the running frame began they hold still -/
theorem cells_later {X : Cx} {pins : List (Addr × Obj)} {σ : L2.St} {H : Hp} {s : Shared} {cl : List (Str × Addr)} {fr : List Str} {ws : List (Option V)} (C : CellsAt cl fr ws X.s_0.heap X.H_0) (hx : X.ex = []) (I : Inv X pins σ H s) : CellsAt cl fr ws s.heap H := by
  have nx : ∀ b, b ∉ X.ex := fun b hb => by
    rw [hx] at hb
    cases hb
  have kp : ∀ y c, cl.lookup y = some c → ∀ v, X.s_0.heap.IsCell c v → s.heap.IsCell c v := fun y c e v ⟨o, ho, hd⟩ => by
    obtain ⟨sl, q⟩ := I.base.any ho (C.all y c e).1 (nx c)
    exact ⟨_, q, hd⟩
  refine ⟨C.len, fun y c e => ?_, C.inj, fun i y e => ?_⟩
  · obtain ⟨n, v, z⟩ := C.all y c e
    refine ⟨?_, v, kp y c e v z⟩
    obtain ⟨o, ho, _⟩ := z
    exact I.base.free c o ho n (nx c)
  · obtain ⟨c, hc, hv⟩ := C.has i y e
    refine ⟨c, hc, fun v ev => ?_⟩
    obtain ⟨u, r, z⟩ := hv v ev
    exact ⟨u, r, kp y c hc _ z⟩
/-- .. and are no frames of callers -/
structure CellsF (cl : List (Str × Addr)) (fr : List Str) (ws : List (Option V)) (outer : List Env) (h : Heap) (H : Hp) : Prop where
  at_ : CellsAt cl fr ws h H
  nf : ∀ y c, cl.lookup y = some c → c ∉ frs outer
theorem cellsF_later {X : Cx} {pins : List (Addr × Obj)} {σ : L2.St} {H : Hp} {s : Shared} {cl : List (Str × Addr)} {fr : List Str} {ws : List (Option V)} (C : CellsF cl fr ws X.outer X.s_0.heap X.H_0) (hx : X.ex = []) (hs : X.stack = X.env :: X.outer) (hf : X.env.frame = some X.env.locals) (I : Inv X pins σ H s) : CellsF cl fr ws X.stack s.heap H := by
  refine ⟨cells_later C.at_ hx I, fun y c e hm => ?_⟩
  rw [hs] at hm
  have hm : c ∈ (X.env :: X.outer).filterMap (·.frame) := hm
  rw [List.filterMap_cons, hf] at hm
  rcases List.mem_cons.mp hm with z | z
  · obtain ⟨_, v, o, ho, _⟩ := C.at_.all y c e
    have h1 := Heap.lt_size ho
    have h2 := I.ok.above
    rw [z] at h1
    exact absurd h1 (Nat.not_lt.mpr h2)
  · exact C.nf y c e z
/-- cells of the frame that runs -/
theorem cellsF_of {X : Cx} {pins : List (Addr × Obj)} {σ : L2.St} {H : Hp} {s : Shared} {cl : List (Str × Addr)} {fr : List Str} {js : List Nat} (I : Inv X pins σ H s) (c : Caps X cl fr js) (hfn : ∀ x, X.fn x = true) (hs : X.stack = X.env :: X.outer) (hf : X.env.frame = some X.env.locals) : CellsF cl fr (js.map (slotAt σ)) X.stack s.heap H := by
  refine ⟨cells_of I c, fun y a e hm => ?_⟩
  rw [hs] at hm
  have hm : a ∈ (X.env :: X.outer).filterMap (·.frame) := hm
  rw [List.filterMap_cons, hf] at hm
  rcases List.mem_cons.mp hm with z | z
  · obtain ⟨v, o, ho, hd⟩ := I.cell y a (c.sub y a e)
    obtain ⟨m, ⟨o2, es, ep, ho2, hd2, _⟩, _⟩ := I.loc
    rw [z, ho2] at ho
    cases ho
    rw [hd2] at hd
    cases hd
  · obtain ⟨_, o, ho, _⟩ := Heap.FunFrames.mem I.ok.funs z
    have h1 := Heap.lt_size ho
    have h2 := I.ok.cab y a (hfn y) (c.sub y a e)
    exact absurd h1 (Nat.not_lt.mpr h2)
/-- cells that the base has: known in every context over it -/
structure CellsB (cl : List (Str × Addr)) (fr : List Str) (ws : List (Option V)) (base : Heap) : Prop where
  len : ws.length = fr.length
  all : ∀ y c, cl.lookup y = some c → ∃ v, base.IsCell c v
  inj : ∀ x y c, cl.lookup x = some c → cl.lookup y = some c → x = y
  has : ∀ (i : Nat) (y : Str), fr[i]? = some y → ∃ c, cl.lookup y = some c ∧ ∀ v, ws[i]? = some (some v) → ∃ u, L2.RelV v u ∧ base.IsCell c (some u)
theorem cells_base {X : Cx} {pins : List (Addr × Obj)} {σ : L2.St} {H : Hp} {s : Shared} {cl : List (Str × Addr)} {fr : List Str} {ws : List (Option V)} (B : CellsB cl fr ws X.base) (I : Inv X pins σ H s) : CellsAt cl fr ws s.heap H := by
  have kp : ∀ c v, X.base.IsCell c v → s.heap.IsCell c v := fun c v ⟨o, ho, hd⟩ => ⟨o, (I.bs c o ho).1, hd⟩
  refine ⟨B.len, fun y c e => ?_, B.inj, fun i y e => ?_⟩
  · obtain ⟨v, o, ho, hd⟩ := B.all y c e
    exact ⟨(I.bs c o ho).2, v, kp c v ⟨o, ho, hd⟩⟩
  · obtain ⟨c, hc, hv⟩ := B.has i y e
    exact ⟨c, hc, fun v ev => let ⟨u, r, z⟩ := hv v ev; ⟨u, r, kp c _ z⟩⟩
/-- another base: all that is not tracked, but the callers' frames -/
def baseOf (s : Shared) (H : Hp) (outer : List Env) : Heap := PySem.W.hideAll s.heap (trk s.heap H ++ frs outer)
theorem baseOf_get {s : Shared} {H : Hp} {outer : List Env} {b : Addr} {o : Obj} (e : s.heap.get? b = some o) (n : H b = none) (f : b ∉ frs outer) : (baseOf s H outer).get? b = some o :=
  PySem.W.hideAll_get _ e fun hm => by
    rcases List.mem_append.mp hm with h | h
    · have q : (H b).isSome = true := (List.mem_filter.mp h).2
      rw [n] at q
      simp at q
    · exact f h
theorem of_baseOf {s : Shared} {H : Hp} {outer : List Env} {b : Addr} {o : Obj} (e : (baseOf s H outer).get? b = some o) : s.heap.get? b = some o ∧ H b = none := by
  have e' : s.heap.get? b = some o := PySem.W.of_hideAll _ e
  refine ⟨e', ?_⟩
  cases q : H b with
  | none => rfl
  | some x =>
    have hm : b ∈ trk s.heap H ++ frs outer := List.mem_append.mpr (.inl (List.mem_filter.mpr ⟨List.mem_range.mpr (Heap.lt_size e'), by simp [q]⟩))
    have z : (baseOf s H outer).get? b = none := PySem.W.hideAll_none _ hm
    rw [z] at e
    cases e
theorem env0_base {P : Program} {w : World} {K : PySem.W.Frag} {mg : Str → Option Value} {base : Heap} {A : Around} {outer : List Env} {s : Shared} {H : Hp} (e0 : Env0 P w K mg base A outer s H) : Env0 P w K mg (baseOf s H outer) A outer s H ∧ (∀ b o, base.get? b = some o → (baseOf s H outer).get? b = some o) := by
  have k : ∀ b o, base.get? b = some o → (baseOf s H outer).get? b = some o := fun b o e => baseOf_get (e0.bs b o e).1 (e0.bs b o e).2 fun hm => by
    have q := (Heap.FunFrames.mem e0.funs hm).1
    rw [e] at q
    cases q
  obtain ⟨mb, n1, n2⟩ := e0.mod.blt
  exact ⟨⟨e0.frames, ⟨e0.mod.kin.keeps k, e0.mod.glob.keeps k, ⟨mb, n1.keeps k, n2⟩, e0.mod.nolimit.keeps k⟩, fun b o e => of_baseOf e, Nat.le_of_eq (PySem.W.hideAll_size _ _),
    PySem.W.funFrames_hide e0.funs fun env he a ea => List.mem_append.mpr (.inr (List.mem_filterMap.mpr ⟨env, he, ea⟩)), e0.frf, e0.hok, e0.bare⟩, k⟩
theorem cellsB_of {cl : List (Str × Addr)} {fr : List Str} {ws : List (Option V)} {s : Shared} {H : Hp} {outer : List Env} (C : CellsF cl fr ws outer s.heap H) : CellsB cl fr ws (baseOf s H outer) := by
  have kp : ∀ y c, cl.lookup y = some c → ∀ v, s.heap.IsCell c v → (baseOf s H outer).IsCell c v := fun y c e v ⟨o, ho, hd⟩ => ⟨o, baseOf_get ho (C.at_.all y c e).1 (C.nf y c e), hd⟩
  refine ⟨C.at_.len, fun y c e => ?_, C.at_.inj, fun i y e => ?_⟩
  · obtain ⟨_, v, z⟩ := C.at_.all y c e
    exact ⟨v, kp y c e v z⟩
  · obtain ⟨c, hc, hv⟩ := C.at_.has i y e
    exact ⟨c, hc, fun v ev => let ⟨u, r, z⟩ := hv v ev; ⟨u, r, kp y c hc _ z⟩⟩
theorem cells_nil {h : Heap} {H : Hp} : CellsAt [] [] [] h H := ⟨rfl, fun _ _ e => (nomatch e), fun _ _ _ e => (nomatch e), fun i y e => (by cases i <;> cases e)⟩
theorem lamAt_of {X : Cx} {pins : List (Addr × Obj)} {σ : L2.St} {H : Hp} {s : Shared} {f : Addr} {F : LF} (I : Inv X pins σ H s) (e : H f = some (LamO f F)) : PySem.W.FnAt f s.heap := by
  obtain ⟨od, sl, pm, ctv, ho⟩ := lamO_at I.hok e
  exact ⟨_, od, _, sl, ho⟩
/-! ### calls of a lambda that was handed in -/
/-- f(..), f a name that holds the lambda F -/
def tCallL (F : LF) (i : Nat) (ws : List (Option V)) (sp : List (Option V) → Sp) (E : XK) (t : TA) : TE := fun σ H Q => ∃ f, σ[i]? = some (some (.ref f)) ∧ H f = some (LamO f F) ∧
  t σ H fun vs H1 => H1 f = some (LamO f F) ∧ H1 F.c = some (CodeO F.c F.qual) ∧ sp ws vs H1 Q E
section
variable {X : Cx} {CX : CXT} {F : LF} {ps fr : List Str} {ws : List (Option V)} {i j k : Nat} {x : Str} {sp : List (Option V) → Sp} {E : XK} {t : TA} {e : Expr} {es : List Expr} {p pos : Pos}
theorem run_l {pins : List (Addr × Obj)} {σ : L2.St} {H : Hp} {s : Shared} {Q : VK} {f : Addr} {us : List Value} {vs : List V} (Fn : LOk X.prog X.w X.K X.mg X.base CX k F ps fr sp) (hr : Room j X.A) (hk : k ≤ j) (hx : Passes CX X E) (I : Inv X pins σ H s)
    (hf : H f = some (LamO f F)) (hc : H F.c = some (CodeO F.c F.qual)) (C : CellsAt F.cl fr ws s.heap H) (r : Vals vs us) (q : sp ws vs H Q E) :
    wpAny (model X.prog X.w) X.A (call (.ref f) us) (EP X pins σ Q) X.xe s := by
  refine wpAny_call (codeAny_mono (Fn.run f X.A X.stack s H us vs _ Q E (hr.mono hk) I.env0 hf hc C r q) fun r s' hq => ?_)
  cases r with
  | error e => exact hx pins σ H s e s' I hq
  | ok fl =>
    cases fl with
    | ret u => exact I.after hq
    | next => exact False.elim hq
    | brk => exact False.elim hq
    | cont => exact False.elim hq
theorem pe_callL (Fn : LOk X.prog X.w X.K X.mg X.base CX k F ps fr sp) (C : ∀ (pins : List (Addr × Obj)) (σ : L2.St) (H : Hp) (s : Shared), Inv X pins σ H s → CellsAt F.cl fr ws s.heap H) (hr : Room j X.A) (hk : k ≤ j) (hx : Passes CX X E) (hN : X.N[i]? = some x) (hv : Vis X.env.scope x) (ha : PA X (e :: es) t)
    (hd : (x == ("__debug__" : Str)) = false := by decide) (hcd : (x == ("__classdict__" : Str)) = false := by decide)
    (he : starEach (e :: es) X.env = (false, eval e X.env) :: starEach es X.env := by rfl) (hpl : (backTo pos (starEach es X.env)).any (·.1) = false := by rfl) :
    PE X (.Call (.Name x p) (e :: es) [] pos) (tCallL F i ws sp E t) := by
  refine ⟨fun pins s σ H Q I h => ?_⟩
  obtain ⟨f, hs, hf, ht⟩ := h
  refine wpAny_Call_Name_kw (thn ((pe_var (pos := p) hN hv hd hcd).run pins s σ H (fun v H1 => v = .ref f ∧ H1 = H) I ⟨.ref f, hs, rfl, rfl⟩) fun u s1 ⟨v, H1, I1, r1, q1⟩ => ?_)
  obtain ⟨ev, eH⟩ := q1
  subst ev
  rw [eH] at I1
  obtain rfl : u = Value.ref f := r1
  refine PySem.W.callWith_F (first := []) (lamAt_of I1 hf) (thn (ha.run pos pins s1 σ H _ I1 ht) fun us s2 ⟨vs, H2, I2, r, h1, h2, q⟩ => ⟨lamAt_of I2 h1, ?_⟩) he hpl
  show wpAny _ _ (call (.ref f) us) _ _ _
  exact run_l Fn hr hk hx I2 h1 h2 (C pins σ H2 s2 I2) r q
end
/-! ### defs that get a lambda -/
/-- the promise of a def that gets a lambda whose cells hold ws -/
structure FnV (P : Program) (w : World) (K : PySem.W.Frag) (mg : Str → Option Value) (base : Heap) (CX : CXT) (k : Nat) (f : Addr) (fd : FuncData) (ps : List Str) (sp : List (Str × Addr) → List Str → List (Option V) → Sp) : Prop where
  len : ∀ cl fr ws vs H Q E, sp cl fr ws vs H Q E → vs.length = ps.length
  run : ∀ (A : Around) (outer : List Env) (s : Shared) (H : Hp) (args : Args) (us : List Value) (vs : List V) (cl : List (Str × Addr)) (fr : List Str) (ws : List (Option V)) (Q : VK) (E : XK), Room k A → Env0 P w K mg base A outer s H → BindsTo s fd args (ps.zip us) → Vals vs us → CellsF cl fr ws outer s.heap H → sp cl fr ws vs H Q E →
    codeAny (model P w) A (.call (.ref f) args) (CR CX outer P w H s Q E) s
section
variable {CX : CXT} {P : Program} {w : World} {K : PySem.W.Frag} {mg : Str → Option Value} {base : Heap}
/-- THE RULE for a def that gets a lambda; its code object as its record has it -/
theorem Fun.okV {x qual : Str} {st : Stmt} {f : Addr} {fd : FuncData} {N ps : List Str} {k : Nat} {sp : List (Str × Addr) → List Str → List (Option V) → Sp} (F : Fun K x qual st f fd) (S : FnScope N ps (defScope st)) (len : ∀ cl fr ws vs H Q E, sp cl fr ws vs H Q E → vs.length = ps.length)
    (hbody : ∀ (A : Around) (outer : List Env) (s : Shared) (H : Hp) (vs : List V) (cl : List (Str × Addr)) (fr : List Str) (ws : List (Option V)) (Q : VK) (E : XK), Room k (A.deeper (envOfC qual (defScope st) s.heap.objs.size f fd.code)) → CellsF cl fr ws outer s.heap H → sp cl fr ws vs H Q E →
      ∃ t, PSs (cxOf CX P w K mg base N qual (defScope st) f fd.code A outer s H E) (defBody st) t ∧ t { nx := fun _ H' => Q .non H', rt := Q } (L2.start N vs) H) : FnV P w K mg base CX (k + 1) f fd ps sp := by
  obtain ⟨oc, od, kV, doc, pm, an, cdv, ct, osl, rfl, lk, hcd⟩ := F.ex
  exact ⟨len, fun A outer s H args us vs cl fr ws Q E hr e0 hb r C hsp => run_ofS (N := N) lk hcd S hr e0 hb r (len _ _ _ _ _ _ _ hsp) fun hr' => hbody A outer s H vs cl fr ws Q E hr' C hsp⟩
/-- the same, for defs that call the lambda in a comprehension: the cells stand in the base -/
theorem Fun.okW {x qual : Str} {st : Stmt} {f : Addr} {fd : FuncData} {N ps : List Str} {k : Nat} {sp : Heap → List (Str × Addr) → List Str → List (Option V) → Sp} (F : Fun K x qual st f fd) (S : FnScope N ps (defScope st)) (len : ∀ b cl fr ws vs H Q E, sp b cl fr ws vs H Q E → vs.length = ps.length)
    (hmono : ∀ b cl fr ws vs H Q E, sp base cl fr ws vs H Q E → (∀ a o, base.get? a = some o → b.get? a = some o) → Mod K mg b → sp b cl fr ws vs H Q E)
    (hbody : ∀ (b : Heap) (A : Around) (outer : List Env) (s : Shared) (H : Hp) (vs : List V) (cl : List (Str × Addr)) (fr : List Str) (ws : List (Option V)) (Q : VK) (E : XK), Mod K mg b → (∀ a o, base.get? a = some o → b.get? a = some o) → Room k (A.deeper (envOfC qual (defScope st) s.heap.objs.size f fd.code)) → CellsB cl fr ws b → CellsF cl fr ws outer s.heap H → sp b cl fr ws vs H Q E →
      ∃ t, PSs (cxOf CX P w K mg b N qual (defScope st) f fd.code A outer s H E) (defBody st) t ∧ t { nx := fun _ H' => Q .non H', rt := Q } (L2.start N vs) H) : FnV P w K mg base CX (k + 1) f fd ps (sp base) := by
  obtain ⟨oc, od, kV, doc, pm, an, cdv, ct, osl, rfl, lk, hcd⟩ := F.ex
  refine ⟨len _, fun A outer s H args us vs cl fr ws Q E hr e0 hb r C hsp => ?_⟩
  obtain ⟨e1, kb⟩ := env0_base e0
  exact run_ofS (N := N) lk hcd S hr e1 hb r (len _ _ _ _ _ _ _ _ hsp) fun hr' => hbody (baseOf s H outer) A outer s H vs cl fr ws Q E e1.mod kb hr' (cellsB_of C) C (hmono _ _ _ _ _ _ _ _ hsp kb e1.mod)
/-- the same for a def that makes lambdas -/
theorem Fun.okM {x qual : Str} {st : Stmt} {f : Addr} {fd : FuncData} {N ps : List Str} {k : Nat} {sp : Sp} (F : Fun K x qual st f fd) (S : FnScope N ps (defScope st)) (len : ∀ vs H Q E, sp vs H Q E → vs.length = ps.length)
    (hbody : ∀ (A : Around) (outer : List Env) (s : Shared) (H : Hp) (vs : List V) (Q : VK) (E : XK), Room k (A.deeper (envOfC qual (defScope st) s.heap.objs.size f fd.code)) → sp vs H Q E →
      ∃ t, PSs (cxOf CX P w K mg base N qual (defScope st) f fd.code A outer s H E) (defBody st) t ∧ t { nx := fun _ H' => Q .non H', rt := Q } (L2.start N vs) H) : FnOk P w K mg base CX (k + 1) f fd ps sp := by
  obtain ⟨oc, od, kV, doc, pm, an, cdv, ct, osl, rfl, lk, hcd⟩ := F.ex
  exact ⟨len, fun A outer s H args us vs Q E hr e0 hb r hsp => run_ofS (N := N) lk hcd S hr e0 hb r (len _ _ _ _ hsp) fun hr' => hbody A outer s H vs Q E hr' hsp⟩
end
/-- f(..), f a def that gets a lambda whose cells are cl -/
def tCallV (sp : List (Str × Addr) → List Str → List (Option V) → Sp) (cl : L2.St → List (Str × Addr)) (fr : List Str) (ws : L2.St → List (Option V)) (E : XK) (t : TA) : TE := fun σ H Q => t σ H fun vs H1 => sp (cl σ) fr (ws σ) vs H1 Q E
section
variable {X : Cx} {CX : CXT} {cl : L2.St → List (Str × Addr)} {ps fr : List Str} {ws : L2.St → List (Option V)} {k : Nat} {f : Addr} {fd : FuncData} {x : Str} {sp : List (Str × Addr) → List Str → List (Option V) → Sp} {E : XK} {t : TA} {e : Expr} {es : List Expr} {p pos : Pos}
theorem pe_callV (F : FnV X.prog X.w X.K X.mg X.base CX k f fd ps sp) (C : ∀ (pins : List (Addr × Obj)) (σ : L2.St) (H : Hp) (s : Shared), Inv X pins σ H s → CellsF (cl σ) fr (ws σ) X.stack s.heap H) (hr : Room k X.A) (hg : Gl X x) (hm : X.mg x = some (.ref f)) (hk : PySem.W.keepIn X.K (.ref f) = true) (hb : L2.Binds X.K fd ps []) (hx : Passes CX X E)
    (ha : PA X (e :: es) t) (hdb : (x == ("__debug__" : Str)) = false := by decide) (he : starEach (e :: es) X.env = (false, eval e X.env) :: starEach es X.env := by rfl) (hpl : (backTo pos (starEach es X.env)).any (·.1) = false := by rfl) :
    PE X (.Call (.Name x p) (e :: es) [] pos) (tCallV sp cl fr ws E t) := by
  refine ⟨fun pins s σ H Q I h => ?_⟩
  refine wpAny_Call_Name_kw (ld_glob I hg hm ?_ hdb)
  refine PySem.W.callWith_K (h₀ := X.base) I.ok.mod.kin hk (thn (ha.run pos pins s σ H _ I h) fun us s1 ⟨vs, H1, I1, r, q⟩ => ⟨I1.kIn, ?_⟩) he hpl
  have hb' : BindsTo s1 fd ⟨us, []⟩ (ps.zip us) := by
    have z := hb s1 us I1.kIn (by rw [List.append_nil, ← r.length]; exact F.len _ _ _ _ _ _ _ q)
    rw [List.append_nil] at z
    exact z
  refine wpAny_call (codeAny_mono (F.run X.A X.stack s1 H1 ⟨us, []⟩ us vs _ _ _ Q E hr I1.env0 hb' r (C pins σ H1 s1 I1) q) fun r s' hq => ?_)
  cases r with
  | error e => exact hx pins σ H1 s1 e s' I1 hq
  | ok fl =>
    cases fl with
    | ret u => exact I1.after hq
    | next => exact False.elim hq
    | brk => exact False.elim hq
    | cont => exact False.elim hq
end
end Sl
/-! ## D1 -/
set_option Elab.async false
set_option linter.all false
set_option maxRecDepth 100000
set_option maxHeartbeats 4000000
namespace Sl
open PySem PySem.Spec PyProof.Rows L2
def top (i : Nat) : Stmt := PySem.Challenge.pw_sealedslots_k28_whole_states_by_all_text.main.body.getD i (.Pass ⟨0, 0, 0, 0⟩)
abbrev sDraw : Stmt := top 45
abbrev sRng : Stmt := top 44
abbrev sChoice : Stmt := top 46
/-! ### the draws -/
/-- what a drawing object looks like: its digits that are left, its state -/
structure Rng (H : Hp) (a : Addr) : Prop where
  ex : ∃ x y : Int, H a = some (.lst [.int x, .int y]) ∧ 0 ≤ x ∧ 0 ≤ y ∧ y < 2147483648
/-- all stands as it was but what is at a -/
def Keep (a : Addr) (H H' : Hp) : Prop := ∀ b o, H b = some o → b ≠ a → H' b = some o
theorem Keep.refl (a : Addr) (H : Hp) : Keep a H H := fun _ _ h _ => h
theorem Keep.trans {a : Addr} {H H1 H2 : Hp} (h : Keep a H H1) (h' : Keep a H1 H2) : Keep a H H2 := fun b o e n => h' b o (h b o e n) n
theorem Keep.new {a p : Addr} {H : Hp} {o : HO} (h : H p = none) : Keep a H (upd H p o) := fun b u e _ => by
  rw [upd_ne (ne_of_none e h)]
  exact e
theorem Keep.at_ {a : Addr} {H : Hp} {o : HO} : Keep a H (upd H a o) := fun b u e n => by
  rw [upd_ne n]
  exact e
/-- the draw's promise: a number below many -/
def spDraw : Sp := fun vs H Q _ => ∃ (a : Addr) (m : Int), vs = [.ref a, .int m] ∧ Rng H a ∧ 0 < m ∧ m < 1073741824 ∧
  ∀ (d : Int) (H' : Hp), 0 ≤ d → d < m → Rng H' a → Keep a H H' → Q (.int d) H'
section
variable {P : Program} {w : World} {K : PySem.W.Frag} {mg : Str → Option Value} {base : Heap}
theorem scDraw : FnScope ["_law_rng_here", "_law_many", "_law_digit"] ["_law_rng_here", "_law_many"] (defScope sDraw) := ⟨rfl, rfl, rfl, by decide +kernel, rfl, by decide +kernel, by decide +kernel⟩
theorem ok_draw {f : Addr} {fd : FuncData} (F : Fun K "_law_draw" "_law_draw" sDraw f fd) (zd : mg "divmod" = none) (zi : mg "int" = none) :
    FnOk P w K mg base CX0 1 f fd ["_law_rng_here", "_law_many"] spDraw := by
  refine F.ok scDraw (fun vs H Q E h => ?_) (fun cdv A outer s H vs Q E hr h => ?_)
  · obtain ⟨a, m, rfl, _⟩ := h
    rfl
  · obtain ⟨a, m, rfl, ⟨x, y, h0, hx, hy, hy2⟩, hm, hm2, k⟩ := h
    refine ⟨_, pss_cons (ps_if (pt_cmpR op_gt (pe_ix ix_list (pv 0) pe_int (fun _ _ => rfl)) pe_int (nomark _))
        (pss_cons (ps_asg (pe_callB call_divmodW (by rfl) zd (by decide +kernel) (pa_cons (pe_ix ix_list (pv 0) pe_int (fun _ _ => rfl)) (pa_cons (pv 1) pa_nil)))
          (pg_tup (by rfl) (pgs_cons (pg_sub (pv 0) pe_int set_list) (pgs_cons (pg_name (i := 2) scDraw.nd rfl (.inl rfl)) pgs_nil))))
          (pss_one (ps_ret (pv 2)))) pss_nil)
      (pss_cons (ps_asg (pe_op op_mod (pe_callTy call_int1 (by rfl) zi (by decide +kernel) (pa_cons (pe_op op_add (pe_op op_mul (pe_ix ix_list (pv 0) pe_int (fun _ _ => rfl)) pe_int) pe_int) pa_nil)) pe_int) (pg_sub (pv 0) pe_int set_list))
      (pss_one (ps_ret (pe_op op_mod (pe_op op_fdiv (pe_op op_mod (pe_callTy call_int1 (by rfl) zi (by decide +kernel) (pa_cons (pe_op op_mul (pe_ix ix_list (pv 0) pe_int (fun _ _ => rfl)) (pe_ix ix_list (pv 0) pe_int (fun _ _ => rfl))) pa_nil)) pe_int) pe_int) (pv 1))))), ?_⟩
    refine ⟨_, rfl, a, [.int x, .int y], _, .int x, rfl, rfl, SqL.of h0, atI_nat (j := 0) rfl, _, _, rfl, rfl, _, rfl, ?_⟩
    refine ite2 (fun c => ?_) (fun c => ?_)
    · refine ⟨_, rfl, a, [.int x, .int y], _, .int x, rfl, rfl, SqL.of h0, atI_nat (j := 0) rfl, _, rfl, _, _, rfl, ⟨hm, PyProof.noPylong_small (by omega)⟩, fun p hp => ?_⟩
      have npa : a ≠ p := ne_of_none h0 hp
      refine ⟨p, _, rfl, SqT.of upd_same, rfl, _, _, rfl, ?_⟩
      refine ⟨_, rfl, a, [.int x, .int y], _, 0, rfl, rfl, (by rw [upd_ne npa]; exact h0), rfl, ?_⟩
      refine ⟨_, _, rfl, rfl, _, rfl, ?_⟩
      refine k (x % m) _ (Int.emod_nonneg _ (by omega)) (Int.emod_lt_of_pos _ hm) ⟨x / m, y, upd_same, Int.ediv_nonneg hx (by omega), hy, hy2⟩ ((Keep.new hp).trans Keep.at_)
    · have hz : (0 : Int) < 2147483563 := by decide
      refine ⟨_, rfl, a, [.int x, .int y], _, .int y, rfl, rfl, SqL.of h0, atI_nat (j := 1) rfl, _, _, rfl, rfl, .inr ⟨by decide, by decide⟩, _, _, rfl, rfl, .inl ⟨_, rfl, ?_⟩⟩
      refine ⟨_, _, rfl, rfl, hz, _, rfl, a, _, _, 1, rfl, rfl, h0, rfl, ?_⟩
      obtain ⟨z, ez, b0, b1⟩ : ∃ z, z = (y * 39373 + 30011) % 2147483563 ∧ 0 ≤ z ∧ z < 2147483563 := ⟨_, rfl, Int.emod_nonneg _ (by decide), Int.emod_lt_of_pos _ hz⟩
      have h1 : upd H a (.lst [V.int x, V.int ((y * 39373 + 30011) % 2147483563)]) a = some (.lst [V.int x, V.int z]) := by
        rw [ez]
        exact upd_same
      refine ⟨_, rfl, a, [.int x, .int z], _, .int z, rfl, rfl, SqL.of h1, atI_nat (j := 1) rfl, _, rfl, a, [.int x, .int z], _, .int z, rfl, rfl, SqL.of h1, atI_nat (j := 1) rfl, _, _, rfl, rfl, .inl ⟨by omega, by omega⟩, .inl ⟨_, rfl, ?_⟩⟩
      refine ⟨_, _, rfl, rfl, (by show (0 : Int) < 2147483497; decide), _, _, rfl, rfl, ⟨by decide, by decide⟩, _, rfl, _, _, rfl, rfl, hm, ?_⟩
      exact k _ _ (Int.emod_nonneg _ (by omega)) (Int.emod_lt_of_pos _ hm) ⟨x, z, h1, hx, b0, by omega⟩ Keep.at_
end
end Sl
/-! ## P1 -/
set_option Elab.async false
set_option linter.all false
set_option maxRecDepth 100000
set_option maxHeartbeats 4000000
namespace Sl
open PySem PySem.Spec PyProof.Rows L2
abbrev sIsInt : Stmt := top 22
abbrev sBelow : Stmt := top 23
abbrev sHasLen : Stmt := top 26
/-! ### the kinds of values -/
inductive Kd
  | non | bl | int | str | lst | tup | dct
def Kd.nm : Kd → String
  | .non => "NoneType" | .bl => "bool" | .int => "int" | .str => "str" | .lst => "list" | .tup => "tuple" | .dct => "dict"
/-- the value's kind -/
def Is (K : PySem.W.Frag) (H : Hp) (x : V) (k : Kd) : Prop := TyX K H x (.type k.nm)
def Kd.num : Kd → Bool
  | .int => true
  | _ => false
def spIsInt (K : PySem.W.Frag) : Sp := fun vs H Q _ => ∃ (x : V) (k : Kd), vs = [x] ∧ Is K H x k ∧ Q (.bl k.num) H
section
variable {P : Program} {w : World} {K : PySem.W.Frag} {mg : Str → Option Value} {base : Heap}
theorem rel_ty (n : String) : RelV (.ty n) (.type n) := rfl
theorem scIsInt : FnScope ["value"] ["value"] (defScope sIsInt) := ⟨rfl, rfl, rfl, by decide +kernel, rfl, by decide +kernel, by decide +kernel⟩
theorem ok_isint {f : Addr} {fd : FuncData} (F : Fun K "is_integer" "is_integer" sIsInt f fd) (zz : mg "isinstance" = none) (zi : mg "int" = none) (zb : mg "bool" = none) : FnOk P w K mg base CX0 1 f fd ["value"] (spIsInt K) := by
  refine F.ok scIsInt (fun vs H Q E h => ?_) (fun cdv A outer s H vs Q E hr h => ?_)
  · obtain ⟨x, k, rfl, _⟩ := h
    rfl
  · obtain ⟨x, k, rfl, hk, q⟩ := h
    refine ⟨_, pss_one (ps_ret (pe_and (pe_callB call_isi (by rfl) zz (by decide +kernel) (pa_cons (pv 0) (pa_cons (pe_bltn (by rfl) zi (by decide +kernel) (rel_ty "int")) pa_nil)))
      (pe_one (pe_not (pe_callB call_isi (by rfl) zz (by decide +kernel) (pa_cons (pv 0) (pa_cons (pe_bltn (by rfl) zb (by decide +kernel) (rel_ty "bool")) pa_nil))))))), ?_⟩
    cases k with
    | int => exact ⟨_, rfl, _, _, _, _, true, rfl, .ty _, hk, kit_ty (by decide +kernel), true, rfl, _, rfl, _, _, _, _, false, rfl, .ty _, hk, kit_ty (by decide +kernel), _, rfl, q⟩
    | bl => exact ⟨_, rfl, _, _, _, _, true, rfl, .ty _, hk, kit_ty (by decide +kernel), true, rfl, _, rfl, _, _, _, _, true, rfl, .ty _, hk, kit_ty (by decide +kernel), _, rfl, q⟩
    | _ => exact ⟨_, rfl, _, _, _, _, false, rfl, .ty _, hk, kit_ty (by decide +kernel), false, rfl, q⟩
end
end Sl
/-! ## P2 -/
set_option Elab.async false
set_option linter.all false
set_option maxRecDepth 100000
set_option maxHeartbeats 4000000
namespace Sl
open PySem PySem.Spec PyProof.Rows L2
/-- a def stands at its name: its parameters, its defaults -/
structure At (K : PySem.W.Frag) (mg : Str → Option Value) (x : Str) (f : Addr) (fd : FuncData) (ps : List Str) (ds : List Value) : Prop where
  g : mg x = some (.ref f)
  kp : PySem.W.keepIn K (.ref f) = true
  b : Binds K fd ps ds
def below (x : V) (n : Int) : Bool := match x with
  | .int i => decide (0 ≤ i) && decide (i < n)
  | _ => false
/-- a value of a kind: ints are the V's ints -/
def Val (K : PySem.W.Frag) (H : Hp) (x : V) : Prop := (∃ i, x = .int i) ∨ ((∀ i, x ≠ .int i) ∧ ∃ k : Kd, k.num = false ∧ Is K H x k)
theorem Val.kd {K : PySem.W.Frag} {H : Hp} {x : V} (h : Val K H x) : ∃ k, Is K H x k := by
  rcases h with ⟨i, rfl⟩ | ⟨_, k, _, e⟩
  · exact ⟨.int, .base (.int i)⟩
  · exact ⟨k, e⟩
def spBelow (K : PySem.W.Frag) : Sp := fun vs H Q _ => ∃ (x : V) (n : Int), vs = [x, .int n] ∧ Val K H x ∧ Q (.bl (below x n)) H
def spHasLen (K : PySem.W.Frag) : Sp := fun vs H Q _ => ∃ (a : Addr) (xs : List V) (m n : Int), vs = [.ref a, .int m, .int n] ∧ (H a = some (.lst xs) ∨ H a = some (.tup xs)) ∧
  ∀ H', (∀ b o, H b = some o → H' b = some o) → Q (.bl (decide (m ≤ xs.length) && decide ((xs.length : Int) ≤ n))) H'
section
variable {P : Program} {w : World} {K : PySem.W.Frag} {mg : Str → Option Value} {base : Heap}
theorem scBelow : FnScope ["value", "limit"] ["value", "limit"] (defScope sBelow) := ⟨rfl, rfl, rfl, by decide +kernel, rfl, by decide +kernel, by decide +kernel⟩
theorem ok_below {f fI : Addr} {fd fdI : FuncData} (F : Fun K "is_below" "is_below" sBelow f fd) (aI : At K mg "is_integer" fI fdI ["value"] []) (gI : FnOk P w K mg base CX0 1 fI fdI ["value"] (spIsInt K)) :
    FnOk P w K mg base CX0 2 f fd ["value", "limit"] (spBelow K) := by
  refine F.ok scBelow (fun vs H Q E h => ?_) (fun cdv A outer s H vs Q E hr h => ?_)
  · obtain ⟨x, n, rfl, _⟩ := h
    rfl
  · obtain ⟨x, n, rfl, hk, q⟩ := h
    refine ⟨_, pss_one (ps_ret (pe_and (pe_call gI hr (by rfl) aI.g aI.kp aI.b .nil pass0 (pa_cons (pv 0) pa_nil)) (pe_one (pe_chain op_le op_lt pe_int (pv 0) (pv 1))))), ?_⟩
    rcases hk with ⟨i, rfl⟩ | ⟨hn, k, ek, ik⟩
    · refine ⟨_, rfl, _, .int, rfl, .base (.int i), true, rfl, ?_⟩
      refine ⟨_, rfl, _, _, rfl, rfl, _, rfl, ?_⟩
      have e : below (.int i) n = (decide (0 ≤ i) && decide (i < n)) := rfl
      rw [e] at q
      by_cases c : 0 ≤ i
      · simp only [c, decide_true, Bool.true_and, if_true] at q ⊢
        exact ⟨_, rfl, _, _, rfl, rfl, q⟩
      · simp only [c, decide_false, Bool.false_and, Bool.false_eq_true, if_false] at q ⊢
        exact q
    · refine ⟨_, rfl, _, k, rfl, ik, false, by rw [ek], ?_⟩
      have e : below x n = false := by
        cases x with
        | int i => exact absurd rfl (hn i)
        | _ => rfl
      rw [e] at q
      exact q
theorem scHasLen : FnScope ["value", "least", "most"] ["value", "least", "most"] (defScope sHasLen) := ⟨rfl, rfl, rfl, by decide +kernel, rfl, by decide +kernel, by decide +kernel⟩
theorem ok_haslen {f : Addr} {fd : FuncData} (F : Fun K "has_length" "has_length" sHasLen f fd) (zz : mg "isinstance" = none) (zl : mg "list" = none) (zt : mg "tuple" = none) (zn : mg "len" = none) :
    FnOk P w K mg base CX0 1 f fd ["value", "least", "most"] (spHasLen K) := by
  refine F.ok scHasLen (fun vs H Q E h => ?_) (fun cdv A outer s H vs Q E hr h => ?_)
  · obtain ⟨a, xs, m, n, rfl, _⟩ := h
    rfl
  · obtain ⟨a, xs, m, n, rfl, ha, q⟩ := h
    refine ⟨_, pss_one (ps_ret (pe_and (pe_callB call_isiT (by rfl) zz (by decide +kernel) (pa_cons (pv 0) (pa_cons (pe_tup (pa_cons (pe_bltn (by rfl) zl (by decide +kernel) (rel_ty "list")) (pa_cons (pe_bltn (by rfl) zt (by decide +kernel) (rel_ty "tuple")) pa_nil))) pa_nil)))
      (pe_one (pe_chain op_le op_le (pv 1) (pe_callB call_len_seq (by rfl) zn PySem.boot_len (pa_cons (pv 0) pa_nil)) (pv 2))))), ?_⟩
    refine ⟨_, rfl, (by show 2 ≤ sizeLine; decide), fun p hp => ?_⟩
    have npa : ∀ o, H a = some o → a ≠ p := fun o e => ne_of_none e hp
    have same : ∀ b o, H b = some o → upd H p (.tup [.ty "list", .ty "tuple"]) b = some o := fun b o e => by
      rw [upd_ne (ne_of_none e hp)]
      exact e
    obtain ⟨t, hb, it, hs⟩ : ∃ t : Kd, PySem.W.kitAny K (.type t.nm) [.type "list", .type "tuple"] = some true ∧ Is K (upd H p (.tup [.ty "list", .ty "tuple"])) (.ref a) t ∧ (SqL K (upd H p (.tup [.ty "list", .ty "tuple"])) a xs ∨ SqT K (upd H p (.tup [.ty "list", .ty "tuple"])) a xs) := by
      rcases ha with ha | ha
      · exact ⟨.lst, by first | rfl | decide +kernel, .base (.lst (same _ _ ha)), .inl (SqL.of (same _ _ ha))⟩
      · exact ⟨.tup, by first | rfl | decide +kernel, .base (.tup (same _ _ ha)), .inr (SqT.of (same _ _ ha))⟩
    refine ⟨_, p, _, _, _, true, rfl, upd_same, .cons (.ty _) (.cons (.ty _) .nil), it, hb, true, rfl, _, rfl, _, rfl, _, _, rfl, hs, _, _, rfl, rfl, _, rfl, ?_⟩
    have q' := q _ same
    by_cases c : m ≤ xs.length
    · simp only [c, decide_true, Bool.true_and, if_true] at q' ⊢
      exact ⟨_, rfl, _, _, rfl, rfl, q'⟩
    · simp only [c, decide_false, Bool.false_and, Bool.false_eq_true, if_false] at q' ⊢
      exact q'
end
end Sl
/-! ## P3 -/
set_option Elab.async false
set_option linter.all false
set_option maxRecDepth 100000
set_option maxHeartbeats 4000000
namespace Sl
open PySem PySem.Spec PyProof.Rows L2
abbrev sAreStates : Stmt := top 25
abbrev sIsWord : Stmt := top 28
/-- states of something with so many: a list of different numbers below it -/
def spAreStates : Sp := fun vs H Q _ => ∃ (a : Addr) (ns : List Int) (n : Int), vs = [.ref a, .int n] ∧ H a = some (.lst (ns.map V.int)) ∧ ns.length < 64 ∧ ns.Nodup ∧ (∀ i ∈ ns, 0 ≤ i ∧ i < n) ∧
  ∀ H', (∀ b o, H b = some o → H' b = some o) → Q (.bl true) H'
theorem at_map {α : Type} {f : α → V} {l : List α} {i : Nat} {x : V} (h : (l.map f)[i]? = some x) : ∃ z, l[i]? = some z ∧ x = f z := by
  rw [List.getElem?_map] at h
  cases e : l[i]? with
  | none => rw [e] at h; cases h
  | some z => rw [e] at h; exact ⟨z, rfl, (Option.some.inj h).symm⟩
theorem take_more {α : Type} {l : List α} {i : Nat} {x : α} (h : l[i]? = some x) : l.take (i + 1) = l.take i ++ [x] := by rw [List.take_add_one, h]; rfl
theorem one_lt (c d : Nat) : (!decide ([c] < [d])) = decide (d ≤ c) := by
  by_cases h : d ≤ c
  · have n : ¬ [c] < [d] := by
      rw [List.cons_lt_cons_iff]
      rintro (k | ⟨_, k⟩)
      · omega
      · exact absurd k (by simp)
    rw [decide_eq_true h, decide_eq_false n]
    rfl
  · have n : [c] < [d] := by
      rw [List.cons_lt_cons_iff]
      exact .inl (by omega)
    rw [decide_eq_false h, decide_eq_true n]
    rfl
theorem cmp_a (c : Nat) : (!decide ((⟨#[c]⟩ : Str).cps.toList < ("a" : Str).cps.toList)) = decide (97 ≤ c) := one_lt c 97
theorem cmp_z (c : Nat) : (!decide (("z" : Str).cps.toList < (⟨#[c]⟩ : Str).cps.toList)) = decide (c ≤ 122) := one_lt 122 c
/-- the code points of a to z -/
def lowC (c : Nat) : Bool := decide (97 ≤ c) && decide (c ≤ 122)
def isWordS (z : Str) : Bool := z.cps.toList.all lowC
/-- a text is judged by its signs, any other value is none -/
def spIsWord (K : PySem.W.Frag) : Sp := fun vs H Q _ => ∃ x, vs = [x] ∧ ((∃ z : Str, x = .str z ∧ z.length ≤ 10000 ∧ ∀ H', (∀ b o, H b = some o → H' b = some o) → Q (.bl (isWordS z)) H') ∨ (∃ k : Kd, Is K H x k ∧ k ≠ .str ∧ Q (.bl false) H))
section
variable {P : Program} {w : World} {K : PySem.W.Frag} {mg : Str → Option Value} {base : Heap}
theorem scAreStates : FnScope ["value", "many", "state"] ["value", "many"] (defScope sAreStates) := ⟨rfl, rfl, rfl, by decide +kernel, rfl, by decide +kernel, by decide +kernel⟩
theorem ok_arestates {f fB : Addr} {fd fdB : FuncData} (F : Fun K "are_states" "are_states" sAreStates f fd) (aB : At K mg "is_below" fB fdB ["value", "limit"] []) (gB : FnOk P w K mg base CX0 2 fB fdB ["value", "limit"] (spBelow K))
    (zz : mg "isinstance" = none) (zl : mg "list" = none) (zt : mg "tuple" = none) (zn : mg "len" = none) (za : mg "all" = none) (zs : mg "set" = none) :
    FnOk P w K mg base CX0 3 f fd ["value", "many"] spAreStates := by
  refine F.ok scAreStates (fun vs H Q E h => ?_) (fun cdv A outer s H vs Q E hr h => ?_)
  · obtain ⟨a, ns, n, rfl, _⟩ := h
    rfl
  · obtain ⟨a, ns, n, rfl, ha, hl, nd, hns, q⟩ := h
    refine ⟨_, pss_cons (ps_if (pt_not (pt_val (pe_callB call_isiT (by rfl) zz (by decide +kernel) (pa_cons (pv 0) (pa_cons (pe_tup (pa_cons (pe_bltn (by rfl) zl (by decide +kernel) (rel_ty "list")) (pa_cons (pe_bltn (by rfl) zt (by decide +kernel) (rel_ty "tuple")) pa_nil))) pa_nil))))) (pss_one (ps_ret pe_bl)) pss_nil)
      (pss_cons (ps_if (pt_not (pt_val (pe_callB (cr_all rfl) (by rfl) za (by decide +kernel) (pa_cons (pe_lc (own := [("state", 2)]) (g := gName 2) (tt := tYes) rfl scAreStates.nd (pi_list (pv 0)) (blkOk_by (N := ["value", "many", "state"]) (sc := defScope sAreStates) (by decide +kernel))
          (fun _ _ _ _ _ => pg_name (i := 2) scAreStates.nd rfl (Or.inl rfl)) (fun _ _ _ _ _ => pts_nil) (fun _ _ _ _ _ => pe_call gB hr (by rfl) aB.g aB.kp aB.b .nil pass0 (pa_cons (pv 2) (pa_cons (pv 1) pa_nil)))) pa_nil)))) (pss_one (ps_ret pe_bl)) pss_nil)
      (pss_one (ps_ret (pe_cmpR op_eq (RZ.pe_lenSetI (by rfl) zn (by rfl) zs (pv 0)) (pe_callB call_len_seq (by rfl) zn PySem.boot_len (pa_cons (pv 0) pa_nil)) (nomark _))))), ?_⟩
    refine ⟨_, rfl, (by show 2 ≤ sizeLine; decide), fun p hp => ?_⟩
    have same : ∀ b o, H b = some o → upd H p (.tup [.ty "list", .ty "tuple"]) b = some o := fun b o e => by
      rw [upd_ne (ne_of_none e hp)]
      exact e
    refine ⟨_, p, _, .type "list", _, true, rfl, upd_same, .cons (.ty _) (.cons (.ty _) .nil), .base (.lst (same _ _ ha)), (by first | rfl | decide +kernel), true, rfl, ?_⟩
    refine iteF ?_
    generalize upd H p (.tup [.ty "list", .ty "tuple"]) = H1 at same
    refine ⟨_, rfl, a, rfl, ⟨_, SqL.of (same _ _ ha)⟩, fun D hD => ?_⟩
    have naD : ∀ b o, H b = some o → b ≠ D := fun b o e => ne_of_none (same b o e) hD
    refine lc_list (K := K) (a := a) (xs := ns.map V.int) (fun i H' => (∀ b o, H b = some o → H' b = some o) ∧ H' D = some (.lst ((List.replicate i true).map V.bl))) ⟨fun b o e => by rw [upd_ne (naD b o e)]; exact same b o e, upd_same⟩ (fun i H' _ h => SqL.of (h.1 _ _ ha)) ?_ ?_
    · rintro i x H' hi ⟨h1, h2⟩
      obtain ⟨z, hz, rfl⟩ := at_map hi
      have hil : i < ns.length := (List.getElem?_eq_some_iff.mp hz).1
      have hb := hns z (List.mem_of_getElem? hz)
      refine ⟨rfl, ?_⟩
      refine ⟨_, rfl, _, rfl, .int z, n, rfl, .inl ⟨z, rfl⟩, ?_⟩
      have e : below (.int z) n = true := by
        unfold below
        simp [hb.1, hb.2]
      rw [e]
      refine ⟨_, h2, by rw [List.length_map, List.length_replicate]; exact small1000 (by omega), fun b o e => by rw [upd_ne (naD b o e)]; exact h1 b o e, ?_⟩
      rw [upd_same, List.replicate_succ', List.map_append]
      rfl
    · rintro H' ⟨h1, h2⟩
      refine ⟨D, List.replicate (ns.map V.int).length true, rfl, SqL.of h2, true, by simp, ?_⟩
      refine iteF ?_
      refine ⟨_, rfl, a, ns, rfl, SqL.of (h1 _ _ ha), nd, (by omega), _, rfl, a, _, rfl, .inl (SqL.of (h1 _ _ ha)), ?_⟩
      have e : decide (V.int (ns.length : Nat) = V.int ((ns.map V.int).length : Nat)) = true := by
        rw [List.length_map]
        simp
      have q' := q _ h1
      rw [← e] at q'
      exact ⟨rfl, q'⟩
theorem scIsWord : FnScope ["value", "sign"] ["value"] (defScope sIsWord) := ⟨rfl, rfl, rfl, by decide +kernel, rfl, by decide +kernel, by decide +kernel⟩
theorem ok_isword {f : Addr} {fd : FuncData} (F : Fun K "is_word" "is_word" sIsWord f fd) (zz : mg "isinstance" = none) (zs : mg "str" = none) (za : mg "all" = none) :
    FnOk P w K mg base CX0 1 f fd ["value"] (spIsWord K) := by
  refine F.ok scIsWord (fun vs H Q E h => ?_) (fun cdv A outer s H vs Q E hr h => ?_)
  · obtain ⟨x, rfl, _⟩ := h
    rfl
  · obtain ⟨x, rfl, hx⟩ := h
    refine ⟨_, pss_one (ps_ret (pe_and (pe_callB call_isi (by rfl) zz (by decide +kernel) (pa_cons (pv 0) (pa_cons (pe_bltn (by rfl) zs (by decide +kernel) (rel_ty "str")) pa_nil)))
      (pe_one (pe_callB (cr_all rfl) (by rfl) za (by decide +kernel) (pa_cons (pe_lc (own := [("sign", 1)]) (g := gName 1) (tt := tYes) rfl scIsWord.nd (pi_str (pv 0)) (blkOk_by (N := ["value", "sign"]) (sc := defScope sIsWord) (by decide +kernel))
          (fun _ _ _ _ _ => pg_name (i := 1) scIsWord.nd rfl (Or.inl rfl)) (fun _ _ _ _ _ => pts_nil) (fun _ _ _ _ _ => pe_chain op_le_str op_le_str pe_str (pv 1) pe_str)) pa_nil))))), ?_⟩
    rcases hx with ⟨z, rfl, hz, q⟩ | ⟨k, ik, nk, q⟩
    · refine ⟨_, rfl, _, _, _, _, true, rfl, .ty _, .base (.str z), kit_ty (by decide +kernel), true, rfl, ?_⟩
      refine ⟨_, rfl, z, rfl, fun D hD => ?_⟩
      have zl : z.cps.size ≤ 10000 := hz
      refine lc_it walk_str (fun i H' => (∀ b o, H b = some o → H' b = some o) ∧ H' D = some (.lst ((z.cps.toList.take i).map fun c => V.bl (lowC c)))) ⟨fun b o e => by rw [upd_ne (ne_of_none e hD)]; exact e, upd_same⟩ (fun _ _ _ _ => trivial) ?_ ?_
      · rintro i x H1 H' hi ⟨h1, h2⟩ ⟨rfl, c, hc, rfl⟩
        refine ⟨rfl, _, rfl, _, _, rfl, rfl, _, rfl, ?_⟩
        have put : ∃ acc, H' D = some (.lst acc) ∧ acc.length < sizeLine ∧ ((∀ b o, H b = some o → (upd H' D (.lst (acc ++ [.bl (lowC c)]))) b = some o) ∧ (upd H' D (.lst (acc ++ [.bl (lowC c)]))) D = some (.lst ((z.cps.toList.take (i + 1)).map fun c => V.bl (lowC c)))) := by
          refine ⟨_, h2, ?_, fun b o e => by rw [upd_ne (ne_of_none e hD)]; exact h1 b o e, ?_⟩
          · rw [List.length_map, List.length_take, Array.length_toList, sizeLine_eq]
            omega
          · have hc' : z.cps.toList[i]? = some c := by
              rw [Array.getElem?_toList]
              exact hc
            rw [upd_same, take_more hc', List.map_append]
            rfl
        rw [cmp_a c]
        by_cases c1 : 97 ≤ c
        · rw [if_pos (decide_eq_true c1)]
          refine ⟨_, _, rfl, rfl, ?_⟩
          rw [cmp_z c]
          have e : decide (c ≤ 122) = lowC c := by
            unfold lowC
            rw [decide_eq_true c1, Bool.true_and]
          rw [e]
          exact put
        · rw [if_neg (by rw [decide_eq_false c1]; exact Bool.false_ne_true)]
          have e : false = lowC c := by
            unfold lowC
            rw [decide_eq_false c1, Bool.false_and]
          rw [e]
          exact put
      · rintro H' ⟨h1, h2⟩
        have e : List.take z.cps.size z.cps.toList = z.cps.toList := by
          rw [← Array.length_toList, List.take_length]
        rw [e] at h2
        refine ⟨D, z.cps.toList.map lowC, rfl, SqL.of (by rw [List.map_map]; exact h2), ?_⟩
        have e2 : (z.cps.toList.map lowC).all id = isWordS z := by
          unfold isWordS
          rw [List.all_map]
          rfl
        rw [e2]
        exact q _ h1
    · have e : PySem.W.kitOne K (.type k.nm) (.type "str") = some false := by
        cases k with
        | str => exact absurd rfl nk
        | _ => exact kit_ty (by decide +kernel)
      exact ⟨_, rfl, _, _, _, _, false, rfl, .ty _, ik, e, false, rfl, q⟩
end
end Sl
/-! ## P4 -/
set_option Elab.async false
set_option linter.all false
set_option maxRecDepth 100000
set_option maxHeartbeats 4000000
namespace Sl
open PySem PySem.Spec PyProof.Rows L2
/-- what stood stands -/
abbrev Ext (H H' : Hp) : Prop := ∀ b o, H b = some o → H' b = some o
theorem Ext.refl (H : Hp) : Ext H H := fun _ _ h => h
theorem Ext.trans {H H1 H2 : Hp} (h : Ext H H1) (h' : Ext H1 H2) : Ext H H2 := fun b o e => h' b o (h b o e)
theorem Ext.new {H : Hp} {p : Addr} {o : HO} (h : H p = none) : Ext H (upd H p o) := fun b u e => by
  rw [upd_ne (ne_of_none e h)]
  exact e
theorem Ext.free {H H' : Hp} {p : Addr} (h : Ext H H') (n : H' p = none) : H p = none := by
  cases e : H p with
  | none => rfl
  | some o =>
    rw [h p o e] at n
    cases n
def nameS (z : Str) : Bool := isWordS z && (decide (1 ≤ z.length) && decide (z.length ≤ 8))
def signS (z : Str) : Bool := isWordS z && decide (z.length = 1)
def markS (z : Str) : Bool := nameS z && decide (1 < z.length)
theorem small_size {n : Nat} (h : n ≤ 10000) : n ≤ sizeLine := by
  rw [sizeLine_eq]
  omega
/-- a test of a text -/
def spText (t : Str → Bool) : Sp := fun vs H Q _ => ∃ z : Str, vs = [.str z] ∧ z.length ≤ 10000 ∧ ∀ H', Ext H H' → Q (.bl (t z)) H'
end Sl
/-! ## V2 -/
set_option Elab.async false
set_option linter.all false
set_option maxRecDepth 100000
set_option maxHeartbeats 4000000
set_option pp.maxSteps 1500
set_option pp.deepTerms false
/-! explored, reached: all nodes to which a lambda leads -/
namespace Sl
open PySem PySem.Spec PyProof.Rows L2 LamX NdefX
abbrev sExplored : Stmt := top 9
abbrev sReached : Stmt := top 10
/-! ### the mathematics -/
abbrev Gr := Nat → List (Str × Nat)
def addNew (q : List Nat) (l : List (Str × Nat)) : List Nat := l.foldl (fun q e => if e.2 ∈ q then q else q ++ [e.2]) q
def bfs (g : Gr) : Nat → List Nat → Nat → List Nat
  | 0, q, _ => q
  | n + 1, q, i => match q[i]? with
    | none => q
    | some x => bfs g n (addNew q (g x)) (i + 1)
def reachedL (g : Gr) (N first : Nat) : List Nat := bfs g (N + 1) [first] 0
theorem addNew_nil (q : List Nat) : addNew q [] = q := rfl
theorem addNew_cons (q : List Nat) (e : Str × Nat) (l : List (Str × Nat)) : addNew q (e :: l) = addNew (if e.2 ∈ q then q else q ++ [e.2]) l := rfl
theorem addNew_append (q : List Nat) (l m : List (Str × Nat)) : addNew q (l ++ m) = addNew (addNew q l) m := List.foldl_append
theorem addNew_one (q : List Nat) (e : Str × Nat) : addNew q [e] = if e.2 ∈ q then q else q ++ [e.2] := rfl
theorem addNew_ok {N : Nat} : ∀ {l : List (Str × Nat)} {q : List Nat}, q.Nodup → (∀ x ∈ q, x < N) → (∀ e ∈ l, e.2 < N) → (addNew q l).Nodup ∧ (∀ x ∈ addNew q l, x < N) ∧ q.length ≤ (addNew q l).length
  | [], q, nd, h, _ => ⟨nd, h, Nat.le_refl _⟩
  | e :: l, q, nd, h, hl => by
    rw [addNew_cons]
    have hl' := fun e' he => hl e' (List.mem_cons_of_mem _ he)
    by_cases c : e.2 ∈ q
    · rw [if_pos c]
      exact addNew_ok nd h hl'
    · rw [if_neg c]
      have k := addNew_ok (N := N) (l := l) (q := q ++ [e.2]) (List.nodup_append.mpr ⟨nd, by simp, fun a ha b hb z => c (by rw [List.mem_singleton.mp hb] at z; rw [← z]; exact ha)⟩) (fun x hx => by
        rcases List.mem_append.mp hx with hx | hx
        · exact h x hx
        · rw [List.mem_singleton.mp hx]
          exact hl e List.mem_cons_self) hl'
      refine ⟨k.1, k.2.1, ?_⟩
      have := k.2.2
      rw [List.length_append] at this
      omega
theorem nodup_len : ∀ {N : Nat} {q : List Nat}, q.Nodup → (∀ x ∈ q, x < N) → q.length ≤ N
  | N, q, nd, h => by
    have := (List.nodup_range (n := N)).length_le_of_subset (l₂ := q)
    have k : q.length ≤ (List.range N).length := by
      refine List.Nodup.length_le_of_subset nd fun x hx => List.mem_range.mpr (h x hx)
    rwa [List.length_range] at k
theorem bfs_end {g : Gr} {n i : Nat} {q : List Nat} (h : q.length ≤ i) : bfs g n q i = q := by
  cases n with
  | zero => rfl
  | succ n =>
    unfold bfs
    rw [List.getElem?_eq_none h]
theorem bfs_step {g : Gr} {n i x : Nat} {q : List Nat} (h : q[i]? = some x) : bfs g (n + 1) q i = bfs g n (addNew q (g x)) (i + 1) := by
  rw [bfs, h]
/-! ### what is told of leads -/
inductive LeadsAt (H : Hp) : List Addr → List (Str × Nat) → Prop
  | nil : LeadsAt H [] []
  | cons {t : Addr} {z : Str} {n : Nat} {ts : List Addr} {l : List (Str × Nat)} : H t = some (.tup [.str z, .int n]) → LeadsAt H ts l → LeadsAt H (t :: ts) ((z, n) :: l)
theorem LeadsAt.ext {H H' : Hp} (x : ∀ t xs, H t = some (.tup xs) → H' t = some (.tup xs)) : ∀ {ts : List Addr} {l : List (Str × Nat)}, LeadsAt H ts l → LeadsAt H' ts l
  | _, _, .nil => .nil
  | _, _, .cons a h => .cons (x _ _ a) (h.ext x)
theorem LeadsAt.len {H : Hp} : ∀ {ts : List Addr} {l : List (Str × Nat)}, LeadsAt H ts l → ts.length = l.length
  | _, _, .nil => rfl
  | _, _, .cons _ h => congrArg (· + 1) h.len
theorem LeadsAt.at_ {H : Hp} : ∀ {ts : List Addr} {l : List (Str × Nat)} {i : Nat} {t : Addr}, LeadsAt H ts l → ts[i]? = some t → ∃ e, l[i]? = some e ∧ H t = some (.tup [.str e.1, .int e.2])
  | _, _, i, _, .nil, e => by
    cases i <;> cases e
  | _, _, 0, _, .cons a _, e => by
    cases e
    exact ⟨_, rfl, a⟩
  | _, _, i + 1, _, .cons _ h, e => h.at_ (i := i) e
theorem LeadsAt.snoc {H : Hp} {t : Addr} {z : Str} {n : Nat} (a : H t = some (.tup [.str z, .int n])) : ∀ {ts : List Addr} {l : List (Str × Nat)}, LeadsAt H ts l → LeadsAt H (ts ++ [t]) (l ++ [(z, n)])
  | _, _, .nil => .cons a .nil
  | _, _, .cons b h => .cons b (h.snoc a)
/-- leads of a node, wherever G holds -/
def spLeads (G : Hp → Prop) (g : Gr) (N : Nat) : List V → Hp → VK → Prop := fun vs H Q => ∃ n : Nat, vs = [.int n] ∧ n < N ∧ G H ∧ ∀ (H' : Hp) (p : Addr) (ts : List Addr), Ext H H' → H p = none → H' p = some (.lst (ts.map V.ref)) → LeadsAt H' ts (g n) → Q (.ref p) H'
def spNo : List (Option V) → Sp := fun _ vs H Q _ => ∃ x, vs = [x] ∧ Q (.bl false) H
/-- a graph within bounds -/
structure GrOk (G : Hp → Prop) (g : Gr) (N : Nat) : Prop where
  st : ∀ H H', ExtN H H' → G H → G H'
  n : N ≤ 100
  lt : ∀ n, n < N → ∀ e ∈ g n, e.2 < N
  le : ∀ n, (g n).length ≤ 100
/-- a lambda that tells leads -/
structure LeadL (P : Program) (w : World) (K : PySem.W.Frag) (mg : Str → Option Value) (base : Heap) (k : Nat) (G : Hp → Prop) (g : Gr) (N : Nat) (F : LF) (fr : List Str) (ws : List (Option V)) : Prop where
  ok : ∃ y sp, LOk P w K mg base CX0 k F [y] fr sp ∧ ∀ vs H Q E, spLeads G g N vs H Q → sp ws vs H Q E
def keyI (n : Nat) : Key := Sum.inl (n : Int)
def spExplored (P : Program) (w : World) (K : PySem.W.Frag) (mg : Str → Option Value) (base : Heap) (k : Nat) : List (Str × Addr) → List Str → List (Option V) → Sp := fun cl fr ws vs H Q _ => ∃ (f f2 : Addr) (F F2 : LF) (y2 : Str) (first N : Nat) (G : Hp → Prop) (g : Gr), vs = [.int first, .ref f, .ref f2] ∧
  H f = some (LamO f F) ∧ H F.c = some (CodeO F.c F.qual) ∧ F.cl = cl ∧ LeadL P w K mg base k G g N F fr ws ∧ H f2 = some (LamO f2 F2) ∧ H F2.c = some (CodeO F2.c F2.qual) ∧ F2.cl = [] ∧ LOk P w K mg base CX0 k F2 [y2] [] spNo ∧ G H ∧ GrOk G g N ∧ first < N ∧
  ∀ (H' : Hp) (t b : Addr) (kvs : List (Key × V)), Ext H H' → H t = none → H' t = some (.tup [.ref b, .non]) → H b = none → H' b = some (.dK kvs) → kvs.map (·.1) = (reachedL g N first).map keyI → Q (.ref t) H'
/-- where the search stands -/
def ExpW (H : Hp) (fl f2 b q : Addr) (first N : Nat) (g : Gr) : Nat → L2.St → Hp → Prop := fun m σ H' => ∃ (v6 v7 v8 : Option V) (i : Nat) (Lq : List Nat) (kvs : List (Key × V)), m = N + 1 - i ∧
  σ = [some (.int first), some (.ref fl), some (.ref f2), some (.ref b), some (.ref q), some (.int i), v6, v7, v8] ∧ Ext H H' ∧ H' q = some (.lst (Lq.map fun n => V.int (n : Nat))) ∧ H' b = some (.dK kvs) ∧ kvs.map (·.1) = Lq.map keyI ∧
  Lq.Nodup ∧ (∀ x ∈ Lq, x < N) ∧ i ≤ Lq.length ∧ bfs g (N + 1 - i) Lq i = reachedL g N first
theorem keyI_mem {a : Nat} {l : List Nat} : keyI a ∈ l.map keyI ↔ a ∈ l := by
  constructor
  · intro h
    obtain ⟨x, hx, e⟩ := List.mem_map.mp h
    unfold keyI at e
    injection e with e
    have : x = a := by omega
    rw [← this]
    exact hx
  · exact fun h => List.mem_map.mpr ⟨a, h, rfl⟩
theorem val_key {kvs : List (Key × V)} {l : List Nat} (h : kvs.map (·.1) = l.map keyI) (a : Nat) : (valV kvs (keyI a)).isSome = decide (a ∈ l) := by
  cases e : valV kvs (keyI a) with
  | none =>
    have := valV_not e
    rw [h, keyI_mem] at this
    rw [decide_eq_false this]
    rfl
  | some v =>
    have := valV_in e
    rw [h, keyI_mem] at this
    rw [decide_eq_true this]
    rfl
theorem small_l {n : Nat} (h : n ≤ 10000) : n < sizeLine := by
  rw [sizeLine_eq]
  omega
abbrev nExplored : List Str := ["first", "leads", "is_goal", "before", "queue", "at", "node", "sign", "after"]
section
variable {P : Program} {w : World} {K : PySem.W.Frag} {mg : Str → Option Value} {base : Heap}
theorem scExplored : FnScope nExplored ["first", "leads", "is_goal"] (defScope sExplored) := ⟨rfl, rfl, rfl, by decide +kernel, rfl, by decide +kernel, by decide +kernel⟩
theorem ok_explored {k : Nat} {f : Addr} {fd : FuncData} (Fn : Fun K "explored" "explored" sExplored f fd) (zn : mg "len" = none) : FnV P w K mg base CX0 (k + 1) f fd ["first", "leads", "is_goal"] (spExplored P w K mg base k) := by
  refine Sl.Fun.okV Fn scExplored (fun cl fr ws vs H Q E h => ?_) (fun A0 outer s H vs cl fr ws Q E hr C h => ?_)
  · obtain ⟨f, f2, F, F2, y2, first, N, G, g, rfl, _⟩ := h
    rfl
  · obtain ⟨fl, f2, F, F2, y2, first, N, G, g, rfl, hf, hc, ecl, LL, hf2, hc2, ecl2, LN, hG, gk, fN, kk⟩ := h
    obtain ⟨y, spF, LF, imp⟩ := LL.ok
    have hu := hu_of hr
    have C1 : CellsAt F.cl fr ws (cxOf CX0 P w K mg base nExplored "explored" (defScope sExplored) f fd.code A0 outer s H E).s_0.heap (cxOf CX0 P w K mg base nExplored "explored" (defScope sExplored) f fd.code A0 outer s H E).H_0 := by
      rw [ecl]
      exact C.at_
    refine ⟨_, pss_cons (ps_set (i := 3) scExplored.nd rfl (.inl rfl) (pe_disp (pps_cons (pv 0) pe_non pps_nil) (by rfl) (by rfl) (fun z => by cases z) (by decide)))
      (pss_cons (ps_set (i := 4) scExplored.nd rfl (.inl rfl) (pe_lst (pa_cons (pv 0) pa_nil)))
      (pss_cons (ps_set (i := 5) scExplored.nd rfl (.inl rfl) pe_int)
      (pss_cons (ps_while (passes_of rfl) (pt_cmpR op_lt (pv 5) (pe_callB call_len_seq (by rfl) zn PySem.boot_len (pa_cons (pv 4) pa_nil)) (nomark _))
        (pss_cons (ps_set (i := 6) scExplored.nd rfl (.inl rfl) (pe_ix ix_list (pv 4) (pv 5) (fun _ _ => rfl)))
        (pss_cons (ps_if (pt_val (pe_callL (E := fun _ _ _ => False) (i := 2) LN (fun pins σ H s I => by rw [ecl2]; exact cells_nil) hr (Nat.le_refl _) pass0 rfl (.inl rfl) (pa_cons (pv 6) pa_nil))) (pss_one (ps_ret (pe_tup (pa_cons (pv 3) (pa_cons (pv 6) pa_nil))))) pss_nil)
        (pss_cons (ps_for (passes_of rfl) rfl (pi_list (pe_callL (E := fun _ _ _ => False) (i := 1) LF (fun pins σ H s I => cells_later C1 rfl I) hr (Nat.le_refl _) pass0 rfl (.inl rfl) (pa_cons (pv 6) pa_nil))) (pg_tup (by rfl) (pgs_cons (pg_name (i := 7) scExplored.nd rfl (.inl rfl)) (pgs_cons (pg_name (i := 8) scExplored.nd rfl (.inl rfl)) pgs_nil)))
          (pss_one (ps_if (pt_cmp (pc_dnotin hu (pv 8) (pv 3))) (pss_cons (ps_dput hu (pv 3) (pv 8) (pe_tup (pa_cons (pv 6) (pa_cons (pv 7) pa_nil))) rfl) (pss_one (ps_expr (pe_bm PySem.F.plainAttrs_list PySem.F.slot_list_append PySem.F.type_list_append mt_append (pv 4) (pa_cons (pv 8) pa_nil))))) pss_nil)))
        (pss_one (ps_aug (i := 5) scExplored.nd rfl (.inl rfl) pe_int ip_add))))))
      (pss_one (ps_ret (pe_tup (pa_cons (pv 3) (pa_cons pe_non pa_nil)))))))), ?_⟩
    have sz1 : (1 : Nat) ≤ sizeLine := by decide
    have sz2 : (2 : Nat) ≤ sizeLine := by decide
    refine fun b nb => ⟨_, rfl, upd_same, [(keyI first, V.non)], rfl, by show 1 ≤ 15; decide, ?_⟩
    have x1 : Ext H (upd (upd H b (.dK [])) b (.dK (mergeK [] [(keyI first, V.non)]))) := fun a o e => by
      rw [upd_ne (ne_of_none e nb), upd_ne (ne_of_none e nb)]
      exact e
    have h1 : (upd (upd H b (.dK [])) b (.dK (mergeK [] [(keyI first, V.non)]))) b = some (.dK [(keyI first, V.non)]) := upd_same
    generalize upd (upd H b (.dK [])) b (.dK (mergeK [] [(keyI first, V.non)])) = H1 at x1 h1 ⊢
    refine ⟨_, rfl, sz1, fun q nq => ?_⟩
    have x2 := Ext.new nq (o := .lst [V.int first])
    have h2 : (upd H1 q (.lst [V.int first])) q = some (.lst (([first] : List Nat).map fun n => V.int (n : Nat))) := upd_same
    have nqH := x1.free nq
    have nbq : b ≠ q := ne_of_none h1 nq
    have hb2 := x2 _ _ h1
    have x02 := x1.trans x2
    generalize upd H1 q (.lst [V.int first]) = H2 at x02 h2 hb2 ⊢
    refine ⟨ExpW H fl f2 b q first N g, ⟨_, none, none, none, 0, [first], _, rfl, rfl, x02, h2, hb2, rfl, by simp, by simpa using fN, by simp, rfl⟩, ?_⟩
    rintro m σ H3 ⟨v6, v7, v8, i, Lq, kvs, rfl, rfl, x3, hq, hb, hk, nd, lt, le, run⟩
    have lN := nodup_len nd lt
    have n100 := gk.n
    refine ⟨_, rfl, _, rfl, q, _, rfl, .inl (SqL.of hq), _, _, rfl, rfl, _, rfl, ?_⟩
    rw [List.length_map]
    refine ite2 (fun c => ?_) (fun c => ?_)
    · have c : i < Lq.length := by have := of_decide_eq_true c; omega
      obtain ⟨x, hx⟩ : ∃ x, Lq[i]? = some x := ⟨Lq[i], List.getElem?_eq_getElem c⟩
      have xN := lt x (List.mem_of_getElem? hx)
      refine ⟨ExpW H fl f2 b q first N g (N - i), fun σ' H' h => ⟨_, by omega, h⟩, ?_⟩
      refine ⟨_, rfl, _, rfl, q, _, _, .int x, rfl, rfl, SqL.of hq, atI_nat (by rw [List.getElem?_map, hx]; rfl), ?_⟩
      refine ⟨f2, rfl, x3 _ _ hf2, _, rfl, x3 _ _ hf2, x3 _ _ hc2, _, rfl, false, rfl, iteF ?_⟩
      refine ⟨fl, rfl, x3 _ _ hf, _, rfl, x3 _ _ hf, x3 _ _ hc, imp _ _ _ _ ⟨x, rfl, xN, gk.st _ _ (ExtN.of x3) hG, fun H4 p ts x4 np hp hts => ?_⟩⟩
      have x04 := x3.trans x4
      have gl := gk.lt x xN
      have g100 := gk.le x
      refine ⟨p, rfl, ⟨_, SqL.of hp⟩, ?_⟩
      refine for_it (walk_list (xs := ts.map V.ref)) (fun j σ H' => ∃ v7 v8 kvs, σ = [some (.int first), some (.ref fl), some (.ref f2), some (.ref b), some (.ref q), some (.int i), some (.int x), v7, v8] ∧ Ext H H' ∧ H' p = some (.lst (ts.map V.ref)) ∧ LeadsAt H' ts (g x) ∧
          H' q = some (.lst ((addNew Lq ((g x).take j)).map fun n => V.int (n : Nat))) ∧ H' b = some (.dK kvs) ∧ kvs.map (·.1) = (addNew Lq ((g x).take j)).map keyI)
        ⟨v7, v8, kvs, rfl, x04, hp, hts, x4 _ _ hq, x4 _ _ hb, hk⟩ (fun j σ H' _ ⟨_, _, _, _, _, h, _⟩ => SqL.of h) ?_ ?_
      · rintro j y σ H5 H6 hj ⟨v7, v8, kvs, rfl, x5, hp5, ht5, hq5, hb5, hk5⟩ ⟨rfl, hy⟩
        obtain ⟨t, htj, rfl⟩ := at_map hy
        obtain ⟨e, he, hte⟩ := ht5.at_ htj
        have ha := gl e (List.mem_of_getElem? he)
        have ok5 := addNew_ok (N := N) nd lt (l := (g x).take j) fun e he => gl e (List.mem_of_mem_take he)
        have l5 := nodup_len ok5.1 ok5.2.1
        have lk5 : kvs.length = (addNew Lq ((g x).take j)).length := by
          have := congrArg List.length hk5
          rwa [List.length_map, List.length_map] at this
        refine ⟨t, _, rfl, SqT.of hte, rfl, _, _, rfl, _, _, rfl, rfl, ?_⟩
        refine ⟨_, rfl, _, rfl, b, _, rfl, DGet.k (k := keyI e.2) hb5, _, rfl, ?_⟩
        rw [val_key hk5]
        have en : addNew Lq ((g x).take (j + 1)) = if e.2 ∈ addNew Lq ((g x).take j) then addNew Lq ((g x).take j) else addNew Lq ((g x).take j) ++ [e.2] := by
          rw [take_more he, addNew_append, addNew_one]
        by_cases ce : e.2 ∈ addNew Lq ((g x).take j)
        · rw [decide_eq_true ce]
          refine iteF ⟨_, _, kvs, rfl, x5, hp5, ht5, ?_, hb5, ?_⟩
          · rw [en, if_pos ce]
            exact hq5
          · rw [en, if_pos ce]
            exact hk5
        · rw [decide_eq_false ce]
          refine iteT ⟨_, rfl, _, rfl, sz2, fun T nT => ⟨_, rfl, _, rfl, b, _, rfl, DPut.k (k := keyI e.2) (Ext.new nT _ _ hb5) (small_l (by omega)), ?_⟩⟩
          have nv : valV kvs (keyI e.2) = none := by
            have := val_key hk5 e.2
            rw [decide_eq_false ce] at this
            cases z : valV kvs (keyI e.2) with
            | none => rfl
            | some v =>
              rw [z] at this
              cases this
          have bT : b ≠ T := ne_of_none hb5 nT
          have keep : ∀ c o, H6 c = some o → c ≠ b → (upd (upd H6 T (.tup [.int x, .str e.1])) b (.dK (putK kvs (keyI e.2) (.ref T)))) c = some o := fun c o h n => by
            rw [upd_ne n]
            exact Ext.new nT _ _ h
          have tk : ∀ t xs, H6 t = some (.tup xs) → (upd (upd H6 T (.tup [.int x, .str e.1])) b (.dK (putK kvs (keyI e.2) (.ref T)))) t = some (.tup xs) := fun t xs h => keep t _ h (ne_of h hb5 (by intro z; cases z))
          have hb7 : (upd (upd H6 T (.tup [.int x, .str e.1])) b (.dK (putK kvs (keyI e.2) (.ref T)))) b = some (.dK (putK kvs (keyI e.2) (.ref T))) := upd_same
          have hq7 := keep _ _ hq5 nbq.symm
          have hp7 := keep _ _ hp5 (ne_of hp5 hb5 (by intro z; cases z))
          have x7 : Ext H (upd (upd H6 T (.tup [.int x, .str e.1])) b (.dK (putK kvs (keyI e.2) (.ref T)))) := fun c o h => keep _ _ (x5 _ _ h) (ne_of_none h nb)
          have t7 := ht5.ext tk
          generalize upd (upd H6 T (.tup [.int x, .str e.1])) b (.dK (putK kvs (keyI e.2) (.ref T))) = H7 at hb7 hq7 hp7 x7 t7 ⊢
          refine ⟨_, rfl, .inl ⟨rfl, _, SqL.of hq7⟩, _, rfl, q, _, _, rfl, rfl, hq7, by rw [List.length_map]; exact small_l (by omega), ?_⟩
          have npq : p ≠ q := fun z => by
            rw [z, hq] at np
            cases np
          refine ⟨_, _, putK kvs (keyI e.2) (.ref T), rfl, fun c o h => ?_, ?_, ?_, ?_, ?_, ?_⟩
          · rw [upd_ne (ne_of_none h nqH)]
            exact x7 _ _ h
          · rw [upd_ne npq]
            exact hp7
          · exact t7.ext fun t xs h => by
              rw [upd_ne (ne_of h hq7 (by intro z; cases z))]
              exact h
          · rw [upd_same, en, if_neg ce, List.map_append]
            rfl
          · rw [upd_ne nbq]
            exact hb7
          · rw [en, if_neg ce, putK_new _ nv, List.map_append, List.map_append, hk5]
            rfl
      · rintro σ H5 ⟨v7, v8, kvs, rfl, x5, hp5, ht5, hq5, hb5, hk5⟩
        rw [List.length_map, hts.len, List.take_length] at hq5 hk5
        have ok5 := addNew_ok (N := N) nd lt (l := g x) gl
        refine ⟨_, rfl, _, _, rfl, rfl, ?_⟩
        refine ⟨some (.int x), v7, v8, i + 1, addNew Lq (g x), kvs, by omega, ?_, x5, hq5, hb5, hk5, ok5.1, ok5.2.1, by have := ok5.2.2; omega, ?_⟩
        · rfl
        · rw [← run, show N + 1 - i = (N + 1 - (i + 1)) + 1 by omega, bfs_step hx]
    · have c : Lq.length ≤ i := by
        have := of_decide_eq_false (Bool.not_eq_true _ ▸ c)
        omega
      rw [bfs_end c] at run
      refine ⟨_, rfl, sz2, fun t nt => kk _ t b kvs (x3.trans (Ext.new nt)) (x3.free nt) upd_same nb (Ext.new nt _ _ hb) ?_⟩
      rw [hk, run]
end
end Sl
/-! ## V3 -/
set_option Elab.async false
set_option linter.all false
set_option maxRecDepth 100000
set_option maxHeartbeats 4000000
set_option pp.maxSteps 1500
set_option pp.deepTerms false
/-! reached -/
namespace Sl
open PySem PySem.Spec PyProof.Rows L2 LamX NdefX
/-- what the making of lambdas in a def asks: its code object, its table, the name -/
structure Lams (base : Heap) (mg : Str → Option Value) (T : List (Addr × Str)) (fd : FuncData) (nm : Str) : Prop where
  ex : ∃ c Tb, fd.code = .ref c ∧ TabB base mg c Tb ∧ (Tb, nm) ∈ T ∧ ∀ p ∈ T, p.1 = Tb → p.2 = nm
def spReached (P : Program) (w : World) (K : PySem.W.Frag) (mg : Str → Option Value) (base : Heap) (T : List (Addr × Str)) (k : Nat) : List (Str × Addr) → List Str → List (Option V) → Sp := fun cl fr ws vs H Q _ => ∃ (f : Addr) (F : LF) (first N : Nat) (G : Hp → Prop) (g : Gr), vs = [.int first, .ref f] ∧
  H f = some (LamO f F) ∧ H F.c = some (CodeO F.c F.qual) ∧ F.cl = cl ∧ LeadL P w K mg base k G g N F fr ws ∧ Tabs T H ∧ G H ∧ GrOk G g N ∧ first < N ∧
  ∀ (H' : Hp) (p : Addr), ExtN H H' → (∀ b, H' b = none → H b = none) → Tabs T H' → H p = none → H' p = some (.lst ((reachedL g N first).map fun n => V.int (n : Nat))) → Q (.ref p) H'
abbrev nReached : List Str := ["first", "leads", "before", "_"]
theorem keys_ints {kvs : List (Key × V)} {l : List Nat} (h : kvs.map (·.1) = l.map keyI) : kvs.map (fun kv => kV kv.1) = l.map fun n => V.int (n : Nat) := by
  have e : kvs.map (fun kv => kV kv.1) = (kvs.map (·.1)).map kV := by rw [List.map_map]; rfl
  rw [e, h, List.map_map]
  rfl
section
variable {P : Program} {w : World} {K : PySem.W.Frag} {mg : Str → Option Value} {base : Heap}
theorem scReached : FnScope nReached ["first", "leads"] (defScope sReached) := ⟨rfl, rfl, rfl, by decide +kernel, rfl, by decide +kernel, by decide +kernel⟩
theorem ok_reached {k : Nat} {T : List (Addr × Str)} {f fE : Addr} {fd fdE : FuncData} (Fn : Fun K "reached" "reached" sReached f fd) (LM : Lams base mg T fd "reached.<locals>.<lambda>") (aE : At K mg "explored" fE fdE ["first", "leads", "is_goal"] []) (gE : FnV P w K mg base CX0 (k + 2) fE fdE ["first", "leads", "is_goal"] (spExplored P w K mg base (k + 1)))
    (zl : mg "list" = none) : FnV P w K mg base CX0 (k + 3) f fd ["first", "leads"] (spReached P w K mg base T (k + 1)) := by
  obtain ⟨c, Tb, hcode, TB, hmT, hu⟩ := LM.ex
  refine Sl.Fun.okV Fn scReached (fun cl fr ws vs H Q E h => ?_) (fun A0 outer s H vs cl fr ws Q E hr C h => ?_)
  · obtain ⟨f, F, first, N, G, g, rfl, _⟩ := h
    rfl
  · obtain ⟨fl, F, first, N, G, g, rfl, hf, hc, ecl, LL, hT, hG, gk, fN, kk⟩ := h
    refine ⟨_, pss_cons (ps_asg (pe_callV (cl := fun _ => cl) (fr := fr) (ws := fun _ => ws) (E := fun _ _ _ => False) gE (fun pins σ H s I => cellsF_later C rfl rfl rfl I) hr (by rfl) aE.g aE.kp aE.b pass0
        (pa_cons (pv 0) (pa_cons (pv 1) (pa_cons (pe_lamV (T := T) TB hcode hmT hu rfl (fun y hy e => by
          rcases List.mem_singleton.mp hy with rfl
          cases e)) pa_nil)))) (pg_tup (by rfl) (pgs_cons (pg_name (i := 2) scReached.nd rfl (.inl rfl)) (pgs_cons (pg_name (i := 3) scReached.nd rfl (.inl rfl)) pgs_nil))))
      (pss_one (ps_ret (pe_callTy (call_listD rfl) (by rfl) zl (by decide +kernel) (pa_cons (pv 2) pa_nil)))), ?_⟩
    refine ⟨_, rfl, _, rfl, hT, fun f2 c2 H1 x1 nn T1 nf2 hf2 hc2 => ?_⟩
    refine ⟨fl, f2, F, _, "node", first, N, G, g, rfl, x1 _ _ hf lamO_ne, x1 _ _ hc codeO_ne, ecl, LL, hf2, hc2, rfl, ?_, gk.st _ _ x1 hG, gk, fN, fun H2 t b kvs x2 nt ht nb hb hk => ?_⟩
    · refine lok_of (N := ["node"]) (nscope_by (by rfl)) (fun pm ctv us hl => match us, hl with | [_], _ => rfl) (fun ws vs H Q E h => ?_) (fun f A outer s H vs ws Q E hr hf hc hl h => ?_)
      · obtain ⟨x, rfl, _⟩ := h
        rfl
      · obtain ⟨x, rfl, q⟩ := h
        exact ⟨_, pe_bl, q⟩
    · refine ⟨t, _, rfl, SqT.of ht, rfl, _, _, rfl, _, _, rfl, rfl, ?_⟩
      refine ⟨_, rfl, b, kvs, rfl, Rd.of hb, fun p np => ?_⟩
      have x12 : ExtN H H2 := x1.trans (ExtN.of x2)
      refine kk _ p (x12.trans (ExtN.of (Ext.new np))) (fun b e => nn _ (x2.free ((Ext.new np).free e))) ((T1.ext x2).ext (Ext.new np)) (nn _ (x2.free np)) ?_
      rw [upd_same, keys_ints hk]
end
end Sl
/-! ## V5 -/
set_option Elab.async false
set_option linter.all false
set_option maxRecDepth 100000
set_option maxHeartbeats 4000000
/-! a local that a dict comprehension is stored to on one line; dict comprehensions by their walks -/
namespace Sl
open PySem PySem.Spec PyProof.Rows L2
section
variable {X : Cx}
theorem sw_trueD {kx vx : Expr} {gens : List Comprehension} {sc : Scope} {pos py : Pos} {y : Str} {l : Nat} {env : Env} (h1 : env.scope.kind = .function) (h2 : env.scope.names.lookup y = some .local) (h3 : (py.line == pos.line) = true)
    (h4 : (sc.names.any fun (n, k) => n == y && (k == .local || k == .cell)) = false) : swapsWith (.DictComp kx vx gens sc pos) (some (.Name y py)) l env = pure true := by
  have e1 : env.kindOf y = some .local := h2
  have e2 : env.blockKind = .function := by
    unfold Env.blockKind
    rw [h1]
    rfl
  simp only [swapsWith, e2, e1, h4, Expr.pos, h3]
  rfl
theorem ps_setDc {i : Nat} {y : Str} {py : Pos} {kx vx tg iter : Expr} {ifs : List Expr} {sc : Scope} {own : List (Str × Nat)} {pos spos : Pos} {wi : TI} {g : TG} {tt : TT} {tk tv : TE} (calm : X.calm = true) (nd : X.N.Nodup) (hy : X.N[i]? = some y) (hl : X.env.scope.names.lookup y = some .local)
    (sw : swapsWith (.DictComp kx vx [⟨tg, iter, ifs, 0⟩] sc pos) (some (.Name y py)) spos.line X.env = pure true) (hi : PI X tg iter wi) (ok : BlkOk X.N X.env.scope sc own)
    (hg : ∀ (s : Shared) (H : Hp) (C : Addr) (cl : List (Str × Addr)) (fp : List Addr), PG (X.blk s H sc (compEnvC sc cl C X.env) fp) tg g) (ht : ∀ (s : Shared) (H : Hp) (C : Addr) (cl : List (Str × Addr)) (fp : List Addr), PTs (X.blk s H sc (compEnvC sc cl C X.env) fp) ifs tt)
    (hk : ∀ (s : Shared) (H : Hp) (C : Addr) (cl : List (Str × Addr)) (fp : List Addr), PE (X.blk s H sc (compEnvC sc cl C X.env) fp) kx tk) (hv : ∀ (s : Shared) (H : Hp) (C : Addr) (cl : List (Str × Addr)) (fp : List Addr), PE (X.blk s H sc (compEnvC sc cl C X.env) fp) vx tv)
    (hs : ∀ x, foldedSetIterable iter X.env x = pure x := by intro _; rfl) : PS X (.Assign [.Name y py] (.DictComp kx vx [⟨tg, iter, ifs, 0⟩] sc pos) spos) (tAsg (tDc wi g tt tk tv (own.map (·.2))) (gName i)) := by
  refine ⟨fun pins s σ H D I told => ?_⟩
  rw [exec_Assign_Name_used _ _ _ _ sw]
  refine wpAny_bind (wpAny_standAt (wpAny_bind ?_))
  show wpAny _ X.A (do let _ ← comprehension (.DictComp kx vx [⟨tg, iter, ifs, 0⟩] sc pos) sc X.env (firstIterPos [⟨tg, iter, ifs, 0⟩] pos) newDict false (eval iter X.env) (some (assign (.Name y py) X.env))) _ _ s
  have told' : tDc wi g tt tk tv (own.map (·.2)) σ H (fun x H1 => gName i x σ H1 D.nx) := told
  refine wpAny_bind (thn (dc_core (Qf := fun _ s' => SP X pins D .next s') calm nd I hi ok hg ht hk hv hs told' fun L C s' m H' J q ns fp => ?_) fun _ s' done => wpAny_pure (wpAny_pure done))
  show wpAny _ _ (assign (.Name y py) X.env (.ref L)) _ _ _
  obtain ⟨f0, f1, f2, f3, f4, f5⟩ := fp
  refine wpAny_assign_Name (store_ok2 (v := V.ref L) J nd hy (.inl hl) rfl (fun s2 J2 ⟨a, sb, ha⟩ => ?_) (.inr hl))
  have apart : C ≠ a := by
    rcases ha with z | z
    · rw [z]
      exact f1
    · exact fun e => f4 y a z e.symm
  exact ⟨m, ns.sameBut sb apart, fun h3 sb3 => ⟨_, H', J2.turned (t' := s2.toks) (fun b o hb e => (sb3.2 b hb).trans e) f0 f1 f3 f4 f5, q⟩⟩
end
theorem dcW {J : It} {n : Nat} {G : Hp → Prop} {Y : Nat → Hp → V → Hp → Prop} (w : Walk J n G Y) {g : TG} {tt : TT} {tk tv : TE} {vs : List Nat} {σ : L2.St} {H1 : Hp} {D : Addr} {Qd : Hp → Prop} (Pv : Nat → Hp → Prop) (h0 : Pv 0 (upd H1 D (.dK []))) (hG : ∀ i H, i ≤ n → Pv i H → G H)
    (hs : ∀ i x H H', i < n → Pv i H → Y i H x H' → g x (wipe σ vs) H' fun σ2 H2 => wipe σ2 vs = wipe σ vs ∧ tt σ2 H2 fun b H3 =>
      if b = true then tk σ2 H3 fun y H4 => tv σ2 H4 fun z H5 => ∃ kvs k, y = kV k ∧ H5 D = some (.dK kvs) ∧ kvs.length < sizeLine ∧ Pv (i + 1) (upd H5 D (.dK (putK kvs k z))) else Pv (i + 1) H3) (hd : ∀ H, Pv n H → Qd H) :
    ∃ W : Nat → Nat → Hp → Prop, (∃ m, W 0 m (upd H1 D (.dK []))) ∧ ∀ i m H, W i m H →
      (J.stop i H ∧ Qd H) ∨ (J.go i H ∧ ∃ Nx : Hp → Prop, (∀ H', Nx H' → ∃ m', m' < m ∧ W (i + 1) m' H') ∧ ∀ x H', J.yld i H x H' → g x (wipe σ vs) H' fun σ2 H2 => wipe σ2 vs = wipe σ vs ∧ tt σ2 H2 fun b H3 =>
        if b = true then tk σ2 H3 fun y H4 => tv σ2 H4 fun z H5 => ∃ kvs k, y = kV k ∧ H5 D = some (.dK kvs) ∧ kvs.length < sizeLine ∧ Nx (upd H5 D (.dK (putK kvs k z))) else Nx H3) := by
  refine ⟨fun i m H => m = n - i ∧ i ≤ n ∧ Pv i H, ⟨n, by simp, Nat.zero_le _, h0⟩, fun i m H z => ?_⟩
  obtain ⟨rfl, hi, p⟩ := z
  by_cases hlt : i < n
  · exact .inr ⟨w.goes i H hlt (hG i H hi p), Pv (i + 1), fun H' p' => ⟨n - (i + 1), by omega, rfl, hlt, p'⟩, fun x H' y => hs i x H H' hlt p (w.yields i H x H' hlt (hG i H hi p) y)⟩
  · obtain rfl : i = n := by omega
    exact .inl ⟨w.stops H (hG i H hi p), hd H p⟩
end Sl
/-! ## B1 -/
set_option Elab.async false
set_option linter.all false
set_option maxRecDepth 100000
set_option maxHeartbeats 4000000
/-! ascending lists of texts: two of the same texts are the same -/
namespace Sl
open PySem PySem.Spec PyProof.Rows
theorem cps_irr : ∀ a : List Nat, ltCps a a = false
  | [] => rfl
  | x :: a => by
    show (decide (x < x) || (x == x && ltCps a a)) = false
    rw [cps_irr a]
    simp
theorem cps_anti : ∀ {a b : List Nat}, ltCps a b = false → ltCps b a = false → a = b
  | [], [], _, _ => rfl
  | [], _ :: _, h, _ => by cases h
  | _ :: _, [], _, h => by cases h
  | x :: a, y :: b, h, k => by
    have h : (decide (x < y) || (x == y && ltCps a b)) = false := h
    have k : (decide (y < x) || (y == x && ltCps b a)) = false := k
    simp only [Bool.or_eq_false_iff, decide_eq_false_iff_not, Bool.and_eq_false_iff, beq_eq_false_iff_ne] at h k
    have e : x = y := by omega
    subst e
    rw [cps_anti (h.2.resolve_left fun z => z rfl) (k.2.resolve_left fun z => z rfl)]
theorem cps_trans : ∀ {a b c : List Nat}, ltCps b a = false → ltCps c b = false → ltCps c a = false
  | [], _, [], _, _ => rfl
  | [], [], _ :: _, _, k => by cases k; rfl
  | [], _ :: _, _ :: _, _, _ => rfl
  | _ :: _, [], _, h, _ => by cases h
  | _ :: _, _ :: _, [], _, k => by cases k
  | x :: a, y :: b, z :: c, h, k => by
    have h : (decide (y < x) || (y == x && ltCps b a)) = false := h
    have k : (decide (z < y) || (z == y && ltCps c b)) = false := k
    show (decide (z < x) || (z == x && ltCps c a)) = false
    simp only [Bool.or_eq_false_iff, decide_eq_false_iff_not, Bool.and_eq_false_iff, beq_eq_false_iff_ne] at h k ⊢
    refine ⟨by omega, ?_⟩
    by_cases e : z = x
    · refine .inr ?_
      have e1 : y = x := by omega
      have e2 : z = y := by omega
      exact cps_trans (h.2.resolve_left fun q => q e1) (k.2.resolve_left fun q => q e2)
    · exact .inl e
/-- a is not behind b -/
def leS (a b : Str) : Prop := ltCps b.cps.toList a.cps.toList = false
theorem leS_anti {a b : Str} (h : leS a b) (k : leS b a) : a = b := by
  have e : b.cps.toList = a.cps.toList := cps_anti h k
  have e2 : b.cps = a.cps := Array.toList_inj.mp e
  cases a
  cases b
  cases e2
  rfl
theorem leS_trans {a b c : Str} (h : leS a b) (k : leS b c) : leS a c := cps_trans h k
theorem pair_of_rising : ∀ {l : List Str} {p : Str}, risingS p l = true → (p :: l).Pairwise leS
  | [], p, _ => List.pairwise_singleton _ _
  | x :: l, p, h => by
    have h : (!ltCps x.cps.toList p.cps.toList && risingS x l) = true := h
    obtain ⟨h1, h2⟩ := Bool.and_eq_true_iff.mp h
    have hx : leS p x := by
      unfold leS
      cases e : ltCps x.cps.toList p.cps.toList with
      | false => rfl
      | true =>
        rw [e] at h1
        cases h1
    have ih := pair_of_rising h2
    refine List.pairwise_cons.mpr ⟨fun y hy => ?_, ih⟩
    rcases List.mem_cons.mp hy with rfl | hy
    · exact hx
    · exact leS_trans hx ((List.pairwise_cons.mp ih).1 y hy)
theorem pair_of_sorted : ∀ {l : List Str}, sortedS l = true → l.Pairwise leS
  | [], _ => .nil
  | _ :: _, h => pair_of_rising h
theorem asc_unique {α : Type} {r : α → α → Prop} : ∀ {l m : List α}, (∀ a ∈ l, ∀ b ∈ l, r a b → r b a → a = b) → l.Pairwise r → m.Pairwise r → l.Perm m → l = m
  | [], m, _, _, _, p => (p.symm.eq_nil).symm
  | x :: l, [], _, _, _, p => by cases p.eq_nil
  | x :: l, y :: m, anti, h, k, p => by
    obtain ⟨h1, h2⟩ := List.pairwise_cons.mp h
    obtain ⟨k1, k2⟩ := List.pairwise_cons.mp k
    have e : x = y := by
      have hx : x ∈ y :: m := p.mem_iff.mp List.mem_cons_self
      have hy : y ∈ x :: l := p.mem_iff.mpr List.mem_cons_self
      rcases List.mem_cons.mp hx with q | q
      · exact q
      rcases List.mem_cons.mp hy with q2 | q2
      · exact q2.symm
      exact anti x List.mem_cons_self y (List.mem_cons_of_mem _ q2) (h1 y q2) (k1 x q)
    subst e
    rw [asc_unique (fun a ha b hb => anti a (List.mem_cons_of_mem _ ha) b (List.mem_cons_of_mem _ hb)) h2 k2 ((List.perm_cons x).mp p)]
theorem sorted_unique {l m : List Str} (h : sortedS l = true) (k : sortedS m = true) (p : l.Perm m) : l = m := asc_unique (fun _ _ _ _ => leS_anti) (pair_of_sorted h) (pair_of_sorted k) p
theorem ints_unique {l m : List Int} (h : l.Pairwise (· ≤ ·)) (k : m.Pairwise (· ≤ ·)) (p : l.Perm m) : l = m := asc_unique (fun _ _ _ _ a b => Int.le_antisymm a b) h k p
/-- rows of the same entries by ascending keys are the same -/
theorem row_unique {α : Type} {r l m : List (Str × α)} (nd : (r.map (·.1)).Nodup) (pl : l.Perm r) (pm : m.Perm r) (sl : sortedS (l.map (·.1)) = true) (sm : sortedS (m.map (·.1)) = true) : l = m := by
  have inj : ∀ {q : List (Str × α)}, (q.map (·.1)).Nodup → ∀ a ∈ q, ∀ b ∈ q, a.1 = b.1 → a = b := by
    intro q
    induction q with
    | nil => intro _ a ha; cases ha
    | cons x q ih =>
      intro h a ha b hb e
      obtain ⟨h1, h2⟩ := List.nodup_cons.mp h
      rcases List.mem_cons.mp ha with e1 | ha' <;> rcases List.mem_cons.mp hb with e2 | hb'
      · rw [e1, e2]
      · exact (h1 (List.mem_map.mpr ⟨b, hb', by rw [← e, e1]⟩)).elim
      · exact (h1 (List.mem_map.mpr ⟨a, ha', by rw [e, e2]⟩)).elim
      · exact ih h2 a ha' b hb' e
  have ndl : (l.map (·.1)).Nodup := (pl.map _).nodup_iff.mpr nd
  refine asc_unique (r := fun a b => leS a.1 b.1) (fun a ha b hb h k => inj ndl a ha b hb (leS_anti h k)) ?_ ?_ (pl.trans pm.symm)
  · exact List.pairwise_map.mp (pair_of_sorted sl)
  · exact List.pairwise_map.mp (pair_of_sorted sm)
end Sl
/-! ## B2 -/
set_option Elab.async false
set_option linter.all false
set_option maxRecDepth 100000
set_option maxHeartbeats 4000000
/-! a list or a tuple alike: walked, measured, asked for its kind, its ints as a set -/
namespace Sl
open PySem PySem.Spec PyProof.Rows L2
/-- a list (true) or a tuple (false) of these -/
def SqK (K : PySem.W.Frag) (k : Bool) (H : Hp) (a : Addr) (xs : List V) : Prop := match k with
  | true => SqL K H a xs
  | false => SqT K H a xs
def ItK (K : PySem.W.Frag) (k : Bool) (a : Addr) : It := match k with
  | true => Itl K a
  | false => Itt K a
theorem SqK.or {K : PySem.W.Frag} {k : Bool} {H : Hp} {a : Addr} {xs : List V} (h : SqK K k H a xs) : SqL K H a xs ∨ SqT K H a xs := by
  cases k
  · exact .inr h
  · exact .inl h
theorem SqK.l {K : PySem.W.Frag} {H : Hp} {a : Addr} {xs : List V} (h : H a = some (.lst xs)) : SqK K true H a xs := SqL.of h
theorem SqK.t {K : PySem.W.Frag} {H : Hp} {a : Addr} {xs : List V} (h : H a = some (.tup xs)) : SqK K false H a xs := SqT.of h
theorem rd_ext {H H' : Hp} {a : Addr} {o : HO} (x : Ext H H') (h : Rd H a o) : Rd H' a o := by
  rcases h with h | ⟨ob, h⟩
  · exact .inl (x _ _ h)
  · exact .inr ⟨ob, x _ _ h⟩
theorem SqK.ext {K : PySem.W.Frag} {k : Bool} {H H' : Hp} {a : Addr} {xs : List V} (x : Ext H H') (h : SqK K k H a xs) : SqK K k H' a xs := by
  cases k
  · exact h.elim (fun h => .inl (rd_ext x h)) .inr
  · exact h.elim (fun h => .inl (rd_ext x h)) .inr
theorem SqK.keep {K : PySem.W.Frag} {k : Bool} {H H' : Hp} {a p : Addr} {xs : List V} (x : Keep p H H') (n : a ≠ p) (h : SqK K k H a xs) : SqK K k H' a xs := by
  have r : ∀ {o}, Rd H a o → Rd H' a o := fun {o} h => by
    rcases h with h | ⟨ob, h⟩
    · exact .inl (x _ _ h n)
    · exact .inr ⟨ob, x _ _ h n⟩
  cases k
  · exact h.elim (fun h => .inl (r h)) .inr
  · exact h.elim (fun h => .inl (r h)) .inr
theorem walk_seq {K : PySem.W.Frag} {k : Bool} {a : Addr} {xs : List V} : Walk (ItK K k a) xs.length (fun H => SqK K k H a xs) (YAt xs) := by
  cases k
  · exact walk_tup
  · exact walk_list
def iSeq (K : PySem.W.Frag) (te : TE) : TI := fun σ H R => te σ H fun x H1 => ∃ (k : Bool) (a : Addr), x = .ref a ∧ (∃ xs, SqK K k H1 a xs) ∧ R (ItK K k a) H1
theorem pi_seq {X : Cx} {tg e : Expr} {te : TE} (he : PE X e te) : PI X tg e (iSeq X.K te) := by
  refine ⟨fun pins s σ H R I h => thn (he.run pins s σ H _ I h) fun v s1 r => ?_⟩
  obtain ⟨x, H1, J, rv, k, a, rfl, ⟨xs, hs⟩, q⟩ := r
  cases rv
  have nw : ∀ b : Addr, b ∈ [s1.heap.objs.size] → b = s1.heap.objs.size := fun b hb => List.mem_singleton.mp hb
  cases k with
  | true =>
    obtain ⟨us, rs, pl, z⟩ := J.list hs
    refine wpAny_pyIter_list pl.isList ⟨s1.heap.objs.size, [s1.heap.objs.size], _, _, H1, rfl, J.kept (t' := s1.toks) fun b o g => Heap.get?_push_of_some _ g, turn_list a _, ⟨_, Heap.get?_push_size _ rfl, rfl, rfl⟩, fun b hb => ?_, q⟩
    rw [nw b hb]
    exact J.fpOk (Nat.le_refl _) (J.hok.fresh (Nat.le_refl _))
  | false =>
    obtain ⟨us, rs, pl, z⟩ := J.tuple hs
    refine wpAny_pyIter_tuple (show s1.heap.IsTuple a us.toArray from pl) ⟨s1.heap.objs.size, [s1.heap.objs.size], _, _, H1, rfl, J.kept (t' := s1.toks) fun b o g => Heap.get?_push_of_some _ g, turn_tuple a _, ⟨_, Heap.get?_push_size _ rfl, rfl, rfl⟩, fun b hb => ?_, q⟩
    rw [nw b hb]
    exact J.fpOk (Nat.le_refl _) (J.hok.fresh (Nat.le_refl _))
/-- its kind, for isinstance -/
theorem SqK.kind {K : PySem.W.Frag} {k : Bool} {H : Hp} {a : Addr} {xs : List V} (h : SqK K k H a xs) : Is K H (.ref a) (if k then .lst else .tup) := by
  cases k with
  | false =>
    rcases h with (h | ⟨o, h⟩) | ⟨o, its, n, e, c, _⟩
    · exact .base (.tup h)
    · exact .fTuple h
    · exact .kTuple e c
  | true =>
    rcases h with (h | ⟨o, h⟩) | ⟨o, its, n, e, c, _⟩
    · exact .base (.lst h)
    · exact .base (.frz h)
    · exact .kList e c
theorem seq_any {K : PySem.W.Frag} (k : Bool) : PySem.W.kitAny K (.type (if k then Kd.lst else Kd.tup).nm) [.type "list", .type "tuple"] = some true := by
  cases k
  · first | rfl | decide +kernel
  · first | rfl | decide +kernel
/-! ### len(set(..)) of different ints -/
theorem setR_count {w : World} {h : Heap} {a : Addr} {ns : List Int} {c : Nat} (nd : ns.Nodup) (R : SetR w h a (fun j => decide (j ∈ ns)) c) : c = ns.length := by
  obtain ⟨o, es, ep, t, _, _, _, _, ndk, mem, _, _, sz, _⟩ := R
  have p : (es.toList.map keyOf).Perm ns := perm_of_mem ndk nd fun k => by
    rw [← mem k]
    exact decide_eq_true_iff
  have e := p.length_eq
  rw [List.length_map, Array.length_toList] at e
  omega
where
  perm_of_mem : ∀ {l m : List Int}, l.Nodup → m.Nodup → (∀ k, k ∈ l ↔ k ∈ m) → l.Perm m
    | [], [], _, _, _ => .nil
    | [], y :: m, _, _, h => absurd ((h y).mpr List.mem_cons_self) List.not_mem_nil
    | x :: l, m, nl, nm, h => by
      obtain ⟨n1, n2⟩ := List.nodup_cons.mp nl
      have hx := (h x).mp List.mem_cons_self
      have p := List.perm_cons_erase hx
      refine (List.Perm.cons x (perm_of_mem n2 (nm.erase x) fun k => ?_)).trans p.symm
      rw [nm.mem_erase_iff]
      constructor
      · exact fun hk => ⟨fun e => n1 (by rw [← e]; exact hk), (h k).mp (List.mem_cons_of_mem _ hk)⟩
      · rintro ⟨ne, hk⟩
        rcases List.mem_cons.mp ((h k).mpr hk) with e | hk
        · exact absurd e ne
        · exact hk
def tLenSeqI (K : PySem.W.Frag) (ta : TE) : TE := fun σ H Q => ta σ H fun x H1 => ∃ (k : Bool) (a : Addr) (ns : List Int), x = .ref a ∧ SqK K k H1 a (ns.map V.int) ∧ ns.Nodup ∧ ns.length ≤ 1000 ∧ Q (.int (ns.length : Nat)) H1
theorem pe_lenSeqI {X : Cx} {a : Expr} {ta : TE} {p p2 q pos : Pos} (hg : Gl X "len") (hm : X.mg "len" = none) (hg2 : Gl X "set") (hm2 : X.mg "set" = none) (ha : PE X a ta) (hc : X.calm = true := by rfl)
    (na : starEach [a] X.env = (false, eval a X.env) :: starEach [] X.env := by rfl) : PE X (.Call (.Name "len" p) [.Call (.Name "set" p2) [a] [] q] [] pos) (tLenSeqI X.K ta) := by
  refine ⟨fun pins s σ H Q I h => Call_ (ld_blt I hg hm boot_len (callWith_builtin1 (args_cons (Call_ (ld_blt I hg2 hm2 boot_set (callWith_type1 (args_cons (thn (ha.run pins s σ H _ I h) fun v s1 r => args_nil ?_) na) na rfl))) rfl) rfl rfl))⟩
  obtain ⟨x, H1, J, rv, k, b, ns, rfl, hs, nd, sz, c⟩ := r
  cases rv
  cases k with
  | true =>
    obtain ⟨us, rs, pl, z⟩ := J.list hs
    have e : us.toArray.size = ns.length := by rw [List.size_toArray, ← rs.length, List.length_map]
    refine call_set_list (J.ok.hd hc) pl.isList (by simpa using RZ.intsAre_vals rs) (by rw [e]; unfold scanBound; omega) fun h' tk hS hk => args_nil ?_
    rw [e, RZ.firstMet_nodup nd ns.length (Nat.le_refl _), List.take_length] at hS
    obtain ⟨o, es, ep, t, ho, ex, hd, _, _, _, hf, hn⟩ := hS
    have J2 : Inv X pins σ H1 { s1 with heap := h', toks := tk } := J.kept fun d u g => hk d u (Heap.lt_size g) g
    exact call_len_set ho ex hd hf (by rw [hn]; omega) ⟨.int ns.length, H1, J2.tok _, ⟨_, by rw [hn]⟩, c⟩
  | false =>
    obtain ⟨us, rs, pl, z⟩ := J.tuple hs
    refine call_set_tupI ns (J.ok.hd hc) (show s1.heap.IsTuple b us.toArray from pl) (by simpa using RZ.intsAre_vals rs) (by unfold scanBound; omega) fun h' tk cn R le hk => args_nil ?_
    have cnt := setR_count nd R
    obtain ⟨o, es, ep, t, ho, ex, hd, _, _, _, _, hf, hn, _⟩ := R
    have J2 : Inv X pins σ H1 { s1 with heap := h', toks := tk } := J.kept hk
    exact call_len_set ho ex hd hf (by rw [hn]; omega) ⟨.int ns.length, H1, J2.tok _, ⟨_, by rw [hn, cnt]⟩, c⟩
end Sl
/-! ## V4 -/
set_option Elab.async false
set_option linter.all false
set_option maxRecDepth 100000
set_option maxHeartbeats 4000000
set_option pp.maxSteps 1500
set_option pp.deepTerms false
/-! distances_to: all nodes from which a graph leads to goals -/
namespace Sl
open PySem PySem.Spec PyProof.Rows L2 LamX NdefX
abbrev sDist : Stmt := top 14
/-! ### the mathematics -/
/-- the edges, as they are met -/
def edgesN (g : Gr) (n : Nat) : List (Nat × Nat) := (g n).map fun e => (n, e.2)
def edges (g : Gr) (N : Nat) : List (Nat × Nat) := (List.range N).flatMap (edgesN g)
def preL (l : List (Nat × Nat)) (a : Nat) : List Nat := (l.filter fun e => decide (e.2 = a)).map (·.1)
def preG (g : Gr) (N : Nat) : Gr := fun n => (preL (edges g N) n).map fun x => (Str.ofString "", x)
def closeL (g : Gr) (N : Nat) (init : List Nat) : List Nat := bfs g (N + 1) init 0
theorem edges_succ (g : Gr) (n : Nat) : edges g (n + 1) = edges g n ++ edgesN g n := by
  unfold edges
  rw [List.range_succ, List.flatMap_append]
  simp
theorem preL_append (l m : List (Nat × Nat)) (a : Nat) : preL (l ++ m) a = preL l a ++ preL m a := by
  unfold preL
  rw [List.filter_append, List.map_append]
theorem preL_one (x a b : Nat) : preL [(x, a)] b = if a = b then [x] else [] := by
  unfold preL
  by_cases h : a = b
  · simp [h]
  · simp [h]
theorem edges_len {g : Gr} (h : ∀ n, (g n).length ≤ 100) : ∀ N, (edges g N).length ≤ 100 * N
  | 0 => by simp [edges]
  | n + 1 => by
    have ih := edges_len h n
    have := h n
    rw [edges_succ, List.length_append]
    unfold edgesN
    rw [List.length_map]
    omega
theorem edges_lt {g : Gr} {N : Nat} : ∀ e ∈ edges g N, e.1 < N := fun e he => by
  obtain ⟨n, hn, h⟩ := List.mem_flatMap.mp he
  obtain ⟨e', _, rfl⟩ := List.mem_map.mp h
  exact List.mem_range.mp hn
theorem preL_lt {g : Gr} {N a : Nat} : ∀ x ∈ preL (edges g N) a, x < N := fun x hx => by
  obtain ⟨e, he, rfl⟩ := List.mem_map.mp hx
  exact edges_lt e (List.mem_filter.mp he).1
theorem preL_len (l : List (Nat × Nat)) (a : Nat) : (preL l a).length ≤ l.length := by
  unfold preL
  rw [List.length_map]
  exact List.length_filter_le _ _
theorem addNew_sub : ∀ {l : List (Str × Nat)} {q : List Nat} {x : Nat}, x ∈ q → x ∈ addNew q l
  | [], _, _, h => h
  | e :: l, q, x, h => by
    rw [addNew_cons]
    refine addNew_sub ?_
    by_cases c : e.2 ∈ q
    · rw [if_pos c]
      exact h
    · rw [if_neg c]
      exact List.mem_append.mpr (.inl h)
/-! ### the graph as a dict -/
def kvsG (Ls : List Addr) : List (Key × V) := Ls.mapIdx fun i L => (keyI i, V.ref L)
theorem kvsG_snoc (Ls : List Addr) (L : Addr) : kvsG (Ls ++ [L]) = kvsG Ls ++ [(keyI Ls.length, .ref L)] := by
  unfold kvsG
  rw [List.mapIdx_append]
  simp
theorem kvsG_len (Ls : List Addr) : (kvsG Ls).length = Ls.length := by simp [kvsG]
theorem kvsG_at {Ls : List Addr} {i : Nat} {k : Key} {v : V} (h : (kvsG Ls)[i]? = some (k, v)) : ∃ L, Ls[i]? = some L ∧ k = keyI i ∧ v = .ref L := by
  unfold kvsG at h
  rw [List.getElem?_mapIdx] at h
  cases e : Ls[i]? with
  | none =>
    rw [e] at h
    cases h
  | some L =>
    rw [e] at h
    injection h with h
    obtain ⟨h1, h2⟩ := Prod.mk.inj h
    exact ⟨L, rfl, h1.symm, h2.symm⟩
/-- the lists of leads -/
def LsAt (H : Hp) (g : Gr) (Ls : List Addr) : Prop := ∀ i L, Ls[i]? = some L → ∃ ts, H L = some (.lst (ts.map V.ref)) ∧ LeadsAt H ts (g i)
/-- the nodes ahead of which node: for each one a list of its own -/
structure AheadF (H0 H : Hp) (b : Addr) (l : List (Nat × Nat)) (kvs : List (Key × V)) (Lf : Nat → Option Addr) : Prop where
  d : H b = some (.dK kvs)
  le : kvs.length ≤ l.length
  v : ∀ a, valV kvs (keyI a) = (Lf a).map V.ref
  at_ : ∀ a L, Lf a = some L → H0 L = none ∧ L ≠ b ∧ H L = some (.lst ((preL l a).map fun n => V.int (n : Nat)))
  no : ∀ a, Lf a = none → preL l a = []
  inj : ∀ a a' L, Lf a = some L → Lf a' = some L → a = a'
theorem AheadF.nil {H0 H : Hp} {b : Addr} (h : H b = some (.dK [])) : AheadF H0 H b [] [] fun _ => none := ⟨h, Nat.le_refl _, fun _ => rfl, fun _ _ e => (nomatch e), fun _ _ => rfl, fun _ _ _ e => (nomatch e)⟩
theorem AheadF.hit {H0 H : Hp} {b : Addr} {l : List (Nat × Nat)} {kvs : List (Key × V)} {Lf : Nat → Option Addr} (F : AheadF H0 H b l kvs Lf) {x a : Nat} {L M : Addr} (hL : Lf a = some L) (nM : H M = none) :
    AheadF H0 (upd (upd H M (.lst [])) L (.lst ((preL l a).map (fun n => V.int (n : Nat)) ++ [V.int (x : Nat)]))) b (l ++ [(x, a)]) kvs Lf := by
  obtain ⟨h1, h2, h3⟩ := F.at_ a L hL
  refine ⟨?_, by rw [List.length_append]; have := F.le; omega, F.v, fun c P hP => ?_, fun c hc => ?_, F.inj⟩
  · rw [upd_ne (Ne.symm h2)]
    exact Ext.new nM _ _ F.d
  · obtain ⟨k1, k2, k3⟩ := F.at_ c P hP
    refine ⟨k1, k2, ?_⟩
    rw [preL_append, preL_one]
    by_cases e : P = L
    · have ec : c = a := F.inj c a L (by rw [← e]; exact hP) hL
      rw [e, upd_same, ec, if_pos rfl, List.map_append]
      rfl
    · have ec : ¬ a = c := fun z => e (by rw [z, hP] at hL; exact Option.some.inj hL)
      rw [upd_ne e, if_neg ec, List.append_nil]
      exact Ext.new nM _ _ k3
  · rw [preL_append, preL_one, F.no c hc, if_neg fun z => by rw [z, hc] at hL; cases hL]
    rfl
theorem AheadF.new {H0 H : Hp} {b : Addr} {l : List (Nat × Nat)} {kvs : List (Key × V)} {Lf : Nat → Option Addr} (F : AheadF H0 H b l kvs Lf) {x a : Nat} {M : Addr} (hn : Lf a = none) (nM : H M = none) (n0 : H0 M = none) :
    AheadF H0 (upd (upd (upd H M (.lst [])) b (.dK (putK kvs (keyI a) (.ref M)))) M (.lst ([] ++ [V.int (x : Nat)]))) b (l ++ [(x, a)]) (putK kvs (keyI a) (.ref M)) (fun c => if c = a then some M else Lf c) := by
  have nv : valV kvs (keyI a) = none := by rw [F.v, hn]; rfl
  have bM : b ≠ M := ne_of_none F.d nM
  refine ⟨by rw [upd_ne bM, upd_same], ?_, fun c => ?_, fun c P hP => ?_, fun c hc => ?_, fun c c' P h1 h2 => ?_⟩
  · rw [putK_new _ nv, List.length_append, List.length_append]
    have := F.le
    simp
    omega
  · rw [valV_put]
    by_cases e : c = a
    · rw [if_pos e, e, if_pos rfl]
      rfl
    · rw [if_neg e, if_neg fun z => e (by unfold keyI at z; injection z with z; omega)]
      exact F.v c
  · rw [preL_append, preL_one]
    by_cases e : c = a
    · rw [if_pos e] at hP
      obtain rfl := Option.some.inj hP
      refine ⟨n0, bM.symm, ?_⟩
      rw [upd_same, if_pos e.symm, e, F.no a hn]
      rfl
    · rw [if_neg e] at hP
      obtain ⟨k1, k2, k3⟩ := F.at_ c P hP
      refine ⟨k1, k2, ?_⟩
      rw [upd_ne (ne_of_none k3 nM), upd_ne k2, if_neg (Ne.symm e), List.append_nil]
      exact Ext.new nM _ _ k3
  · by_cases e : c = a
    · rw [if_pos e] at hc
      cases hc
    · rw [if_neg e] at hc
      rw [preL_append, preL_one, F.no c hc, if_neg (Ne.symm e)]
      rfl
  · have other : ∀ d P, Lf d = some P → P ≠ M := fun d P h => ne_of_none (F.at_ d P h).2.2 nM
    by_cases e : c = a
    · rw [if_pos e] at h1
      obtain rfl := Option.some.inj h1
      by_cases e' : c' = a
      · rw [e, e']
      · rw [if_neg e'] at h2
        exact absurd rfl (other _ _ h2)
    · rw [if_neg e] at h1
      by_cases e' : c' = a
      · rw [if_pos e'] at h2
        obtain rfl := Option.some.inj h2
        exact absurd rfl (other _ _ h1)
      · rw [if_neg e'] at h2
        exact F.inj _ _ _ h1 h2
def spDist (K : PySem.W.Frag) : Sp := fun vs H Q _ => ∃ (kk : Bool) (gs gr : Addr) (goals : List Nat) (Ls : List Addr) (g : Gr) (N : Nat), vs = [.ref gs, .ref gr] ∧ SqK K kk H gs (goals.map fun n => V.int (n : Nat)) ∧ goals.Nodup ∧ (∀ x ∈ goals, x < N) ∧ H gr = some (.dK (kvsG Ls)) ∧ Ls.length = N ∧ LsAt H g Ls ∧
  N ≤ 100 ∧ (∀ n, n < N → ∀ e ∈ g n, e.2 < N) ∧ (∀ n, (g n).length ≤ 100) ∧
  ∀ (H' : Hp) (d : Addr) (kvs : List (Key × V)), Ext H H' → H d = none → H' d = some (.dK kvs) → kvs.map (·.1) = (closeL (preG g N) N goals).map keyI → Q (.ref d) H'
def DistW (H6 : Hp) (gs gr b D q : Addr) (N : Nat) (p : Gr) (R : List Nat) : Nat → L2.St → Hp → Prop := fun m σ H' => ∃ (v3 v4 v5 v6 v10 : Option V) (i : Nat) (Lq : List Nat) (kvs : List (Key × V)), m = N + 1 - i ∧
  σ = [some (.ref gs), some (.ref gr), some (.ref b), v3, v4, v5, v6, some (.ref D), some (.ref q), some (.int i), v10, none] ∧ Ext H6 H' ∧ H' q = some (.lst (Lq.map fun n => V.int (n : Nat))) ∧ H' D = some (.dK kvs) ∧ kvs.map (·.1) = Lq.map keyI ∧
  (∀ kv ∈ kvs, ∃ d : Int, kv.2 = .int d) ∧ Lq.Nodup ∧ (∀ x ∈ Lq, x < N) ∧ i ≤ Lq.length ∧ bfs p (N + 1 - i) Lq i = R
theorem val_int {kvs : List (Key × V)} {k : Key} {v : V} (h : valV kvs k = some v) (i : ∀ kv ∈ kvs, ∃ d : Int, kv.2 = .int d) : ∃ d : Int, v = .int d := by
  unfold valV at h
  cases e : kvs.find? fun kv => decide (kv.1 = k) with
  | none =>
    rw [e] at h
    cases h
  | some kv =>
    rw [e] at h
    obtain ⟨d, hd⟩ := i kv (List.mem_of_find?_eq_some e)
    exact ⟨d, by rw [← hd]; exact (Option.some.inj h).symm⟩
abbrev nDist : List Str := ["goals", "graph", "ahead", "node", "ways", "_", "after", "distances", "queue", "at", "before", "goal"]
section
variable {P : Program} {w : World} {K : PySem.W.Frag} {mg : Str → Option Value} {base : Heap}
theorem scDist : FnScope nDist ["goals", "graph"] (defScope sDist) := ⟨rfl, rfl, rfl, by decide +kernel, rfl, by decide +kernel, by decide +kernel⟩
theorem ok_dist {f : Addr} {fd : FuncData} (Fn : Fun K "distances_to" "distances_to" sDist f fd) (zn : mg "len" = none) (zl : mg "list" = none) : FnOk P w K mg base CX0 1 f fd ["goals", "graph"] (spDist K) := by
  refine Fun.ok Fn scDist (fun vs H Q E h => ?_) (fun cdv A0 outer s H vs Q E hr h => ?_)
  · obtain ⟨kb, gs, gr, goals, Ls, g, N, rfl, _⟩ := h
    rfl
  · obtain ⟨kb, gs, gr, goals, Ls, g, N, rfl, hgs, ndg, ltg, hgr, lLs, hLs, n100, glt, gle, kk⟩ := h
    have hu := hu_of hr
    refine ⟨_, pss_cons (ps_set (i := 2) scDist.nd rfl (.inl rfl) pe_dnewK)
      (pss_cons (ps_lock (ps_for PassesOwn.never rfl (pi_items (pv 1)) (pg_tup (by rfl) (pgs_cons (pg_name (i := 3) scDist.nd rfl (.inl rfl)) (pgs_cons (pg_name (i := 4) scDist.nd rfl (.inl rfl)) pgs_nil)))
        (pss_one (ps_for PassesOwn.never rfl (pi_list (pv 4)) (pg_tup (by rfl) (pgs_cons (pg_name (i := 5) scDist.nd rfl (.inl rfl)) (pgs_cons (pg_name (i := 6) scDist.nd rfl (.inl rfl)) pgs_nil)))
          (pss_one (ps_expr (pe_bm PySem.F.plainAttrs_list PySem.F.slot_list_append PySem.F.type_list_append mt_append (pe_dsetd (pv 2) (pv 6) (pe_lst pa_nil) ⟨rfl, rfl, rfl, rfl⟩) (pa_cons (pv 3) pa_nil))))))))
      (pss_cons (ps_setDc (i := 7) (own := [("goal", 11)]) (g := gName 11) (tt := tYes) (tk := tVar 11) (tv := tC (.int 0)) rfl scDist.nd rfl rfl (sw_trueD rfl rfl rfl (by decide +kernel)) (pi_seq (pv 0)) (blkOk_by (N := nDist) (sc := defScope sDist) (by decide +kernel))
          (fun _ _ _ _ _ => pg_name (i := 11) scDist.nd rfl (Or.inl rfl)) (fun _ _ _ _ _ => pts_nil) (fun _ _ _ _ _ => pv 11) (fun _ _ _ _ _ => pe_int))
      (pss_cons (ps_set (i := 8) scDist.nd rfl (.inl rfl) (pe_callTy call_list_of (by rfl) zl (by decide +kernel) (pa_cons (pv 0) pa_nil)))
      (pss_cons (ps_set (i := 9) scDist.nd rfl (.inl rfl) pe_int)
      (pss_cons (ps_while PassesOwn.never (pt_cmpR op_lt (pv 9) (pe_callB call_len_seq (by rfl) zn PySem.boot_len (pa_cons (pv 8) pa_nil)) (nomark _))
        (pss_cons (ps_set (i := 3) scDist.nd rfl (.inl rfl) (pe_ix ix_list (pv 8) (pv 9) (fun _ _ => rfl)))
        (pss_cons (ps_for PassesOwn.never rfl (pi_list (pe_dget2 hu (pv 2) (pv 3) (pe_lst pa_nil) ⟨rfl, rfl, rfl, rfl⟩)) (pg_name (i := 10) scDist.nd rfl (.inl rfl))
          (pss_one (ps_if (pt_cmp (pc_dnotin hu (pv 10) (pv 7))) (pss_cons (ps_dput hu (pv 7) (pv 10) (pe_op op_add (pe_dget hu (pv 7) (pv 3) (fun _ _ => rfl)) pe_int) rfl) (pss_one (ps_expr (pe_bm PySem.F.plainAttrs_list PySem.F.slot_list_append PySem.F.type_list_append mt_append (pv 8) (pa_cons (pv 10) pa_nil))))) pss_nil)))
        (pss_one (ps_aug (i := 9) scDist.nd rfl (.inl rfl) pe_int ip_add)))))
      (pss_one (ps_ret (pv 7)))))))), ?_⟩
    have sz0 : (0 : Nat) ≤ sizeLine := by decide
    refine fun b nb => ?_
    have x1 := Ext.new nb (o := .dK [])
    have hb1 : (upd H b (.dK [])) b = some (.dK []) := upd_same
    generalize upd H b (.dK []) = H1 at x1 hb1 ⊢
    have hgr1 := x1 _ _ hgr
    have nbg : b ≠ gr := (ne_of_none hgr nb).symm
    refine ⟨gr, _, hgr1, trivial, fun od => ?_⟩
    have gl : (upd H1 gr (.frz od (.dK (kvsG Ls)))) gr = some (.frz od (.dK (kvsG Ls))) := upd_same
    have out : ∀ a o, H1 a = some o → a ≠ gr → (upd H1 gr (.frz od (.dK (kvsG Ls)))) a = some o := fun a o e n => by
      rw [upd_ne n]
      exact e
    have hbl := out _ _ hb1 nbg
    generalize upd H1 gr (.frz od (.dK (kvsG Ls))) = Hl at gl out hbl ⊢
    have inl_ : ∀ a o, H a = some o → a ≠ gr → Hl a = some o ∧ a ≠ b := fun a o e n => ⟨out _ _ (x1 _ _ e) n, ne_of_none e nb⟩
    refine ⟨_, rfl, gr, od, kvsG Ls, rfl, gl, ?_⟩
    refine for_it walk_items (fun i σ H' => ∃ v3 v4 v5 v6 kvs Lf, σ = [some (.ref gs), some (.ref gr), some (.ref b), v3, v4, v5, v6, none, none, none, none, none] ∧ (∀ a o, Hl a = some o → a ≠ b → H' a = some o) ∧ AheadF Hl H' b (edges g i) kvs Lf)
      ⟨none, none, none, none, [], fun _ => none, rfl, fun _ _ e _ => e, AheadF.nil hbl⟩ (fun i σ H' _ ⟨_, _, _, _, _, _, _, kp, _⟩ => kp _ _ gl nbg.symm) ?_ ?_
    · rintro i x σ H3 H4 hi ⟨v3, v4, v5, v6, kvs, Lf, rfl, kp, ah⟩ ⟨T1, x', y', rfl, nT, rfl, q1, q2⟩
      obtain ⟨⟨k0, w0⟩, hkv⟩ : ∃ e, (kvsG Ls)[i]? = some e := ⟨_, List.getElem?_eq_getElem hi⟩
      dsimp only at q1 q2
      rw [hkv] at q1 q2
      obtain rfl := Option.some.inj q1
      obtain rfl := Option.some.inj q2
      obtain ⟨L, hL, rfl, rfl⟩ := kvsG_at hkv
      obtain ⟨ts, hts, lds⟩ := hLs i L hL
      have iN : i < N := by
        rw [kvsG_len] at hi
        omega
      have ldsl : LeadsAt Hl ts (g i) := lds.ext fun t xs e => (inl_ _ _ e (ne_of e hgr (by intro z; cases z))).1
      obtain ⟨hLl, nLb⟩ := inl_ _ _ hts (ne_of hts hgr (by intro z; cases z))
      have xT := Ext.new nT (o := .tup [kV (keyI i), V.ref L])
      refine ⟨T1, _, rfl, SqT.of upd_same, rfl, _, _, rfl, _, _, rfl, rfl, ?_⟩
      have kp4 : ∀ a o, Hl a = some o → a ≠ b → (upd H3 T1 (.tup [kV (keyI i), V.ref L])) a = some o := fun a o e n => xT _ _ (kp _ _ e n)
      have ah4 : AheadF Hl (upd H3 T1 (.tup [kV (keyI i), V.ref L])) b (edges g i) kvs Lf := ⟨xT _ _ ah.d, ah.le, ah.v, fun a P h => ⟨(ah.at_ a P h).1, (ah.at_ a P h).2.1, xT _ _ (ah.at_ a P h).2.2⟩, ah.no, ah.inj⟩
      generalize upd H3 T1 (.tup [kV (keyI i), V.ref L]) = H4 at kp4 ah4 ⊢
      refine ⟨_, rfl, L, rfl, ⟨_, SqL.of (kp4 _ _ hLl nLb)⟩, ?_⟩
      have elen : (edgesN g i).length = ts.length := by
        unfold edgesN
        rw [List.length_map, ldsl.len]
      refine for_it (walk_list (xs := ts.map V.ref)) (fun j σ H' => ∃ v5 v6 kvs Lf, σ = [some (.ref gs), some (.ref gr), some (.ref b), some (.int i), some (.ref L), v5, v6, none, none, none, none, none] ∧ (∀ a o, Hl a = some o → a ≠ b → H' a = some o) ∧ AheadF Hl H' b (edges g i ++ (edgesN g i).take j) kvs Lf)
        ⟨v5, v6, kvs, Lf, rfl, kp4, by simpa using ah4⟩ (fun j σ H' _ ⟨_, _, _, _, _, kp, _⟩ => SqL.of (kp _ _ hLl nLb)) ?_ ?_
      · rintro j y σ H5 H6 hj ⟨v5, v6, kvs, Lf, rfl, kp5, ah5⟩ ⟨rfl, hy⟩
        obtain ⟨t, htj, rfl⟩ := at_map hy
        obtain ⟨e, he, hte⟩ := ldsl.at_ htj
        have te6 := kp5 _ _ hte (ne_of hte hbl (by intro z; cases z))
        have l5 : (edges g i ++ (edgesN g i).take j).length ≤ 10000 := by
          have h1 := edges_len gle i
          have h2 := gle i
          rw [List.length_append, List.length_take]
          unfold edgesN
          rw [List.length_map]
          omega
        have lk := ah5.le
        have en : edges g i ++ (edgesN g i).take (j + 1) = (edges g i ++ (edgesN g i).take j) ++ [(i, e.2)] := by
          have : (edgesN g i)[j]? = some (i, e.2) := by
            unfold edgesN
            rw [List.getElem?_map, he]
            rfl
          rw [take_more this, List.append_assoc]
        refine ⟨t, _, rfl, SqT.of te6, rfl, _, _, rfl, _, _, rfl, rfl, ?_⟩
        refine ⟨_, rfl, b, rfl, .inl ⟨_, Rd.of ah5.d⟩, _, rfl, sz0, fun M nM => ⟨kvs, keyI e.2, Ext.new nM _ _ ah5.d, rfl, small_l (by omega), fun v hv => ?_, fun hv => ?_⟩⟩
        · rw [ah5.v] at hv
          cases hf : Lf e.2 with
          | none =>
            rw [hf] at hv
            cases hv
          | some P =>
            rw [hf] at hv
            obtain rfl := Option.some.inj hv
            obtain ⟨k1, k2, k3⟩ := ah5.at_ _ _ hf
            have k4 := Ext.new nM (o := .lst []) _ _ k3
            refine ⟨.inl ⟨rfl, _, SqL.of k4⟩, _, rfl, P, _, _, rfl, rfl, k4, by rw [List.length_map]; exact small_l (Nat.le_trans (preL_len _ _) l5), ?_⟩
            refine ⟨_, _, kvs, Lf, rfl, fun a o h n => ?_, ?_⟩
            · rw [upd_ne (ne_of_none h k1)]
              exact Ext.new nM _ _ (kp5 _ _ h n)
            · rw [en]
              exact ah5.hit hf nM
        · rw [ah5.v] at hv
          cases hf : Lf e.2 with
          | some P =>
            rw [hf] at hv
            cases hv
          | none =>
            have bM : b ≠ M := ne_of_none ah5.d nM
            have hM : (upd (upd H6 M (.lst [])) b (.dK (putK kvs (keyI e.2) (.ref M)))) M = some (.lst []) := by
              rw [upd_ne bM.symm]
              exact upd_same
            have M0 : Hl M = none := by
              cases z : Hl M with
              | none => rfl
              | some o =>
                have := kp5 _ _ z bM.symm
                rw [nM] at this
                cases this
            refine ⟨.inl ⟨rfl, _, SqL.of hM⟩, _, rfl, M, _, _, rfl, rfl, hM, by show 0 < sizeLine; decide, ?_⟩
            refine ⟨_, _, putK kvs (keyI e.2) (.ref M), fun c => if c = e.2 then some M else Lf c, rfl, fun a o h n => ?_, ?_⟩
            · rw [upd_ne (ne_of_none h M0), upd_ne n]
              exact Ext.new nM _ _ (kp5 _ _ h n)
            · rw [en]
              exact ah5.new hf nM M0
      · rintro σ H5 ⟨v5, v6, kvs, Lf, rfl, kp5, ah5⟩
        rw [List.length_map, ← elen, List.take_length, ← edges_succ] at ah5
        exact ⟨_, _, _, _, kvs, Lf, rfl, kp5, ah5⟩
    rintro σ H5 ⟨v3, v4, v5, v6, kvsA, Lf, rfl, kp5, ah5⟩
    rw [kvsG_len, lLs] at ah5
    refine ⟨kp5 _ _ gl nbg.symm, ?_⟩
    have x6 : Ext H (upd H5 gr (.dK (kvsG Ls))) := fun a o e => by
      by_cases c : a = gr
      · rw [c, upd_same, ← hgr, ← c]
        exact e
      · rw [upd_ne c]
        exact kp5 _ _ (inl_ _ _ e c).1 (inl_ _ _ e c).2
    have ng : ∀ a P, Lf a = some P → P ≠ gr := fun a P h z => by
      have := (ah5.at_ a P h).1
      rw [z, gl] at this
      cases this
    have hb6 : (upd H5 gr (.dK (kvsG Ls))) b = some (.dK kvsA) := by
      rw [upd_ne nbg]
      exact ah5.d
    have hL6 : ∀ a P, Lf a = some P → (upd H5 gr (.dK (kvsG Ls))) P = some (.lst ((preL (edges g N) a).map fun n => V.int (n : Nat))) := fun a P h => by
      rw [upd_ne (ng a P h)]
      exact (ah5.at_ a P h).2.2
    have hv6 := ah5.v
    have hno := ah5.no
    clear ah5 kp5
    generalize upd H5 gr (.dK (kvsG Ls)) = H6 at x6 hb6 hL6 ⊢
    -- the goals
    have hgs6 := hgs.ext x6
    have lgN := nodup_len ndg ltg
    refine ⟨_, rfl, kb, gs, rfl, ⟨_, hgs6⟩, fun D nD => ?_⟩
    refine dcW (walk_seq (xs := goals.map fun n => V.int (n : Nat))) (fun i H' => Ext H6 H' ∧ ∃ kvs, H' D = some (.dK kvs) ∧ kvs.map (·.1) = (goals.take i).map keyI ∧ ∀ kv ∈ kvs, ∃ d : Int, kv.2 = .int d) ⟨Ext.new nD, [], upd_same, rfl, fun _ h => (nomatch h)⟩ (fun i H' _ h => hgs6.ext h.1) ?_ ?_
    · rintro i x H7 H8 hi ⟨x7, kvs, d7, k7, i7⟩ ⟨rfl, hx⟩
      obtain ⟨z, hz, rfl⟩ := at_map hx
      have nz : z ∉ goals.take i := fun hm => by
        have h1 : (goals.take (i + 1)).Nodup := ndg.sublist (List.take_sublist _ _)
        rw [take_more hz] at h1
        exact (List.nodup_append.mp h1).2.2 z hm z (by simp) rfl
      have nv : valV kvs (keyI z) = none := by
        have := val_key k7 z
        rw [decide_eq_false nz] at this
        cases q : valV kvs (keyI z) with
        | none => rfl
        | some v =>
          rw [q] at this
          cases this
      have lk : kvs.length ≤ goals.length := by
        have := congrArg List.length k7
        rw [List.length_map, List.length_map, List.length_take] at this
        omega
      refine ⟨rfl, _, rfl, kvs, keyI z, rfl, d7, small_l (by omega), fun a o e => by rw [upd_ne (ne_of_none e nD)]; exact x7 _ _ e, _, upd_same, ?_, fun kv hkv => ?_⟩
      · rw [putK_new _ nv, take_more hz, List.map_append, List.map_append, k7]
        rfl
      · rw [putK_new _ nv] at hkv
        rcases List.mem_append.mp hkv with h | h
        · exact i7 kv h
        · rw [List.mem_singleton.mp h]
          exact ⟨0, rfl⟩
    rintro H7 ⟨x7, kvs, d7, k7, i7⟩
    rw [List.length_map, List.take_length] at k7
    refine ⟨_, rfl, gs, _, rfl, (hgs6.ext x7).or, fun q nq => ?_⟩
    have xq := Ext.new nq (o := .lst (goals.map fun n => V.int (n : Nat)))
    have hq8 : (upd H7 q (.lst (goals.map fun n => V.int (n : Nat)))) q = some (.lst (goals.map fun n => V.int (n : Nat))) := upd_same
    have d8 := xq _ _ d7
    have x8 := x7.trans xq
    have nDq : D ≠ q := ne_of_none d7 nq
    have nq6 := x7.free nq
    generalize upd H7 q (.lst (goals.map fun n => V.int (n : Nat))) = H8 at hq8 d8 x8 ⊢
    have plt : ∀ n, ∀ e ∈ preG g N n, e.2 < N := fun n e he => by
      obtain ⟨x, hx, rfl⟩ := List.mem_map.mp he
      exact preL_lt x hx
    refine ⟨DistW H6 gs gr b D q N (preG g N) (closeL (preG g N) N goals), ⟨_, _, _, _, _, none, 0, goals, kvs, rfl, rfl, x8, hq8, d8, k7, i7, ndg, ltg, Nat.zero_le _, rfl⟩, ?_⟩
    rintro m σ H9 ⟨v3, v4, v5, v6, v10, i, Lq, kvs, rfl, rfl, x9, hq, hD, hk, its, nd, lt, le, run⟩
    have lN := nodup_len nd lt
    refine ⟨_, rfl, _, rfl, q, _, rfl, .inl (SqL.of hq), _, _, rfl, rfl, _, rfl, ?_⟩
    rw [List.length_map]
    refine ite2 (fun c => ?_) (fun c => ?_)
    · have c : i < Lq.length := by have := of_decide_eq_true c; omega
      obtain ⟨x, hx⟩ : ∃ x, Lq[i]? = some x := ⟨Lq[i], List.getElem?_eq_getElem c⟩
      have xm := List.mem_of_getElem? hx
      refine ⟨DistW H6 gs gr b D q N (preG g N) (closeL (preG g N) N goals) (N - i), fun σ' H' h => ⟨_, by omega, h⟩, ?_⟩
      refine ⟨_, rfl, _, rfl, q, _, _, .int x, rfl, rfl, SqL.of hq, atI_nat (by rw [List.getElem?_map, hx]; rfl), ?_⟩
      have hb9 := x9 _ _ hb6
      refine ⟨_, rfl, b, rfl, .inl ⟨_, Rd.of hb9⟩, _, rfl, sz0, fun M nM => ⟨_, DGet.k (k := keyI x) (Ext.new nM _ _ hb9), ?_⟩⟩
      rw [hv6]
      have xM := Ext.new nM (o := .lst [])
      have hM : (upd H9 M (.lst [])) M = some (.lst []) := upd_same
      have x10 := x9.trans xM
      have hq10 := xM _ _ hq
      have hD10 := xM _ _ hD
      obtain ⟨Pl, eP, hP, nPD, nPq⟩ : ∃ Pl, ((Lf x).map V.ref).getD (.ref M) = .ref Pl ∧ (upd H9 M (.lst [])) Pl = some (.lst ((preL (edges g N) x).map fun n => V.int (n : Nat))) ∧ Pl ≠ D ∧ Pl ≠ q := by
        cases hf : Lf x with
        | none =>
          refine ⟨M, rfl, ?_, (ne_of_none hD nM).symm, (ne_of_none hq nM).symm⟩
          rw [hno x hf]
          exact hM
        | some L => exact ⟨L, rfl, x10 _ _ (hL6 x L hf), ne_of_none (hL6 x L hf) nD, ne_of_none (hL6 x L hf) nq6⟩
      rw [eP]
      clear eP hM
      generalize upd H9 M (.lst []) = H10 at x10 hq10 hD10 hP ⊢
      refine ⟨Pl, rfl, ⟨_, SqL.of hP⟩, ?_⟩
      refine for_it (walk_list (xs := (preL (edges g N) x).map fun n => V.int (n : Nat))) (fun j σ H' => ∃ v10 kvs, σ = [some (.ref gs), some (.ref gr), some (.ref b), some (.int x), v4, v5, v6, some (.ref D), some (.ref q), some (.int i), v10, none] ∧ Ext H6 H' ∧ H' Pl = some (.lst ((preL (edges g N) x).map fun n => V.int (n : Nat))) ∧
          H' q = some (.lst ((addNew Lq ((preG g N x).take j)).map fun n => V.int (n : Nat))) ∧ H' D = some (.dK kvs) ∧ kvs.map (·.1) = (addNew Lq ((preG g N x).take j)).map keyI ∧ ∀ kv ∈ kvs, ∃ d : Int, kv.2 = .int d)
        ⟨v10, kvs, rfl, x10, hP, hq10, hD10, hk, its⟩ (fun j σ H' _ ⟨_, _, _, _, h, _⟩ => SqL.of h) ?_ ?_
      · rintro j y σ H11 H12 hj ⟨v10, kvs, rfl, x11, hP11, hq11, hD11, hk11, in11⟩ ⟨rfl, hy⟩
        obtain ⟨a, haj, rfl⟩ := at_map hy
        have he : (preG g N x)[j]? = some (Str.ofString "", a) := by
          unfold preG
          rw [List.getElem?_map, haj]
          rfl
        have aN := plt x _ (List.mem_of_getElem? he)
        have ok5 := addNew_ok (N := N) nd lt (l := (preG g N x).take j) fun e he => plt x e (List.mem_of_mem_take he)
        have l5 := nodup_len ok5.1 ok5.2.1
        have lk5 : kvs.length = (addNew Lq ((preG g N x).take j)).length := by
          have := congrArg List.length hk11
          rwa [List.length_map, List.length_map] at this
        refine ⟨_, rfl, _, rfl, D, _, rfl, DGet.k (k := keyI a) hD11, _, rfl, ?_⟩
        rw [val_key hk11]
        have en : addNew Lq ((preG g N x).take (j + 1)) = if a ∈ addNew Lq ((preG g N x).take j) then addNew Lq ((preG g N x).take j) else addNew Lq ((preG g N x).take j) ++ [a] := by
          rw [take_more he, addNew_append, addNew_one]
        by_cases ce : a ∈ addNew Lq ((preG g N x).take j)
        · rw [decide_eq_true ce]
          refine iteF ⟨_, kvs, rfl, x11, hP11, ?_, hD11, ?_, in11⟩
          · rw [en, if_pos ce]
            exact hq11
          · rw [en, if_pos ce]
            exact hk11
        · rw [decide_eq_false ce]
          have xin : x ∈ addNew Lq ((preG g N x).take j) := addNew_sub xm
          have hsx := val_key hk11 x
          rw [decide_eq_true xin] at hsx
          obtain ⟨vx, hvx⟩ := Option.isSome_iff_exists.mp hsx
          obtain ⟨dx, rfl⟩ := val_int hvx in11
          have nv : valV kvs (keyI a) = none := by
            have := val_key hk11 a
            rw [decide_eq_false ce] at this
            cases z : valV kvs (keyI a) with
            | none => rfl
            | some v =>
              rw [z] at this
              cases this
          have gx : DGet H12 D (.int x) (some (.int dx)) := by
            rw [← hvx]
            exact DGet.k (k := keyI x) hD11
          refine iteT ⟨_, rfl, _, rfl, D, _, rfl, gx, _, _, rfl, rfl, _, rfl, _, rfl, D, _, rfl, DPut.k (k := keyI a) hD11 (small_l (by omega)), ?_⟩
          have q7 : (upd H12 D (.dK (putK kvs (keyI a) (.int (dx + 1))))) q = some (.lst ((addNew Lq ((preG g N x).take j)).map fun n => V.int (n : Nat))) := by
            rw [upd_ne nDq.symm]
            exact hq11
          refine ⟨_, rfl, .inl ⟨rfl, _, SqL.of q7⟩, _, rfl, q, _, _, rfl, rfl, q7, by rw [List.length_map]; exact small_l (by omega), ?_⟩
          refine ⟨_, putK kvs (keyI a) (.int (dx + 1)), rfl, fun c o h => ?_, ?_, ?_, ?_, ?_, fun kv hkv => ?_⟩
          · rw [upd_ne (ne_of_none h nq6), upd_ne (ne_of_none h nD)]
            exact x11 _ _ h
          · rw [upd_ne nPq, upd_ne nPD]
            exact hP11
          · rw [upd_same, en, if_neg ce, List.map_append]
            rfl
          · rw [upd_ne nDq, upd_same]
          · rw [en, if_neg ce, putK_new _ nv, List.map_append, List.map_append, hk11]
            rfl
          · rw [putK_new _ nv] at hkv
            rcases List.mem_append.mp hkv with h | h
            · exact in11 kv h
            · rw [List.mem_singleton.mp h]
              exact ⟨_, rfl⟩
      · rintro σ H11 ⟨v10, kvs, rfl, x11, hP11, hq11, hD11, hk11, in11⟩
        have pl : ((preL (edges g N) x).map fun n => V.int (n : Nat)).length = (preG g N x).length := by
          unfold preG
          rw [List.length_map, List.length_map]
        rw [pl, List.take_length] at hq11 hk11
        have ok5 := addNew_ok (N := N) nd lt (l := preG g N x) (plt x)
        refine ⟨_, rfl, _, _, rfl, rfl, ?_⟩
        refine ⟨some (.int x), v4, v5, v6, v10, i + 1, addNew Lq (preG g N x), kvs, by omega, ?_, x11, hq11, hD11, hk11, in11, ok5.1, ok5.2.1, by have := ok5.2.2; omega, ?_⟩
        · rfl
        · rw [← run, show N + 1 - i = (N + 1 - (i + 1)) + 1 by omega, bfs_step hx]
    · have c : Lq.length ≤ i := by
        have := of_decide_eq_false (Bool.not_eq_true _ ▸ c)
        omega
      rw [bfs_end c] at run
      refine ⟨_, rfl, kk _ D kvs (x6.trans x9) (x6.free nD) hD ?_⟩
      rw [hk, run]
end
end Sl
/-! ## M1 -/
set_option Elab.async false
set_option linter.all false
set_option maxRecDepth 100000
set_option maxHeartbeats 4000000
/-! what the searches find -/
namespace Sl
open PySem PySem.Spec PyProof.Rows L2
inductive Reach (g : Gr) (q : List Nat) : Nat → Prop
  | base {x : Nat} : x ∈ q → Reach g q x
  | step {x : Nat} {e : Str × Nat} : Reach g q x → e ∈ g x → Reach g q e.2
theorem Reach.mono {g : Gr} {q r : List Nat} (h : ∀ x ∈ q, Reach g r x) : ∀ {x}, Reach g q x → Reach g r x
  | _, .base m => h _ m
  | _, .step a m => (a.mono h).step m
theorem addNew_mem : ∀ {l : List (Str × Nat)} {q : List Nat} {x : Nat}, x ∈ addNew q l ↔ x ∈ q ∨ ∃ e ∈ l, e.2 = x
  | [], q, x => by simp [addNew_nil]
  | e :: l, q, x => by
    rw [addNew_cons, addNew_mem]
    by_cases c : e.2 ∈ q
    · rw [if_pos c]
      constructor
      · rintro (h | ⟨e', h, r⟩)
        · exact .inl h
        · exact .inr ⟨e', List.mem_cons_of_mem _ h, r⟩
      · rintro (h | ⟨e', h, r⟩)
        · exact .inl h
        · rcases List.mem_cons.mp h with rfl | h
          · exact .inl (r ▸ c)
          · exact .inr ⟨e', h, r⟩
    · rw [if_neg c]
      constructor
      · rintro (h | ⟨e', h, r⟩)
        · rcases List.mem_append.mp h with h | h
          · exact .inl h
          · exact .inr ⟨e, List.mem_cons_self, (List.mem_singleton.mp h).symm⟩
        · exact .inr ⟨e', List.mem_cons_of_mem _ h, r⟩
      · rintro (h | ⟨e', h, r⟩)
        · exact .inl (List.mem_append.mpr (.inl h))
        · rcases List.mem_cons.mp h with rfl | h
          · exact .inl (List.mem_append.mpr (.inr (by rw [r]; exact List.mem_singleton.mpr rfl)))
          · exact .inr ⟨e', h, r⟩
theorem addNew_pre : ∀ {l : List (Str × Nat)} {q : List Nat}, q <+: addNew q l
  | [], q => List.prefix_refl _
  | e :: l, q => by
    rw [addNew_cons]
    by_cases c : e.2 ∈ q
    · rw [if_pos c]
      exact addNew_pre
    · rw [if_neg c]
      exact (List.prefix_append _ _).trans addNew_pre
structure Found (g : Gr) (N : Nat) (q r : List Nat) : Prop where
  nd : r.Nodup
  lt : ∀ x ∈ r, x < N
  pre : q <+: r
  cl : ∀ x ∈ r, ∀ e ∈ g x, e.2 ∈ r
  re : ∀ x ∈ r, Reach g q x
theorem bfs_found {g : Gr} {N : Nat} {q0 : List Nat} (hlt : ∀ n, n < N → ∀ e ∈ g n, e.2 < N) : ∀ (n i : Nat) (q : List Nat), q.Nodup → (∀ x ∈ q, x < N) → i ≤ q.length → N + 1 ≤ n + i → (∀ j x, j < i → q[j]? = some x → ∀ e ∈ g x, e.2 ∈ q) → q0 <+: q → (∀ x ∈ q, Reach g q0 x) → Found g N q0 (bfs g n q i)
  | 0, i, q, nd, lt, le, hn, _, _, _ => by
    have := nodup_len nd lt
    omega
  | n + 1, i, q, nd, lt, le, hn, cl, pre, re => by
    by_cases c : i < q.length
    · obtain ⟨x, hx⟩ : ∃ x, q[i]? = some x := ⟨q[i], List.getElem?_eq_getElem c⟩
      have xm := List.mem_of_getElem? hx
      rw [bfs_step hx]
      have ok := addNew_ok (l := g x) nd lt (hlt x (lt x xm))
      refine bfs_found hlt n (i + 1) _ ok.1 ok.2.1 (by have := ok.2.2; omega) (by omega) (fun j y hj hy e he => ?_) (pre.trans addNew_pre) fun y hy => ?_
      · have hl : j < q.length := by omega
        have hy' : q[j]? = some y := by
          obtain ⟨t, ht⟩ := addNew_pre (l := g x) (q := q)
          rw [← ht, List.getElem?_append_left hl] at hy
          exact hy
        by_cases e1 : j = i
        · subst e1
          obtain rfl : x = y := Option.some.inj (hx.symm.trans hy')
          exact addNew_mem.mpr (.inr ⟨e, he, rfl⟩)
        · exact addNew_mem.mpr (.inl (cl j y (by omega) hy' e he))
      · rcases addNew_mem.mp hy with h | ⟨e, he, rfl⟩
        · exact re y h
        · exact (re x xm).step he
    · rw [bfs_end (by omega)]
      refine ⟨nd, lt, pre, fun x hx e he => ?_, re⟩
      obtain ⟨j, hj⟩ := List.getElem?_of_mem hx
      exact cl j x (by have := (List.getElem?_eq_some_iff.mp hj).1; omega) hj e he
theorem Found.iff {g : Gr} {N : Nat} {q r : List Nat} (F : Found g N q r) {x : Nat} : x ∈ r ↔ Reach g q x := by
  refine ⟨F.re x, fun h => ?_⟩
  induction h with
  | base m => exact F.pre.subset m
  | step _ m ih => exact F.cl _ ih _ m
theorem reachedL_found {g : Gr} {N first : Nat} (hlt : ∀ n, n < N → ∀ e ∈ g n, e.2 < N) (h : first < N) : Found g N [first] (reachedL g N first) :=
  bfs_found hlt (N + 1) 0 [first] (by simp) (by simpa using h) (Nat.zero_le _) (by omega) (fun _ _ h => absurd h (Nat.not_lt_zero _)) (List.prefix_refl _) fun x hx => .base hx
theorem closeL_found {g : Gr} {N : Nat} {goals : List Nat} (hlt : ∀ n, n < N → ∀ e ∈ g n, e.2 < N) (nd : goals.Nodup) (h : ∀ x ∈ goals, x < N) : Found g N goals (closeL g N goals) :=
  bfs_found hlt (N + 1) 0 goals nd h (Nat.zero_le _) (by omega) (fun _ _ h => absurd h (Nat.not_lt_zero _)) (List.prefix_refl _) fun x hx => .base hx
theorem preG_lt {g : Gr} {N : Nat} : ∀ n, ∀ e ∈ preG g N n, e.2 < N := fun n e he => by
  obtain ⟨x, hx, rfl⟩ := List.mem_map.mp he
  exact preL_lt x hx
theorem preG_mem {g : Gr} {N n x : Nat} : (∃ e ∈ preG g N n, e.2 = x) ↔ x < N ∧ ∃ e ∈ g x, e.2 = n := by
  constructor
  · rintro ⟨e, he, rfl⟩
    obtain ⟨y, hy, rfl⟩ := List.mem_map.mp he
    obtain ⟨p, hp, rfl⟩ := List.mem_map.mp hy
    obtain ⟨hp, h2⟩ := List.mem_filter.mp hp
    have h2 := of_decide_eq_true h2
    obtain ⟨m, hm, h⟩ := List.mem_flatMap.mp hp
    obtain ⟨e', he', rfl⟩ := List.mem_map.mp h
    exact ⟨List.mem_range.mp hm, e', he', h2⟩
  · rintro ⟨hx, e, he, rfl⟩
    refine ⟨(Str.ofString "", x), List.mem_map.mpr ⟨x, List.mem_map.mpr ⟨(x, e.2), List.mem_filter.mpr ⟨?_, decide_eq_true rfl⟩, rfl⟩, rfl⟩, rfl⟩
    exact List.mem_flatMap.mpr ⟨x, List.mem_range.mpr hx, List.mem_map.mpr ⟨e, he, rfl⟩⟩
/-- backwards: from x some way leads to a goal -/
inductive Leads (g : Gr) (q : List Nat) : Nat → Prop
  | base {x : Nat} : x ∈ q → Leads g q x
  | step {x : Nat} {e : Str × Nat} : e ∈ g x → Leads g q e.2 → Leads g q x
theorem closeL_iff {g : Gr} {N : Nat} {goals : List Nat} (nd : goals.Nodup) (h : ∀ x ∈ goals, x < N) {x : Nat} (hx : x < N) (glt : ∀ n, n < N → ∀ e ∈ g n, e.2 < N) : x ∈ closeL (preG g N) N goals ↔ Leads g goals x := by
  rw [(closeL_found (fun n _ => preG_lt n) nd h).iff]
  constructor
  · intro r
    clear hx
    induction r with
    | base m => exact .base m
    | step a m ih =>
      obtain ⟨_, e', h1, h2⟩ := preG_mem.mp ⟨_, m, rfl⟩
      rw [← h2] at ih
      exact .step h1 ih
  · intro l
    induction l with
    | base m => exact .base m
    | step m a ih =>
      have := ih (glt _ hx _ m)
      obtain ⟨e', h1, h2⟩ := preG_mem.mpr ⟨hx, _, m, rfl⟩
      rw [← h2]
      exact this.step h1
theorem closeL_len {g : Gr} {N : Nat} {goals : List Nat} (nd : goals.Nodup) (h : ∀ x ∈ goals, x < N) : (closeL (preG g N) N goals).length ≤ N :=
  let F := closeL_found (g := preG g N) (fun n _ => preG_lt n) nd h
  nodup_len F.nd F.lt
end Sl
/-! ## V8 -/
set_option Elab.async false
set_option linter.all false
set_option maxRecDepth 100000
set_option maxHeartbeats 4000000
/-! dicts whose keys are tuples of whole numbers, or of True and False: setdefault, len -/
namespace Sl
open PySem PySem.Spec PyProof.Rows L2
/-- an item of a key -/
def nkV : V → Option Int
  | .int i => some i
  | .bl b => some (if b = true then 1 else 0)
  | _ => none
def nk (l : List Int) : NestedKey := .tup (l.map NestedKey.num)
theorem nk_inj {l m : List Int} (h : nk l = nk m) : l = m := by
  unfold nk at h
  injection h with h
  induction l generalizing m with
  | nil =>
    cases m with
    | nil => rfl
    | cons a m => cases h
  | cons a l ih =>
    cases m with
    | nil => cases h
    | cons b m =>
      rw [List.map_cons, List.map_cons] at h
      injection h with h1 h2
      injection h1 with h1
      rw [h1, ih h2]
theorem nk_depth (l : List Int) : (nk l).depth ≤ 8 := by
  have : ∀ m : List Int, NestedKey.depthAll (m.map NestedKey.num) = 0 := fun m => by
    induction m with
    | nil => rfl
    | cons a m ih =>
      rw [List.map_cons, NestedKey.depthAll, ih]
      rfl
  unfold nk
  rw [NestedKey.depth, this]
  decide
theorem nk_all {h : Heap} : ∀ {vs : List V} {us : List Value} {l : List Int}, Vals vs us → vs.map nkV = l.map some → NestedAll h (l.map NestedKey.num) us
  | _, _, [], .nil, _ => .nil
  | v :: vs, u :: us, [], .cons r t, e => by cases e
  | _, _, i :: l, .nil, e => by cases e
  | v :: vs, u :: us, i :: l, .cons r t, e => by
    rw [List.map_cons, List.map_cons] at e
    injection e with e1 e2
    refine .cons ?_ (nk_all t e2)
    cases v with
    | int j =>
      obtain rfl : j = i := Option.some.inj e1
      obtain ⟨k, rfl⟩ := r
      exact .int _ _
    | bl b =>
      obtain rfl : u = .bool b := r
      exact .bool (Option.some.inj e1).symm
    | _ => cases e1
abbrev Ents := List (List Int × Addr × Value)
def entsN (xs : Ents) : List (NestedKey × Addr × Value) := xs.map fun x => (nk x.1, x.2)
/-- such a dict at d, by its entries -/
def NumO (P : Program) (w : World) (d : Addr) (xs : Ents) : HO := .ext fun h => (d == sysModules) = false ∧ ∃ o es ep, h.get? d = some o ∧ o.ExactDict ∧ o.data = .dict es ep ∧ es.toList = (entsN xs).map (entryOfKey (nestedKind P w)) ∧ ((entsN xs).map (·.1)).Nodup
structure NumE (H : Hp) (p : List Int × Nat) (x : List Int × Addr × Value) : Prop where
  key : x.1 = p.1
  at_ : ∃ vs, H x.2.1 = some (.tup vs) ∧ vs.map nkV = p.1.map some
  val : L2.RelV (.int (p.2 : Nat)) x.2.2
/-- .. its keys and values -/
def NumAt (P : Program) (w : World) (H : Hp) (d : Addr) (kvs : List (List Int × Nat)) : Prop := ∃ xs : Ents, H d = some (NumO P w d xs) ∧ Paired (NumE H) kvs xs
def numV (kvs : List (List Int × Nat)) (l : List Int) : Option Nat := (kvs.find? fun kv => decide (kv.1 = l)).map (·.2)
theorem NumAt.ext {P : Program} {w : World} {H H' : Hp} {d : Addr} {kvs : List (List Int × Nat)} (x : NumAt P w H d kvs) (hd : ∀ o, H d = some o → H' d = some o) (ht : ∀ t vs, H t = some (.tup vs) → H' t = some (.tup vs)) : NumAt P w H' d kvs := by
  obtain ⟨xs, e, p⟩ := x
  exact ⟨xs, hd _ e, Paired.mapP p fun a b r => ⟨r.key, let ⟨vs, h1, h2⟩ := r.at_; ⟨vs, ht _ _ h1, h2⟩, r.val⟩⟩
theorem num_find {H : Hp} : ∀ {kvs : List (List Int × Nat)} {xs : Ents} {l : List Int}, Paired (NumE H) kvs xs → (∀ m, numV kvs l = some m → ∃ p, atKey (entsN xs) (nk l) = some p ∧ L2.RelV (.int (m : Nat)) p.2) ∧ (numV kvs l = none → atKey (entsN xs) (nk l) = none)
  | _, _, _, .nil => ⟨fun _ h => (nomatch h), fun _ => rfl⟩
  | kv :: kvs, x :: xs, l, .cons r t => by
    have ih := num_find (l := l) t
    by_cases c : kv.1 = l
    · have c' : nk x.1 = nk l := by rw [r.key, c]
      have e1 : numV (kv :: kvs) l = some kv.2 := by simp [numV, c]
      have e2 : atKey (entsN (x :: xs)) (nk l) = some x.2 := by simp [atKey, entsN, c']
      rw [e1, e2]
      exact ⟨fun m hm => ⟨_, rfl, by rw [← Option.some.inj hm]; exact r.val⟩, fun z => (nomatch z)⟩
    · have c' : ¬ nk x.1 = nk l := fun z => c (by rw [← r.key]; exact nk_inj z)
      have e1 : numV (kv :: kvs) l = numV kvs l := by simp [numV, c]
      have e2 : atKey (entsN (x :: xs)) (nk l) = atKey (entsN xs) (nk l) := by simp [atKey, entsN, c']
      rw [e1, e2]
      exact ih
section
variable {X : Cx} {pins : List (Addr × Obj)} {σ : L2.St} {H : Hp} {s : Shared} {d : Addr}
theorem numO_ok {P : Program} {w : World} {h : Heap} {xs : Ents} (x : (d == sysModules) = false ∧ ∃ o es ep, h.get? d = some o ∧ o.ExactDict ∧ o.data = .dict es ep ∧ es.toList = (entsN xs).map (entryOfKey (nestedKind P w)) ∧ ((entsN xs).map (·.1)).Nodup) : ObjOk P w H h d (NumO P w d xs) :=
  ⟨x, let ⟨_, o, _, _, e, _⟩ := x; ⟨o, e⟩, fun h1 h2 ⟨z, o, es, ep, e, r⟩ k => ⟨z, o, es, ep, k _ e, r⟩⟩
theorem num_key {b : Addr} {vs : List V} {l : List Int} {h : Heap} {P : Program} {w : World} (ok : HOk P w H h) (e : H b = some (.tup vs)) (hv : vs.map nkV = l.map some) : (nestedKind P w).is h (nk l) b := by
  obtain ⟨_, its, r, o, ho, hc, n, hd⟩ := (show ObjOk P w H h b (.tup vs) from ok b _ e)
  exact ⟨.tup ho hc hd (nk_all r hv), nk_depth l⟩
theorem num_at {kvs : List (List Int × Nat)} {P : Program} {w : World} {h : Heap} (ok : HOk P w H h) {xs : Ents} (e : H d = some (NumO P w d xs)) (p : Paired (NumE H) kvs xs) : (d == sysModules) = false ∧ h.DictOfH (nestedKind P w) d (entsN xs) := by
  obtain ⟨⟨z, o, es, ep, ho, h1, h2, h3, h4⟩, _⟩ := ok d _ e
  refine ⟨z, o, es, ep, ho, h1, h2, h3, fun x hx => ?_, h4⟩
  obtain ⟨y, hy, rfl⟩ := List.mem_map.mp hx
  have : ∀ {kvs : List (List Int × Nat)} {xs : Ents}, Paired (NumE H) kvs xs → ∀ y ∈ xs, (nestedKind P w).is h (nk y.1) y.2.1 := fun {kvs xs} p => by
    induction p with
    | nil => exact fun _ h => (nomatch h)
    | cons r t ih =>
      intro y hy
      rcases List.mem_cons.mp hy with rfl | hy
      · obtain ⟨vs, h1, h2⟩ := r.at_
        rw [r.key]
        exact num_key ok h1 h2
      · exact ih y hy
  exact this p y hy
def tDNewN (P : Program) (w : World) : TE := fun _ H Q => ∀ p, H p = none → NumAt P w (upd H p (NumO P w p [])) p [] → Q (.ref p) (upd H p (NumO P w p []))
theorem pe_dnewN {pos : Pos} : PE X (.Dict [] [] pos) (tDNewN X.prog X.w) := ⟨fun pins s σ H Q I h => by
  have new : ObjOk X.prog X.w (upd H s.heap.objs.size (NumO X.prog X.w s.heap.objs.size [])) (s.heap.push { cls := .type "dict", data := .dict #[] }) s.heap.objs.size (NumO X.prog X.w s.heap.objs.size []) :=
    numO_ok ⟨beq_eq_false_iff_ne.mpr (Ne.symm (Nat.ne_of_lt I.big)), _, #[], 0, Heap.get?_push_size _ rfl, ⟨rfl, rfl, rfl⟩, rfl, rfl, List.nodup_nil⟩
  exact wpAny_Dict_empty ⟨.ref s.heap.objs.size, _, I.laid (a := s.heap.objs.size) (t' := s.toks) (fun _ _ q => Heap.get?_push_of_some _ q) (Nat.le_refl _) new, rfl, h _ (I.hok.fresh (Nat.le_refl _)) ⟨[], upd_same, .nil⟩⟩⟩
theorem call_lenN : CallR X (.builtin "len") (fun xs H Q => ∃ a kvs, xs = [V.ref a] ∧ NumAt X.prog X.w H a kvs ∧ kvs.length ≤ sizeLine ∧ Q (.int (kvs.length : Nat)) H) := by
  intro pins s σ H xs us Q I r h
  obtain ⟨p, kvs, rfl, ⟨ys, hp, pr⟩, z, q⟩ := h
  obtain ⟨u, rfl, rx⟩ := vals1 r
  obtain rfl : u = .ref p := rx
  obtain ⟨hd, dd⟩ := num_at I.hok hp pr
  have hl : kvs.length = (entsN ys).length := by
    unfold entsN
    rw [List.length_map]
    exact Paired.length pr
  refine call_len_dictH hd dd (by rw [← hl]; rw [sizeLine_eq] at z; omega) ?_
  rw [← hl]
  exact ⟨.int ((kvs.length : Nat) : Int), H, I.tok _, ⟨_, rfl⟩, q⟩
/-- d.setdefault(y, z) -/
def tDsetN (P : Program) (w : World) (td ty tx : TE) : TE := fun σ H Q => td σ H fun x H1 => ∃ a kvs, x = .ref a ∧ NumAt P w H1 a kvs ∧ ty σ H1 fun y H2 => tx σ H2 fun z H3 => ∃ (kvs : List (List Int × Nat)) (l : List Int) (n : Nat) (b : Addr) (vs : List V), NumAt P w H3 a kvs ∧ y = .ref b ∧ H3 b = some (.tup vs) ∧ vs.map nkV = l.map some ∧ z = .int n ∧ kvs.length < sizeLine ∧
  (∀ m, numV kvs l = some m → Q (.int (m : Nat)) H3) ∧ (numV kvs l = none → ∀ o, NumAt P w (upd H3 a o) a (kvs ++ [(l, n)]) → Q (.int n) (upd H3 a o))
variable {o e f : Expr} {td ty tx : TE} {apos cpos : Pos}
theorem pe_dsetN (hu : X.A.units + 9 < cLine) (ho : PE X o td) (he : PE X e ty) (hf : PE X f tx) (m : M2 X o "setdefault" apos e f cpos) : PE X (.Call (.Attribute o "setdefault" apos) [e, f] [] cpos) (tDsetN X.prog X.w td ty tx) := by
  refine ⟨fun pins s σ H Q I h => ?_⟩
  refine wpAny_Call_method m.base m.few m.line PySem.F.plainAttrs_dict PySem.F.slot_dict_setdefault PySem.F.type_dict_setdefault (thn (ho.run pins s σ H _ I h) fun u s1 ⟨x, H1, I1, rx, a, kvs0, ex, d, q1⟩ => ?_)
  subst ex
  obtain rfl : u = Value.ref a := rx
  obtain ⟨xs0, e0, p0⟩ := d
  obtain ⟨z0, dd0⟩ := num_at I1.hok e0 p0
  refine ⟨dd0.typeIs, fun b q => ?_, ?_⟩
  · cases q
    obtain ⟨ob, _, _, h1, h2, _⟩ := dd0
    exact ⟨ob, h1, h2.2.1⟩
  rw [m.trees]
  refine Calls.callWith_builtin rfl (Calls.evalArgs_plain (Calls.spliced_cons (thn (he.run pins s1 σ H1 _ I1 q1) fun iv s2 ⟨y, H2, I2, ry, q2⟩ =>
    Calls.spliced_cons (thn (hf.run pins s2 σ H2 _ I2 q2) fun fv s3 ⟨z, H3, I3, rz, kvs, l, n, b, vs, d3, ey, hb, hv, ez, hl, q3, q4⟩ => Calls.spliced_nil ?_))))
  subst ey
  subst ez
  obtain rfl : iv = Value.ref b := ry
  obtain ⟨xs, e3, p3⟩ := d3
  obtain ⟨z3, dd3⟩ := num_at I3.hok e3 p3
  have hlen : (entsN xs).length ≤ sizeLine := by
    unfold entsN
    rw [List.length_map, ← Paired.length p3]
    exact Nat.le_of_lt hl
  have F := num_find (l := l) p3
  refine call_setdefault_heap (hsz := hlen) (k := nk l) (by show X.A.units + 1 + 8 < cLine; exact hu) (num_key I3.hok hb hv) z3 dd3 (fun p hp => ?_) fun hn h' dd' hs => ?_
  · cases hm : numV kvs l with
    | none =>
      rw [F.2 hm] at hp
      cases hp
    | some m =>
      obtain ⟨p', e', r'⟩ := F.1 m hm
      obtain rfl : p' = p := Option.some.inj (e'.symm.trans hp)
      exact ⟨_, H3, I3.tok _, r', q3 m hm⟩
  · have hm : numV kvs l = none := by
      cases hm : numV kvs l with
      | none => rfl
      | some m =>
        obtain ⟨p', e', _⟩ := F.1 m hm
        rw [e'] at hn
        cases hn
    rw [storedH_new hn] at dd'
    obtain ⟨o', es, ep, ho', h1, h2, h3, h4, h5⟩ := dd'
    have en : entsN (xs ++ [(l, b, fv)]) = entsN xs ++ [(nk l, b, fv)] := by
      unfold entsN
      rw [List.map_append]
      rfl
    have new : ObjOk X.prog X.w (upd H3 a (NumO X.prog X.w a (xs ++ [(l, b, fv)]))) h' a (NumO X.prog X.w a (xs ++ [(l, b, fv)])) := numO_ok ⟨z3, o', es, ep, ho', h1, h2, by rw [en]; exact h3, by rw [en]; exact h5⟩
    have nt : ∀ t vs, H3 t = some (.tup vs) → (upd H3 a (NumO X.prog X.w a (xs ++ [(l, b, fv)]))) t = some (.tup vs) := fun t vs ht => by
      rw [upd_ne (ne_of ht e3 (by intro z; cases z))]
      exact ht
    refine ⟨.int n, _, d_write I3 (by rw [e3]; exact True.intro) hs ⟨o', ho'⟩ new, rz, q4 hm _ ⟨_, upd_same, ?_⟩⟩
    refine Paired.snoc (Paired.mapP p3 fun c y r => ⟨r.key, let ⟨ws, k1, k2⟩ := r.at_; ⟨ws, nt _ _ k1, k2⟩, r.val⟩) ⟨rfl, ⟨vs, nt _ _ hb, hv⟩, rz⟩
end
end Sl
/-! ## M2 -/
set_option Elab.async false
set_option linter.all false
set_option maxRecDepth 100000
set_option maxHeartbeats 4000000
/-! machines: rows, blocks, keys, numbers in the order in which keys are met -/
namespace Sl
open PySem PySem.Spec PyProof.Rows L2
def sgL (z : Str) : List Str := z.cps.toList.map fun c => ⟨#[c]⟩
theorem sgL_len (z : Str) : (sgL z).length = z.cps.size := by simp [sgL]
theorem sgL_at {z : Str} {i : Nat} {c : Nat} (h : z.cps[i]? = some c) : (sgL z)[i]? = some ⟨#[c]⟩ := by
  unfold sgL
  rw [List.getElem?_map, Array.getElem?_toList, h]
  rfl
def keyC (c : Str) : Key := Sum.inr c
def RowsAt (H : Hp) (rows : List Addr) (sg : List Str) (δ : Nat → Str → Nat) : Prop := ∀ i r, rows[i]? = some r → ∃ kvs, H r = some (.dK kvs) ∧ ∀ c ∈ sg, valV kvs (keyC c) = some (.int (δ i c : Nat))
theorem RowsAt.ext {H H' : Hp} (x : Ext H H') {rows : List Addr} {sg : List Str} {δ : Nat → Str → Nat} (h : RowsAt H rows sg δ) : RowsAt H' rows sg δ := fun i r e => let ⟨kvs, h1, h2⟩ := h i r e; ⟨kvs, x _ _ h1, h2⟩
def blkD (order : List Nat) (β : Nat → V) : List (Key × V) := order.map fun n => (keyI n, β n)
theorem keyI_inj {a b : Nat} (h : keyI a = keyI b) : a = b := by
  unfold keyI at h
  injection h with h
  omega
theorem blk_val (β : Nat → V) (n : Nat) : ∀ order : List Nat, valV (blkD order β) (keyI n) = if n ∈ order then some (β n) else none
  | [] => rfl
  | a :: l => by
    have ih := blk_val β n l
    unfold blkD at ih ⊢
    rw [List.map_cons]
    by_cases c : a = n
    · subst c
      rw [valV_pos rfl, if_pos List.mem_cons_self]
    · rw [valV_neg (fun e => c (keyI_inj e)), ih]
      by_cases m : n ∈ l
      · rw [if_pos m, if_pos (List.mem_cons_of_mem _ m)]
      · rw [if_neg m, if_neg (fun h => (List.mem_cons.mp h).elim (fun z => c z.symm) m)]
theorem blk_len (order : List Nat) (β : Nat → V) : (blkD order β).length = order.length := by simp [blkD]
theorem blk_keys (order : List Nat) (β : Nat → V) : (blkD order β).map (·.1) = order.map keyI := by
  unfold blkD
  rw [List.map_map]
  rfl
theorem blk_snoc (l : List Nat) (n : Nat) (β : Nat → V) : blkD (l ++ [n]) β = blkD l β ++ [(keyI n, β n)] := by
  unfold blkD
  rw [List.map_append]
  rfl
/-! ### keys, in the order in which they are met -/
def metL {α : Type} [DecidableEq α] (ks : List α) : List α := ks.foldl (fun acc k => if k ∈ acc then acc else acc ++ [k]) []
section
variable {α : Type} [DecidableEq α]
theorem metL_snoc (ks : List α) (k : α) : metL (ks ++ [k]) = if k ∈ metL ks then metL ks else metL ks ++ [k] := by
  unfold metL
  rw [List.foldl_append]
  rfl
theorem list_snoc {α : Type} {p : List α → Prop} (h0 : p []) (h1 : ∀ l a, p l → p (l ++ [a])) (l : List α) : p l := by
  have : ∀ l : List α, p l.reverse := fun l => by
    induction l with
    | nil => exact h0
    | cons a l ih =>
      rw [List.reverse_cons]
      exact h1 _ _ ih
  have := this l.reverse
  rwa [List.reverse_reverse] at this
theorem metL_mem (ks : List α) {k : α} : k ∈ metL ks ↔ k ∈ ks := by
  refine list_snoc (p := fun ks => k ∈ metL ks ↔ k ∈ ks) (by simp [metL]) (fun l a ih => ?_) ks
  rw [metL_snoc]
  by_cases c : a ∈ metL l
  · rw [if_pos c, ih]
    constructor
    · exact fun h => List.mem_append.mpr (.inl h)
    · intro h
      rcases List.mem_append.mp h with h | h
      · exact h
      · rw [List.mem_singleton.mp h]
        rw [List.mem_singleton.mp h] at ih
        exact ih.mp c
  · rw [if_neg c, List.mem_append, List.mem_append, ih]
theorem metL_nodup (ks : List α) : (metL ks).Nodup := by
  refine list_snoc (p := fun ks => (metL ks).Nodup) (by simp [metL]) (fun l a ih => ?_) ks
  rw [metL_snoc]
  by_cases c : a ∈ metL l
  · rwa [if_pos c]
  · rw [if_neg c]
    exact List.nodup_append.mpr ⟨ih, by simp, fun x hx y hy e => c (by rw [← List.mem_singleton.mp hy, ← e]; exact hx)⟩
theorem metL_pre (ks ms : List α) : metL ks <+: metL (ks ++ ms) := by
  refine list_snoc (p := fun ms => metL ks <+: metL (ks ++ ms)) (by simp) (fun l a ih => ?_) ms
  rw [← List.append_assoc, metL_snoc]
  by_cases c : a ∈ metL (ks ++ l)
  · rwa [if_pos c]
  · rw [if_neg c]
    exact ih.trans (List.prefix_append _ _)
theorem metL_len (ks : List α) : (metL ks).length ≤ ks.length := by
  refine list_snoc (p := fun ks => (metL ks).length ≤ ks.length) (by simp [metL]) (fun l a ih => ?_) ks
  rw [metL_snoc, List.length_append]
  by_cases c : a ∈ metL l
  · rw [if_pos c]
    omega
  · rw [if_neg c, List.length_append]
    simpa using ih
/-- where k stands first -/
def ixL : List α → α → Nat
  | [], _ => 0
  | a :: l, k => if a = k then 0 else ixL l k + 1
theorem ixL_app {k : α} : ∀ {l m : List α}, k ∈ l → ixL (l ++ m) k = ixL l k
  | [], _, h => nomatch h
  | a :: l, m, h => by
    rw [List.cons_append, ixL, ixL]
    by_cases c : a = k
    · rw [if_pos c, if_pos c]
    · rw [if_neg c, if_neg c, ixL_app ((List.mem_cons.mp h).resolve_left fun z => c z.symm)]
theorem idx_pre {l m : List α} {k : α} (h : l <+: m) (hk : k ∈ l) : ixL m k = ixL l k := by
  obtain ⟨t, rfl⟩ := h
  exact ixL_app hk
theorem idx_new {k : α} : ∀ {l : List α}, ¬ k ∈ l → ixL (l ++ [k]) k = l.length
  | [], _ => by simp [ixL]
  | a :: l, h => by
    rw [List.cons_append, ixL, if_neg (fun z => h (by rw [z]; exact List.mem_cons_self)), idx_new fun z => h (List.mem_cons_of_mem _ z)]
    rfl
theorem ixL_at {k : α} : ∀ {l : List α}, k ∈ l → l[ixL l k]? = some k
  | [], h => nomatch h
  | a :: l, h => by
    rw [ixL]
    by_cases c : a = k
    · rw [if_pos c, c]
      rfl
    · rw [if_neg c]
      exact ixL_at ((List.mem_cons.mp h).resolve_left fun z => c z.symm)
theorem ixL_lt {k : α} {l : List α} (h : k ∈ l) : ixL l k < l.length := (List.getElem?_eq_some_iff.mp (ixL_at h)).1
theorem ixL_inj {l : List α} {j k : α} (hj : j ∈ l) (hk : k ∈ l) (e : ixL l j = ixL l k) : j = k := by
  have := ixL_at hj
  rw [e, ixL_at hk] at this
  exact (Option.some.inj this).symm
theorem ixL_nodup : ∀ {l : List α} {i : Nat} {k : α}, l.Nodup → l[i]? = some k → ixL l k = i
  | [], _, _, _, h => by cases h
  | a :: l, 0, k, _, h => by
    rw [ixL, if_pos (Option.some.inj h)]
  | a :: l, i + 1, k, nd, h => by
    have h : l[i]? = some k := h
    have hm := List.mem_of_getElem? h
    rw [ixL, if_neg (fun z => (List.nodup_cons.mp nd).1 (by rw [z]; exact hm)), ixL_nodup (List.nodup_cons.mp nd).2 h]
end
/-- the numbers of keys -/
def numsOf (l : List (List Int)) : List (List Int × Nat) := l.mapIdx fun i k => (k, i)
theorem numsOf_snoc (l : List (List Int)) (k : List Int) : numsOf (l ++ [k]) = numsOf l ++ [(k, l.length)] := by
  unfold numsOf
  rw [List.mapIdx_append]
  simp
theorem numsOf_len (l : List (List Int)) : (numsOf l).length = l.length := by simp [numsOf]
theorem numsOf_val (k : List Int) (l : List (List Int)) : numV (numsOf l) k = if k ∈ l then some (ixL l k) else none := by
  refine list_snoc (p := fun l => numV (numsOf l) k = if k ∈ l then some (ixL l k) else none) (by simp [numsOf, numV]) (fun l a ih => ?_) l
  rw [numsOf_snoc]
  unfold numV at ih ⊢
  rw [List.find?_append]
  by_cases m : k ∈ l
  · rw [if_pos m] at ih
    rw [if_pos (List.mem_append.mpr (.inl m)), ixL_app m]
    cases e : (numsOf l).find? fun kv => decide (kv.1 = k) with
    | none =>
      rw [e] at ih
      cases ih
    | some kv =>
      rw [e] at ih
      exact ih
  · rw [if_neg m] at ih
    have e : ((numsOf l).find? fun kv => decide (kv.1 = k)) = none := by
      cases e : (numsOf l).find? fun kv => decide (kv.1 = k) with
      | none => rfl
      | some kv =>
        rw [e] at ih
        cases ih
    rw [e]
    by_cases c : a = k
    · subst c
      rw [if_pos (List.mem_append.mpr (.inr (List.mem_singleton.mpr rfl))), idx_new m]
      simp
    · rw [if_neg (fun h => (List.mem_append.mp h).elim m fun z => c (List.mem_singleton.mp z).symm)]
      simp [c]
def keyL (βi : Nat → Int) (sg : List Str) (δ : Nat → Str → Nat) (n : Nat) : List Int := βi n :: sg.map fun c => βi (δ n c)
end Sl
/-! ## V13 -/
set_option Elab.async false
set_option linter.all false
set_option maxRecDepth 100000
set_option maxHeartbeats 4000000
/-! the set of a text's signs: the call -/
namespace TxS
open PySem PySem.Spec PyProof.Rows L2 PySem.Froz
section
variable {P : Program} {w : World} {A : Around} {E : Value → Shared → Prop} {s : Shared}
theorem call_set_strTx {z : Str} {t0 : Tok} {Q : Value → Shared → Prop} (calm : A.handled = none) (room : (Sl.sgL z).length + 1 < scanBound)
    (fin : ∀ (h' : Heap) (tk : Nat), SetS P w h' s.heap.objs.size (addAll [] (Sl.sgL z)) →
      (∀ b o, s.heap.get? b = some o → h'.get? b = some o) → Q (.ref s.heap.objs.size) { s with heap := h', toks := tk }) :
    wpAny (model P w) A (call (.type "set") [.str z t0]) Q E s := by
  have mro := PySem.F.called_set.mro
  obtain ⟨top, rest, mro⟩ := mro
  have made := PySem.F.called_set.made
  have subs := PySem.F.called_set.sub
  have notType := PySem.F.called_set.notType
  have canBe := PySem.F.called_set.canCreate
  have checked := PySem.F.typeCall_set_1 (.str z t0)
  refine wpAny_call (codeAny_of_tree ?_)
  show wpAny _ _ (callAny (.type "set") _) _ _ _
  refine wpAny_pure ⟨Code.quiet_builtin _ (by decide +kernel),
    codeAny_builtin PySem.F.entry_type_call ?_⟩
  rw [Around.under_plain (weight_type_call_type "set" [.str z t0] [])
    rfl]
  repeat (any_goals (first | assumption | wp_step))
  let s0 : Shared := { s with heap := s.heap.push (emptyS w) }
  refine codeAny_mono (code_set_led1 (.str z t0) (E := E) (Q₁ := fun v t => v = .ref s.heap.objs.size ∧ t = s0) ⟨rfl, rfl⟩) fun r t hr => ?_
  cases r with
  | error e => exact hr
  | ok fl =>
    cases fl with
    | ret v =>
      obtain ⟨rfl, rfl⟩ := hr
      have at0 : s0.heap.get? s.heap.objs.size = some (emptyS w) := Heap.get?_push_size _ rfl
      have ty : s0.TypeIs (.ref s.heap.objs.size) "set" := ⟨_, at0, rfl⟩
      have look := PySem.F.called_set.init.lookup
      have binds := PySem.F.called_set.init.bind (.ref s.heap.objs.size)
      repeat (any_goals (first | assumption | wp_step))
      refine codeAny_mono (codeAny_call_builtin (R := wants (fun v t => v = .none ∧ ∃ h' tk, t = { s with heap := h', toks := tk } ∧
          SetS P w h' s.heap.objs.size (addAll [] (Sl.sgL z)) ∧ (∀ b o, s.heap.get? b = some o → h'.get? b = some o)) E)
        PySem.F.called_set.init.plain PySem.F.entry_set_init (check_set_init_1 ty ?_)) fun r2 t2 hr2 => ?_
      · have not1 := PySem.F.sub_str_set
        have not2 := PySem.F.sub_str_frozenset
        have not3 : (Value.type "str" == Value.type "dict") = false := by decide
        have size0 : s0.heap.objs.size = s.heap.objs.size + 1 := Heap.size_push ..
        unfold Builtin.«set.__init__» noKeywords Builtin.Frozenset.updateFrom
        generalize named : pyIter = PI
        have g0 : s0.gens = s.gens := rfl
        have d0 : s0.drawn = s.drawn := rfl
        have o0 : s0.os = s.os := rfl
        have old0 : ∀ b o, s.heap.get? b = some o → s0.heap.get? b = some o := fun b o e => Heap.get?_push_of_some _ e
        generalize s0 = z0 at *
        wp_walk
        subst named
        refine wpAny_pyIter_str fun ob St Wk st0 => wpAny_bind (wpAny_runValue ?_)
        have hA : A.in1.in1.in1.handled = none := by
          rw [← calm]
        have out : s.heap.objs.size ∉ [z0.heap.objs.size] := by
          intro c
          have e := List.mem_singleton.mp c
          rw [size0] at e
          exact absurd e (Nat.ne_of_lt (Nat.lt_succ_self _))
        have val : ∀ (i : Nat) (v : Value), SignAt z i v → ∃ k t, (Sl.sgL z)[i]? = some k ∧ v = .str k t := fun i v e => by
          obtain ⟨c, u, hc, rfl⟩ := e
          exact ⟨_, u, Sl.sgL_at hc, rfl⟩
        refine fillTx (Wk _ hA).toS s.heap.objs.size out (Sl.sgL z) (Sl.sgL_len z).symm val (z.cps.size - 0) 0 [] _ rfl (Nat.zero_le _) ?_ st0 ?_ ?_
        · have := Sl.sgL_len z
          show 0 + (z.cps.size - 0) + 1 < scanBound
          omega
        · exact emptyS_at (Heap.get?_push_of_some _ at0)
        · intro s3 m3 got
          obtain ⟨h3, g3, d3, t3, o3⟩ := s3
          have eg : g3 = s.gens := m3.gens.trans g0
          have ed : d3 = s.drawn := m3.drawn.trans d0
          have eo : o3 = s.os := m3.os.trans o0
          subst eg ed eo
          show wpAny _ _ _ _ _ _
          refine wpAny_pure ?_
          show wpAny _ _ (ret Value.none) _ _ _
          refine wpAny_pure ⟨rfl, h3, t3, rfl, got, fun b o e => ?_⟩
          have lb : b < s.heap.objs.size := Heap.lt_size e
          refine m3.heap b o (fun c => ?_) (Heap.get?_push_of_some _ (old0 b o e))
          rcases List.mem_cons.mp c with e | c
          · exact absurd e (Nat.ne_of_lt lb)
          · refine absurd (List.mem_singleton.mp c) (Nat.ne_of_lt ?_)
            rw [size0]
            exact Nat.lt_succ_of_lt lb
      · cases r2 with
        | error e => exact hr2
        | ok fl2 =>
          cases fl2 with
          | ret v =>
            obtain ⟨rfl, h', tk, rfl, got, old⟩ := hr2
            repeat (any_goals (first | assumption | wp_step))
            exact fin _ _ got old
          | _ => exact hr2.elim
    | _ => exact hr.elim
end
end TxS
/-! ## V7 -/
set_option Elab.async false
set_option linter.all false
set_option maxRecDepth 100000
set_option maxHeartbeats 4000000
/-! lambdas with captured names of others whose own parameters are captured, too -/
namespace Sl
open PySem PySem.Spec PyProof.Rows L2 LamX NdefX
/-! ### the frame -/
theorem lookApp {l m : List (Str × Addr)} {x : Str} {c : Addr} (h : l.lookup x = some c) : (l ++ m).lookup x = some c := by
  rw [List.lookup_append, h]
  rfl
theorem lookApp2 {l m : List (Str × Addr)} {x : Str} (h : l.lookup x = none) : (l ++ m).lookup x = m.lookup x := by
  rw [List.lookup_append, h]
  rfl
theorem store_same {env : Env} {cs : List (Str × Addr)} {n : Str} {v : Value} (h : env.kindOf n = some .local ∨ env.cells.lookup n = cs.lookup n) : storeName env n v = storeName { env with cells := cs } n v := by
  rcases h with h | h
  · have h' : ({ env with cells := cs } : Env).kindOf n = some .local := h
    unfold storeName
    rw [h, h']
    rfl
  · unfold storeName PySem.cellOf
    rw [h]
    rfl
theorem store_all {env : Env} {cs : List (Str × Addr)} {f g : Str × Value → PUnit → Sem (ForInStep PUnit)} (hf : ∀ n v u, f (n, v) u = (do storeName env n v; pure (.yield ⟨⟩))) (hg : ∀ n v u, g (n, v) u = (do storeName { env with cells := cs } n v; pure (.yield ⟨⟩))) :
    ∀ {binds : List (Str × Value)}, (∀ x ∈ binds, env.kindOf x.1 = some .local ∨ env.cells.lookup x.1 = cs.lookup x.1) → forIn binds ⟨⟩ f = forIn binds ⟨⟩ g
  | [], _ => by rw [List.forIn_nil, List.forIn_nil]
  | (n, v) :: r, h => by
    have ih := store_all (binds := r) hf hg fun x hx => h x (List.mem_cons_of_mem _ hx)
    rw [List.forIn_cons, List.forIn_cons, hf, hg, store_same (n := n) (h (n, v) List.mem_cons_self)]
    refine congrArg _ (funext fun x => ?_)
    cases x with
    | done b => rfl
    | yield b => exact ih
/-- the frame of a function that captured cl, and some of whose own names are captured -/
theorem frame_cl {M : Model} {A : Around} {E : Value → Shared → Prop} {s : Shared} {sc : Scope} {gl : Addr} {cl : List (Str × Addr)} {binds : List (Str × Value)} {qual : Str} {fn : Option Addr} {cd : Value} {bl : Addr} {Q : Env → Shared → Prop} (hk : sc.kind = .function)
    (hb : ∀ x ∈ binds, sc.names.lookup x.1 = some .local ∨ (sc.names.lookup x.1 = some .cell ∧ ((cellsFrom (s.heap.objs.size + 1) sc.names []).lookup x.1).isSome = true))
    (h : ∀ s', InCallC s s.heap.objs.size (bindL (fun y => sc.names.lookup y) binds fun _ => none) (cellsFrom (s.heap.objs.size + 1) sc.names []) (bindC (fun y => sc.names.lookup y) binds fun _ => none) s' →
      Q (newEnv sc s.heap.objs.size gl (cellsFrom (s.heap.objs.size + 1) sc.names cl) qual fn cd none bl) s') :
    wpAny M A (newFunctionEnv sc gl cl binds qual fn cd none bl) Q E s := by
  simp only [newFunctionEnv, Option.isSome_none, Bool.false_eq_true, if_false]
  refine wpAny_bind (wpAny_alloc (wpAny_bind (wpAny_layCells _ (fun nm kd cells => by cases hq : kd == NameKind.cell <;> simp [hq]) sc.names cl _ _ ?_)))
  rw [show ({ s with heap := s.heap.push { cls := .type "frame", data := .dict #[] } } : Shared).heap.objs.size = s.heap.objs.size + 1 from Heap.size_push ..]
  have k := cellsFrom_ok sc.names (s.heap.push { cls := .type "frame", data := .dict #[] }) (s.heap.objs.size + 1) [] ⟨fun _ _ e => (nomatch e), .nil⟩ (Nat.le_of_eq (Heap.size_push ..).symm)
  rw [Heap.size_push] at k
  have keep : ∀ b o, s.heap.get? b = some o → (pushCells (s.heap.push { cls := .type "frame", data := .dict #[] }) sc.names).get? b = some o := fun b o e => pushCells_keeps _ _ b o (Heap.get?_push_of_some _ e)
  refine wpAny_bind ?_
  rw [store_all (cs := cellsFrom (s.heap.objs.size + 1) sc.names []) (g := fun x _ => do storeName { (newEnv sc s.heap.objs.size gl (cellsFrom (s.heap.objs.size + 1) sc.names cl) qual fn cd none bl) with cells := cellsFrom (s.heap.objs.size + 1) sc.names [] } x.1 x.2; pure (.yield ⟨⟩)) (fun _ _ _ => rfl) (fun _ _ _ => rfl) fun x hx => ?_]
  · exact wpAny_bindParams (s₀ := s) (env := { (newEnv sc s.heap.objs.size gl (cellsFrom (s.heap.objs.size + 1) sc.names cl) qual fn cd none bl) with cells := cellsFrom (s.heap.objs.size + 1) sc.names [] }) _ (fun _ _ _ => rfl) hk binds (fun _ => none) (fun _ => none) _ _
      ⟨⟨⟨_, _, rfl⟩, (Heap.Ns.new s.heap (.type "frame")).keeps (pushCells_keeps _ _), keep, Nat.le_refl _⟩, fun n c e => (k.empty n c (mem_of_lookup e)).1, k.apart, fun n c e => (k.empty n c e).2⟩ hb fun s' x => wpAny_pure (h s' x)
  · rcases hb x hx with e | ⟨_, e⟩
    · exact .inl e
    · refine .inr ?_
      obtain ⟨c, e⟩ := Option.isSome_iff_exists.mp e
      show (cellsFrom (s.heap.objs.size + 1) sc.names cl).lookup x.1 = _
      rw [cellsFrom_over, lookApp e, e]
/-- its names: the parameters, then what it captured, then its locals -/
structure CScope (N ps fr : List Str) (sc : Scope) : Prop where
  kind : sc.kind = .function
  co : sc.isCoroutine = false
  gen : sc.isGenerator = false
  nd : N.Nodup
  pre : N.take (ps.length + fr.length) = ps ++ fr
  par : ∀ x ∈ ps, sc.names.lookup x = some .local ∨ sc.names.lookup x = some .cell
  nfr : ∀ y ∈ sc.names, y.2 = .cell → y.1 ∉ fr
  free : ∀ y ∈ sc.names, y.2 = .free → y.1 ∈ fr
  frk : ∀ x ∈ fr, sc.names.lookup x = some .free
def cscB (N ps fr : List Str) (sc : Scope) : Bool := decide (sc.kind = .function) && (!sc.isCoroutine && (!sc.isGenerator && (decide N.Nodup && (decide (N.take (ps.length + fr.length) = ps ++ fr) && (ps.all (fun x => decide (sc.names.lookup x = some .local) || decide (sc.names.lookup x = some .cell)) &&
  (sc.names.all (fun y => !decide (y.2 = .cell) || !decide (y.1 ∈ fr)) && (sc.names.all (fun y => !decide (y.2 = .free) || decide (y.1 ∈ fr)) && fr.all (fun x => decide (sc.names.lookup x = some .free)))))))))
theorem cscope_by {N ps fr : List Str} {sc : Scope} (h : cscB N ps fr sc = true) : CScope N ps fr sc := by
  unfold cscB at h
  simp only [Bool.and_eq_true, Bool.not_eq_true', decide_eq_true_eq, List.all_eq_true, Bool.or_eq_true, decide_eq_false_iff_not] at h
  obtain ⟨h1, h2, h3, h4, h5, h6, h7, h8, h9⟩ := h
  exact ⟨h1, h2, h3, h4, h5, h6, fun y hy e => (h7 y hy).elim (fun z => absurd e z) id, fun y hy e => (h8 y hy).elim (fun z => absurd e z) id, h9⟩
/-- the cells' names are names of cells -/
theorem from_cell : ∀ (names : List (Str × NameKind)) (n : Nat) {x : Str} {c : Addr}, (cellsFrom n names []).lookup x = some c → (x, NameKind.cell) ∈ names
  | [], _, _, _, h => by cases h
  | (y, kd) :: r, n, x, c, h => by
    by_cases e : kd = .cell
    · subst e
      have h : (cellsFrom (n + 1) r ([(y, n)])).lookup x = some c := h
      rw [show ([(y, n)] : List (Str × Addr)) = [] ++ [(y, n)] from rfl, cellsFrom_append] at h
      cases q : (cellsFrom (n + 1) r []).lookup x with
      | some c' => exact List.mem_cons_of_mem _ (from_cell r (n + 1) q)
      | none =>
        rw [lookApp2 q, List.lookup_cons] at h
        cases z : x == y with
        | true =>
          rw [beq_iff_eq.mp z]
          exact List.mem_cons_self
        | false =>
          rw [z] at h
          cases h
    · unfold cellsFrom at h
      have e' : (kd == NameKind.cell) = false := by cases kd <;> first | rfl | exact absurd rfl e
      rw [e'] at h
      exact List.mem_cons_of_mem _ (from_cell r n h)
abbrev envG (F : NF) (f L : Addr) : Env := PySem.W.envX F.qual F.scope L f (.ref F.c) (cellsFrom (L + 1) F.scope.names F.cl)
/-- the context of its body -/
def gcx (CX : CXT) (P : Program) (w : World) (K : PySem.W.Frag) (mg : Str → Option Value) (base : Heap) (N : List Str) (F : NF) (f : Addr) (A : Around) (outer : List Env) (s : Shared) (H : Hp) (E : XK) : Cx where
  prog := P
  w := w
  K := K
  mg := mg
  base := base
  A := A.deeper (envG F f s.heap.objs.size)
  N := N
  s_0 := s
  H_0 := H
  env := envG F f s.heap.objs.size
  outer := outer
  stack := envG F f s.heap.objs.size :: outer
  ex := []
  calm := true
  fn := fun _ => false
  pn := []
  xe := fun e s' => wpAny (model P w) (A.deeper (envG F f s.heap.objs.size)) (leaving (envG F f s.heap.objs.size) e) (fun _ s'' => CX outer H s E e s'') (fun e' s'' => CX outer H s E e' s'') s'
section
variable {CX : CXT} {P : Program} {w : World} {K : PySem.W.Frag} {mg : Str → Option Value} {base : Heap} {N ps fr : List Str} {F : NF} {f : Addr} {A : Around} {outer : List Env} {s s1 : Shared} {H : Hp} {E : XK} {us : List Value} {vs : List V} {ws : List (Option V)}
theorem inv_startC (S : CScope N ps fr F.scope) (hd : A.handled = none) (e0 : Env0 P w K mg base A outer s H) (hl : vs.length = ps.length) (r : Vals vs us) (C : CellsAt F.cl fr ws s.heap H)
    (x : InCallC s s.heap.objs.size (bindL (fun y => F.scope.names.lookup y) (ps.zip us) fun _ => none) (cellsFrom (s.heap.objs.size + 1) F.scope.names []) (bindC (fun y => F.scope.names.lookup y) (ps.zip us) fun _ => none) s1) :
    Inv (gcx CX P w K mg base N F f A outer s H E) [] (startF N vs ws) H s1 := by
  have hpl : ps.length + fr.length ≤ N.length := by
    have q := congrArg List.length S.pre
    rw [List.length_take, List.length_append] at q
    omega
  obtain ⟨h1, tk, rfl, kp⟩ := x.done
  have cellK : ∀ {c : Addr} {v : Option Value}, s.heap.IsCell c v → h1.IsCell c v := fun ⟨o, ho, hd⟩ => ⟨o, kp _ _ ho, hd⟩
  -- a name of the environment's cells: an own one, or a captured one
  have two : ∀ y c, (cellsFrom (s.heap.objs.size + 1) F.scope.names F.cl).lookup y = some c → (cellsFrom (s.heap.objs.size + 1) F.scope.names []).lookup y = some c ∨ ((cellsFrom (s.heap.objs.size + 1) F.scope.names []).lookup y = none ∧ F.cl.lookup y = some c) := fun y c e => by
    rw [cellsFrom_over] at e
    cases q : (cellsFrom (s.heap.objs.size + 1) F.scope.names []).lookup y with
    | some c' =>
      rw [lookApp q] at e
      exact .inl e
    | none =>
      rw [lookApp2 q] at e
      exact .inr ⟨rfl, e⟩
  have low : ∀ y c, F.cl.lookup y = some c → c < s.heap.objs.size := fun y c e => by
    obtain ⟨_, v, o, ho, _⟩ := C.all y c e
    exact Heap.lt_size ho
  have own : ∀ y c, (cellsFrom (s.heap.objs.size + 1) F.scope.names []).lookup y = some c → (cellsFrom (s.heap.objs.size + 1) F.scope.names F.cl).lookup y = some c := fun y c e => by
    rw [cellsFrom_over, lookApp e]
  have cap : ∀ y c, y ∈ fr → F.cl.lookup y = some c → (cellsFrom (s.heap.objs.size + 1) F.scope.names F.cl).lookup y = some c := fun y c hy e => by
    rw [cellsFrom_over]
    cases q : (cellsFrom (s.heap.objs.size + 1) F.scope.names []).lookup y with
    | some c' => exact absurd hy (S.nfr _ (from_cell _ _ q) rfl)
    | none => rw [lookApp2 q, e]
  have noA : ∀ b : Addr, b ∉ (gcx CX P w K mg base N F f A outer s H E).ex := fun b z => absurd (show b ∈ ([] : List Addr) from z) (by simp)
  refine ⟨⟨e0.mod, S.kind, rfl, rfl, Nat.le_refl _, fun y z c h1 h2 => ?_, fun y hy => ?_, fun y c z _ => ?_, fun _ => hd, Around.frames_deeper e0.frames, .inr ⟨rfl, rfl⟩, fun b z => absurd z (noA b), e0.bs, e0.bsz, fun b _ _ => noA b,
      fun b z => absurd z (noA b), e0.funs, e0.frf⟩,
    rfl, e0.bare, Un.kept kp, ⟨_, x.toInCall.ns, fun i y v e1 e2 e3 => ?_⟩, fun y c e => ?_, e0.hok.fresh (Nat.le_refl _), fun y c e => ?_, fun q hq => absurd (show q ∈ ([] : List (Addr × Obj)) from hq) (by simp), e0.hok.kept kp, ?_⟩
  · have h1 : (cellsFrom (s.heap.objs.size + 1) F.scope.names F.cl).lookup y = some c := h1
    have h2 : (cellsFrom (s.heap.objs.size + 1) F.scope.names F.cl).lookup z = some c := h2
    rcases two _ _ h1 with a | ⟨_, a⟩ <;> rcases two _ _ h2 with b | ⟨_, b⟩
    · exact name_of_addr x.apart (mem_of_lookup a) (mem_of_lookup b)
    · have k1 := x.above _ _ (mem_of_lookup a)
      exact absurd (low _ _ b) (Nat.not_lt.mpr (Nat.le_of_lt k1))
    · have k1 := x.above _ _ (mem_of_lookup b)
      exact absurd (low _ _ a) (Nat.not_lt.mpr (Nat.le_of_lt k1))
    · exact C.inj _ _ _ a b
  · have hy : F.scope.names.lookup y = some .cell ∨ F.scope.names.lookup y = some .free := hy
    show ∃ c, (cellsFrom (s.heap.objs.size + 1) F.scope.names F.cl).lookup y = some c
    rcases hy with hy | hy
    · obtain ⟨c, e⟩ := cell_has (n := s.heap.objs.size + 1) hy
      exact ⟨c, own y c e⟩
    · have hf := S.free _ (mem_of_lookup hy) rfl
      obtain ⟨i, hi⟩ := List.mem_iff_getElem?.mp hf
      obtain ⟨c, hc, _⟩ := C.has i y hi
      exact ⟨c, cap y c hf hc⟩
  · have z : false = true := z
    cases z
  · have e1 : N[i]? = some y := e1
    have clen := C.len
    unfold startF at e2
    by_cases h1 : i < ps.length
    · have hq : (ps ++ fr)[i]? = some y := by
        rw [← S.pre, List.getElem?_take_of_lt (by omega)]
        exact e1
      rw [List.getElem?_append_left h1] at hq
      rw [List.getElem?_append_left (by rw [List.length_map]; omega), List.getElem?_map] at e2
      have ha : vs[i]? = some v := by
        cases e : vs[i]? with
        | none => rw [e] at e2; cases e2
        | some a => rw [e] at e2; cases e2; rfl
      obtain ⟨u, hu, rv⟩ := r.get ha
      have ndP : ps.Nodup := by
        have q := S.nd.sublist (List.take_sublist (ps.length + fr.length) N)
        rw [S.pre] at q
        exact (List.nodup_append.mp q).1
      refine ⟨u, rv, ?_⟩
      rcases S.par y (List.mem_of_getElem? hq) with kd | kd
      · exact .inl ⟨kd, bindL_get ndP hq hu kd⟩
      · obtain ⟨c, e⟩ := cell_has (n := s.heap.objs.size + 1) kd
        refine .inr ⟨.inl kd, c, own y c e, ?_⟩
        have q := x.cell y c e
        rw [bindC_get ndP hq hu (by show F.scope.names.lookup y ≠ _; rw [kd]; decide)] at q
        exact q
    · rw [List.getElem?_append_right (by rw [List.length_map]; omega), List.length_map] at e2
      by_cases h2 : i < ps.length + fr.length
      · have hq : (ps ++ fr)[i]? = some y := by
          rw [← S.pre, List.getElem?_take_of_lt (by omega)]
          exact e1
        rw [List.getElem?_append_right (by omega)] at hq
        rw [List.getElem?_append_left (by omega), hl] at e2
        obtain ⟨c, hc, hv⟩ := C.has (i - ps.length) y hq
        obtain ⟨u, ru, hu⟩ := hv v e2
        have hf := List.mem_of_getElem? hq
        exact ⟨u, ru, .inr ⟨.inr (S.frk y hf), c, cap y c hf hc, cellK hu⟩⟩
      · rw [List.getElem?_append_right (by omega), List.getElem?_replicate] at e2
        split at e2 <;> cases e2
  · rcases two _ _ e with a | ⟨_, a⟩
    · exact ⟨_, x.cell y c a⟩
    · obtain ⟨v, z⟩ := (C.all y c a).2
      exact ⟨v, cellK z⟩
  · rcases two _ _ e with a | ⟨_, a⟩
    · exact e0.hok.fresh (Nat.le_of_lt (x.above y c (mem_of_lookup a)))
    · exact (C.all y c a).1
  · have clen := C.len
    unfold startF
    show _ = N.length
    rw [List.length_append, List.length_append, List.length_map, List.length_replicate]
    omega
end
section
variable {CX : CXT} {P : Program} {w : World} {K : PySem.W.Frag} {mg : Str → Option Value} {base : Heap} {N ps fr : List Str} {F : LF} {f : Addr} {k j : Nat} {sp sp' : List (Option V) → Sp}
/-- THE RULE: such a lambda by its body -/
theorem lok_ofC (S : CScope N ps fr F.scope) (hb : ∀ (pm ctv : Value) (us : List Value), us.length = ps.length → bindArgs (F.fd pm ctv) ⟨us, []⟩ = pure (ps.zip us)) (len : ∀ ws vs H Q E, sp ws vs H Q E → vs.length = ps.length)
    (hbody : ∀ (f : Addr) (A : Around) (outer : List Env) (s : Shared) (H : Hp) (vs : List V) (ws : List (Option V)) (Q : VK) (E : XK), Room k (A.deeper (envG F.nf f s.heap.objs.size)) → H f = some (LamO f F) → H F.c = some (CodeO F.c F.qual) → ws.length = fr.length → sp ws vs H Q E →
      ∃ t, PE (gcx CX P w K mg base N F.nf f A outer s H E) F.body t ∧ t (startF N vs ws) H Q) :
    LOk P w K mg base CX (k + 1) F ps fr sp := by
  refine ⟨len, fun f A outer s H us vs ws Q E hr e0 hf hc C r hsp => ?_⟩
  have hl := len _ _ _ _ _ hsp
  have lim : s.heap.NoLimit := e0.mod.nolimit.keeps fun b o e => (e0.bs b o e).1
  obtain ⟨od, sl, pm, ctv, ho⟩ := lamO_at e0.hok hf
  refine PySem.W.kla_callFunE hr.depth ho rfl S.co S.gen rfl (codeO_at e0.hok hc) ?_
  rw [hb pm ctv us (by rw [← r.length]; exact hl)]
  refine wpAny_pure (frame_cl S.kind (fun ⟨n, v⟩ hy => ?_) fun s1 x => ⟨lim.keeps x.toInCall.keep, ?_⟩)
  · rcases S.par n (List.of_mem_zip hy).1 with q | q
    · exact .inl q
    · exact .inr ⟨q, PySem.W.cellsFrom_some _ _ _ (.inl q)⟩
  · show codeAny _ _ (.expr F.body (envG F.nf f s.heap.objs.size)) _ _
    obtain ⟨t, ht, hq⟩ := hbody f A outer s H vs ws Q E (hr.deeper _) hf hc C.len hsp
    have I : Inv (gcx CX P w K mg base N F.nf f A outer s H E) [] (startF N vs ws) H s1 := inv_startC (F := F.nf) S hr.hd e0 hl r C x
    refine PySem.W.kla_codeExpr (wpAny_mono (ht.run [] _ (startF N vs ws) H Q I hq) (fun u s' hs => ?_) fun e s' hs => hs)
    obtain ⟨v, H', J, rv, q⟩ := hs
    exact ⟨v, H', J.os, J.bare, J.base, J.hok, rv, q⟩
end
end Sl
/-! ## V9 -/
set_option Elab.async false
set_option linter.all false
set_option maxRecDepth 100000
set_option maxHeartbeats 4000000
set_option pp.maxSteps 1500
set_option pp.deepTerms false
/-! _split: the blocks by where their states lead -/
namespace Sl
open PySem PySem.Spec PyProof.Rows L2
abbrev sSplit : Stmt := top 17
def spSplit (P : Program) (w : World) (K : PySem.W.Frag) : Sp := fun vs H Q _ => ∃ (kb : Bool) (z : Str) (st od bl : Addr) (rows : List Addr) (order : List Nat) (β : Nat → V) (βi : Nat → Int) (δ : Nat → Str → Nat), vs = [.str z, .ref st, .ref od, .ref bl] ∧
  SqK K kb H st (rows.map V.ref) ∧ RowsAt H rows (sgL z) δ ∧ H od = some (.lst (order.map fun n => V.int (n : Nat))) ∧ H bl = some (.dK (blkD order β)) ∧ (∀ n, nkV (β n) = some (βi n)) ∧ order.Nodup ∧ order.length ≤ 1000 ∧
  (∀ n ∈ order, n < rows.length ∧ ∀ c ∈ sgL z, δ n c ∈ order) ∧ z.cps.size ≤ 100 ∧
  ∀ (H' : Hp) (t sp : Addr), Ext H H' → H t = none → H sp = none → H' t = some (.tup [.ref sp, .int ((metL (order.map (keyL βi (sgL z) δ))).length : Nat)]) →
    H' sp = some (.dK (blkD order fun n => .int (ixL (metL (order.map (keyL βi (sgL z) δ))) (keyL βi (sgL z) δ n) : Nat))) → Q (.ref t) H'
abbrev nSplit : List Str := ["signs", "states", "order", "blocks", "numbers", "split", "state", "key", "sign"]
section
variable {P : Program} {w : World} {K : PySem.W.Frag} {mg : Str → Option Value} {base : Heap}
theorem scSplit : FnScope nSplit ["signs", "states", "order", "blocks"] (defScope sSplit) := ⟨rfl, rfl, rfl, by decide +kernel, rfl, by decide +kernel, by decide +kernel⟩
theorem ok_split {f : Addr} {fd : FuncData} (Fn : Fun K "_split" "_split" sSplit f fd) (zn : mg "len" = none) (zt : mg "tuple" = none) : FnOk P w K mg base CX0 1 f fd ["signs", "states", "order", "blocks"] (spSplit P w K) := by
  refine Fun.ok Fn scSplit (fun vs H Q E h => ?_) (fun cdv A0 outer s H vs Q E hr h => ?_)
  · obtain ⟨kb, z, st, od, bl, rows, order, β, βi, δ, rfl, _⟩ := h
    rfl
  · obtain ⟨kb, z, st, od, bl, rows, order, β, βi, δ, rfl, hst, hrows, hod, hbl, hβ, nd, lo, cl, zl, kk⟩ := h
    have hu := hu_of hr
    have hu9 : (A0.deeper (envOfC "_split" (defScope sSplit) s.heap.objs.size f cdv)).units + 9 < cLine := by
      have := hr.un
      omega
    refine ⟨_, pss_cons (ps_set (i := 4) (te := tDNewN P w) scSplit.nd rfl (.inl rfl) pe_dnewN)
      (pss_cons (ps_set (i := 5) scSplit.nd rfl (.inl rfl) pe_dnewK)
      (pss_cons (ps_for PassesOwn.never rfl (pi_list (pv 2)) (pg_name (i := 6) scSplit.nd rfl (.inr rfl))
        (pss_cons (ps_set (i := 7) scSplit.nd rfl (.inl rfl) (pe_callTy call_tuple_of (by rfl) zt (by decide +kernel) (pa_cons (pe_op op_cat (pe_lst (pa_cons (pe_dget hu (pe_var (i := 3) rfl (.inr (.inl rfl))) (pe_var (i := 6) rfl (.inr (.inl rfl))) (fun _ _ => rfl)) pa_nil))
            (pe_lc (own := [("sign", 8)]) (g := gName 8) (tt := tYes) (te := tDGet (tVar 3) (tDGet (tOp (rIx K) (tVar 1) (tVar 6)) (tVar 8))) rfl scSplit.nd (pi_str (pv 0)) (blkOk_by (N := nSplit) (sc := defScope sSplit) (by decide +kernel))
              (fun _ _ _ _ _ => pg_name (i := 8) scSplit.nd rfl (Or.inl rfl)) (fun _ _ _ _ _ => pts_nil)
              (fun _ _ _ _ _ => pe_dget hu (pe_var (i := 3) rfl (.inr (.inl rfl))) (pe_dget hu (pe_ix ix_seq (pe_var (i := 1) rfl (.inr (.inl rfl))) (pe_var (i := 6) rfl (.inr (.inl rfl))) (fun _ _ => rfl)) (pv 8) (fun _ _ => rfl)) (fun _ _ => rfl)))) pa_nil)))
        (pss_one (ps_dput hu (pv 5) (pe_var (i := 6) rfl (.inr (.inl rfl))) (pe_dsetN hu9 (pv 4) (pv 7) (pe_callB call_lenN (by rfl) zn PySem.boot_len (pa_cons (pv 4) pa_nil)) ⟨rfl, rfl, rfl, rfl⟩) rfl))))
      (pss_one (ps_ret (pe_tup (pa_cons (pv 5) (pa_cons (pe_callB call_lenN (by rfl) zn PySem.boot_len (pa_cons (pv 4) pa_nil)) pa_nil))))))), ?_⟩
    refine fun nu nn h0 => ?_
    have x1 := Ext.new nn (o := NumO P w nu [])
    generalize upd H nu (NumO P w nu []) = H1 at x1 h0 ⊢
    have hr0 := fun (H' : Hp) (x : Ext H H') => (⟨hst.ext x, hrows.ext x, x _ _ hod, x _ _ hbl⟩ : SqK K kb H' st (rows.map V.ref) ∧ RowsAt H' rows (sgL z) δ ∧ H' od = some (.lst (order.map fun n => V.int (n : Nat))) ∧ H' bl = some (.dK (blkD order β)))
    generalize hkey : keyL βi (sgL z) δ = key at kk
    generalize hR : metL (order.map key) = R at kk
    refine fun sp ns => ?_
    have x2 := x1.trans (Ext.new ns (o := .dK []))
    have h2 : NumAt P w (upd H1 sp (.dK [])) nu [] := h0.ext (fun o e => Ext.new ns _ _ e) fun t vs e => Ext.new ns _ _ e
    have hs2 : (upd H1 sp (.dK [])) sp = some (.dK []) := upd_same
    have nsH := x1.free ns
    have nus : nu ≠ sp := by
      obtain ⟨xs, e, _⟩ := h0
      exact ne_of_none e ns
    generalize upd H1 sp (.dK []) = H2 at x2 h2 hs2 ⊢
    refine ⟨_, rfl, od, rfl, ⟨_, SqL.of (hr0 _ x2).2.2.1⟩, ?_⟩
    refine for_it (walk_list (xs := order.map fun n => V.int (n : Nat))) (fun i σ H' => ∃ v6 v7, σ = [some (.str z), some (.ref st), some (.ref od), some (.ref bl), some (.ref nu), some (.ref sp), v6, v7, none] ∧ Ext H H' ∧ NumAt P w H' nu (numsOf (metL ((order.take i).map key))) ∧
        H' sp = some (.dK (blkD (order.take i) fun n => .int (ixL R (key n) : Nat))))
      ⟨none, none, rfl, x2, h2, hs2⟩ (fun i σ H' _ ⟨_, _, _, x, _⟩ => SqL.of (hr0 _ x).2.2.1) ?_ ?_
    · rintro i x σ H3 H4 hi ⟨v6, v7, rfl, x3, hn3, hs3⟩ ⟨rfl, hx⟩
      obtain ⟨n, hn, rfl⟩ := at_map hx
      obtain ⟨q1, q2, q3, q4⟩ := hr0 _ x3
      obtain ⟨nN, ncl⟩ := cl n (List.mem_of_getElem? hn)
      have hm := List.mem_of_getElem? hn
      have lnk : (order.take i).length ≤ 1000 := by
        rw [List.length_take]
        omega
      have hg : ∀ (H' : Hp) (m : Nat), Ext H H' → m ∈ order → DGet H' bl (.int m) (some (β m)) := fun H' m x hm => by
        have := DGet.k (k := keyI m) (hr0 _ x).2.2.2
        rw [blk_val, if_pos hm] at this
        exact this
      -- the key
      refine ⟨_, rfl, _, rfl, bl, β n, rfl, hg _ n x3 hm, by show 1 ≤ sizeLine; decide, fun p np => ?_⟩
      have x4 := x3.trans (Ext.new np (o := .lst [β n]))
      have hn4 : NumAt P w (upd H4 p (.lst [β n])) nu (numsOf (metL ((order.take i).map key))) := hn3.ext (fun o e => Ext.new np _ _ e) fun t vs e => Ext.new np _ _ e
      have hs4 := Ext.new np (o := .lst [β n]) _ _ hs3
      have hp4 : (upd H4 p (.lst [β n])) p = some (.lst [β n]) := upd_same
      generalize upd H4 p (.lst [β n]) = H5 at x4 hn4 hs4 hp4 ⊢
      refine ⟨_, rfl, z, rfl, fun D nD => ?_⟩
      refine lc_it (walk_str (z := z)) (fun j H' => Ext H5 H' ∧ H' D = some (.lst (((sgL z).take j).map fun c => β (δ n c)))) ⟨Ext.new nD, upd_same⟩ (fun _ _ _ _ => trivial) ?_ ?_
      · rintro j y H6 H7 hj ⟨x6, hD6⟩ ⟨rfl, c, hc, rfl⟩
        have hsg := sgL_at hc
        have cm := List.mem_of_getElem? hsg
        have x06 := x4.trans x6
        obtain ⟨w1, w2, w3, w4⟩ := hr0 _ x06
        obtain ⟨r, hr⟩ : ∃ r, rows[n]? = some r := ⟨_, List.getElem?_eq_getElem nN⟩
        obtain ⟨kr, hk1, hk2⟩ := w2 n r hr
        have ha : atI (rows.map V.ref) (n : Int) = some (.ref r) := atI_nat (by rw [List.getElem?_map, hr]; rfl)
        have hq : rIx K (.ref st) (.int n) H7 = rIx K (.ref st) (.int n) H7 := rfl
        have gr : DGet H7 r (.str ⟨#[c]⟩) (some (.int (δ n ⟨#[c]⟩ : Nat))) := by
          rw [← hk2 _ cm]
          exact DGet.k (k := keyC ⟨#[c]⟩) hk1
        refine ⟨rfl, ?_⟩
        dsimp only [tYes]
        rw [if_pos rfl]
        refine ⟨_, rfl, _, rfl, _, rfl, ?_⟩
        have fin : ∃ a v, V.ref r = V.ref a ∧ DGet H7 a (.str ⟨#[c]⟩) (some v) ∧ ∃ a' v', V.ref bl = V.ref a' ∧ DGet H7 a' v (some v') ∧ ∃ acc, H7 D = some (.lst acc) ∧ acc.length < sizeLine ∧ Ext H5 (upd H7 D (.lst (acc ++ [v']))) ∧ (upd H7 D (.lst (acc ++ [v']))) D = some (.lst (((sgL z).take (j + 1)).map fun c => β (δ n c))) := by
          refine ⟨r, _, rfl, gr, bl, _, rfl, hg _ _ x06 (ncl _ cm), _, hD6, ?_, fun a o e => ?_, ?_⟩
          · rw [List.length_map, List.length_take, sgL_len]
            exact small1000 (by omega)
          · rw [upd_ne (ne_of_none e nD)]
            exact x6 _ _ e
          · rw [upd_same, take_more hsg, List.map_append]
            rfl
        rcases w1.or with q | q
        · exact .inl ⟨st, _, n, _, rfl, rfl, q, ha, _, rfl, fin⟩
        · exact .inr (.inl ⟨st, _, n, _, rfl, rfl, q, ha, _, rfl, fin⟩)
      · rintro H6 ⟨x6, hD6⟩
        rw [← sgL_len, List.take_length] at hD6
        have x06 := x4.trans x6
        have hn6 : NumAt P w H6 nu (numsOf (metL ((order.take i).map key))) := hn4.ext (fun o e => x6 _ _ e) fun t vs e => x6 _ _ e
        have hs6 := x6 _ _ hs4
        have hp6 := x6 _ _ hp4
        refine ⟨p, D, _, _, rfl, rfl, hp6, hD6, ?_, fun l nl => ?_⟩
        · rw [List.length_map, sgL_len]
          show 1 + z.cps.size ≤ sizeLine
          exact Nat.le_of_lt (small1000 (by omega))
        refine ⟨l, _, rfl, .inl ⟨SqL.of upd_same, fun t nt => ?_⟩⟩
        have xl := Ext.new nl (o := .lst ([β n] ++ (sgL z).map fun c => β (δ n c)))
        have xt := xl.trans (Ext.new nt (o := .tup ([β n] ++ (sgL z).map fun c => β (δ n c))))
        have ht : (upd (upd H6 l (.lst ([β n] ++ (sgL z).map fun c => β (δ n c)))) t (.tup ([β n] ++ (sgL z).map fun c => β (δ n c)))) t = some (.tup ([β n] ++ (sgL z).map fun c => β (δ n c))) := upd_same
        have hv : ([β n] ++ (sgL z).map fun c => β (δ n c)).map nkV = (key n).map some := by
          rw [← hkey]
          unfold keyL
          rw [List.cons_append, List.nil_append, List.map_cons, List.map_cons, List.map_map, List.map_map, hβ]
          refine congrArg _ (List.map_congr_left fun c _ => ?_)
          exact hβ _
        generalize upd (upd H6 l (.lst ([β n] ++ (sgL z).map fun c => β (δ n c)))) t (.tup ([β n] ++ (sgL z).map fun c => β (δ n c))) = H7 at xt ht ⊢
        have x7 := x06.trans xt
        have hn7 : NumAt P w H7 nu (numsOf (metL ((order.take i).map key))) := hn6.ext (fun o e => xt _ _ e) fun t vs e => xt _ _ e
        have hs7 := xt _ _ hs6
        have tk : (order.take (i + 1)).map key = (order.take i).map key ++ [key n] := by
          rw [take_more hn, List.map_append]
          rfl
        have pre : metL ((order.take i).map key ++ [key n]) <+: R := by
          rw [← tk, ← hR]
          have := metL_pre ((order.take (i + 1)).map key) ((order.drop (i + 1)).map key)
          rwa [← List.map_append, List.take_append_drop] at this
        rw [metL_snoc] at pre
        have Ml : (metL ((order.take i).map key)).length ≤ 1000 := by
          have := metL_len ((order.take i).map key)
          rw [List.length_map] at this
          omega
        have nin : valV (blkD (order.take i) fun n => .int (ixL R (key n) : Nat)) (keyI n) = none := by
          rw [blk_val]
          refine if_neg fun h => ?_
          have h1 : (order.take (i + 1)).Nodup := nd.sublist (List.take_sublist _ _)
          rw [take_more hn] at h1
          exact (List.nodup_append.mp h1).2.2 n h n (by simp) rfl
        have put : ∀ H' : Hp, H' sp = some (.dK (blkD (order.take i) fun n => .int (ixL R (key n) : Nat))) → DPut H' sp (.int n) (.int (ixL R (key n) : Nat)) (upd H' sp (.dK (blkD (order.take (i + 1)) fun n => .int (ixL R (key n) : Nat)))) := fun H' e => by
          have q := DPut.k (k := keyI n) (v := .int (ixL R (key n) : Nat)) e (by rw [blk_len]; exact small1000 lnk)
          rw [putK_new _ nin, ← blk_snoc _ n (fun n => V.int (ixL R (key n) : Nat)), ← take_more hn] at q
          exact q
        refine ⟨_, rfl, nu, _, rfl, hn7, _, rfl, _, rfl, nu, _, rfl, hn7, by rw [numsOf_len]; exact Nat.le_of_lt (small1000 Ml), _, key n, _, t, _, hn7, rfl, ht, hv, rfl, by rw [numsOf_len]; exact small1000 Ml, fun m hm => ?_, fun hm o ho => ?_⟩
        · rw [numsOf_val] at hm
          by_cases c : key n ∈ metL ((order.take i).map key)
          · rw [if_pos c] at hm pre
            obtain rfl := Option.some.inj hm
            rw [← idx_pre pre c]
            refine ⟨_, rfl, _, rfl, sp, _, rfl, put _ hs7, ?_⟩
            refine ⟨_, _, rfl, fun a o e => ?_, ?_, upd_same⟩
            · rw [upd_ne (ne_of_none e nsH)]
              exact x7 _ _ e
            · rw [tk, metL_snoc, if_pos c]
              refine hn7.ext (fun o e => ?_) fun t vs e => ?_
              · rw [upd_ne nus]
                exact e
              · rw [upd_ne (ne_of e hs7 (by intro z; cases z))]
                exact e
          · rw [if_neg c] at hm
            cases hm
        · rw [numsOf_val] at hm
          by_cases c : key n ∈ metL ((order.take i).map key)
          · rw [if_pos c] at hm
            cases hm
          · rw [if_neg c] at pre
            have ek : ixL R (key n) = (metL ((order.take i).map key)).length := by
              rw [idx_pre pre (by simp), idx_new c]
            rw [numsOf_len] at ho ⊢
            rw [← ek] at ho ⊢
            have hs8 : (upd H7 nu o) sp = some (.dK (blkD (order.take i) fun n => .int (ixL R (key n) : Nat))) := by
              rw [upd_ne nus.symm]
              exact hs7
            refine ⟨_, rfl, _, rfl, sp, _, rfl, put _ hs8, ?_⟩
            refine ⟨_, _, rfl, fun a o e => ?_, ?_, upd_same⟩
            · rw [upd_ne (ne_of_none e nsH), upd_ne (ne_of_none e nn)]
              exact x7 _ _ e
            · rw [tk, metL_snoc, if_neg c, numsOf_snoc, ← ek]
              refine ho.ext (fun o e => ?_) fun t vs e => ?_
              · rw [upd_ne nus]
                exact e
              · rw [upd_ne (ne_of e hs8 (by intro z; cases z))]
                exact e
    · rintro σ H3 ⟨v6, v7, rfl, x3, hn3, hs3⟩
      rw [List.length_map, List.take_length] at hn3 hs3
      rw [hR] at hn3
      have hRl : R.length ≤ 1000 := by
        have := metL_len (order.map key)
        rw [hR, List.length_map] at this
        omega
      refine ⟨_, rfl, _, rfl, nu, _, rfl, hn3, by rw [numsOf_len]; exact Nat.le_of_lt (small1000 hRl), by show 2 ≤ sizeLine; decide, fun t nt => kk _ t sp (x3.trans (Ext.new nt)) (x3.free nt) nsH ?_ (Ext.new nt _ _ hs3)⟩
      rw [upd_same, numsOf_len]
end
end Sl
/-! ## V10 -/
set_option Elab.async false
set_option linter.all false
set_option maxRecDepth 100000
set_option maxHeartbeats 4000000
set_option pp.maxSteps 1500
set_option pp.deepTerms false
/-! _firsts: the first state of each block -/
namespace Sl
open PySem PySem.Spec PyProof.Rows L2
abbrev sFirsts : Stmt := top 18
def firL (γ : Nat → Nat) (order : List Nat) : List Nat := order.foldl (fun acc n => if γ n = acc.length then acc ++ [n] else acc) []
theorem firL_snoc (γ : Nat → Nat) (l : List Nat) (n : Nat) : firL γ (l ++ [n]) = if γ n = (firL γ l).length then firL γ l ++ [n] else firL γ l := by
  unfold firL
  rw [List.foldl_append]
  rfl
theorem firL_len (γ : Nat → Nat) (l : List Nat) : (firL γ l).length ≤ l.length := by
  refine list_snoc (p := fun l => (firL γ l).length ≤ l.length) (by simp [firL]) (fun l a ih => ?_) l
  rw [firL_snoc, List.length_append]
  by_cases c : γ a = (firL γ l).length
  · rw [if_pos c, List.length_append]
    simpa using ih
  · rw [if_neg c]
    omega
theorem firL_sub (γ : Nat → Nat) (l : List Nat) : ∀ n ∈ firL γ l, n ∈ l := by
  refine list_snoc (p := fun l => ∀ n ∈ firL γ l, n ∈ l) (by simp [firL]) (fun l a ih => ?_) l
  rw [firL_snoc]
  intro n hn
  by_cases c : γ a = (firL γ l).length
  · rw [if_pos c] at hn
    rcases List.mem_append.mp hn with h | h
    · exact List.mem_append.mpr (.inl (ih n h))
    · exact List.mem_append.mpr (.inr h)
  · rw [if_neg c] at hn
    exact List.mem_append.mpr (.inl (ih n hn))
/-- the firsts of the blocks of keys -/
theorem firL_keys {α : Type} [DecidableEq α] (key : Nat → α) (order : List Nat) : ∀ l, l <+: order → (firL (fun n => ixL (metL (order.map key)) (key n)) l).map key = metL (l.map key) := fun l => by
  refine list_snoc (p := fun l => l <+: order → (firL (fun n => ixL (metL (order.map key)) (key n)) l).map key = metL (l.map key)) (fun _ => rfl) (fun l n ih hp => ?_) l
  obtain ⟨t, ht⟩ := hp
  have ih := ih ⟨[n] ++ t, by rw [← List.append_assoc]; exact ht⟩
  have ln := congrArg List.length ih
  rw [List.length_map] at ln
  have pre : metL (l.map key ++ [key n]) <+: metL (order.map key) := by
    have := metL_pre ((l ++ [n]).map key) (t.map key)
    rw [← List.map_append, ht, List.map_append] at this
    exact this
  rw [firL_snoc, List.map_append]
  have e0 : ([n].map key) = [key n] := rfl
  rw [e0]
  rw [metL_snoc] at pre ⊢
  by_cases c : key n ∈ metL (l.map key)
  · rw [if_pos c] at pre ⊢
    have h1 := ixL_lt c
    rw [if_neg (by rw [idx_pre pre c, ln]; exact Nat.ne_of_lt h1)]
    exact ih
  · rw [if_neg c] at pre ⊢
    rw [if_pos (by rw [idx_pre pre (by simp), idx_new c, ln]), List.map_append, ih]
    rfl
def spFirsts : Sp := fun vs H Q _ => ∃ (od bl : Addr) (order : List Nat) (γ : Nat → Nat), vs = [.ref od, .ref bl] ∧ H od = some (.lst (order.map fun n => V.int (n : Nat))) ∧ H bl = some (.dK (blkD order fun n => .int (γ n : Nat))) ∧ order.length ≤ 1000 ∧
  ∀ (H' : Hp) (p : Addr), Ext H H' → H p = none → H' p = some (.lst ((firL γ order).map fun n => V.int (n : Nat))) → Q (.ref p) H'
abbrev nFirsts : List Str := ["order", "blocks", "firsts", "state"]
section
variable {P : Program} {w : World} {K : PySem.W.Frag} {mg : Str → Option Value} {base : Heap}
theorem scFirsts : FnScope nFirsts ["order", "blocks"] (defScope sFirsts) := ⟨rfl, rfl, rfl, by decide +kernel, rfl, by decide +kernel, by decide +kernel⟩
theorem ok_firsts {f : Addr} {fd : FuncData} (Fn : Fun K "_firsts" "_firsts" sFirsts f fd) (zn : mg "len" = none) : FnOk P w K mg base CX0 1 f fd ["order", "blocks"] spFirsts := by
  refine Fun.ok Fn scFirsts (fun vs H Q E h => ?_) (fun cdv A0 outer s H vs Q E hr h => ?_)
  · obtain ⟨od, bl, order, γ, rfl, _⟩ := h
    rfl
  · obtain ⟨od, bl, order, γ, rfl, hod, hbl, lo, kk⟩ := h
    have hu := hu_of hr
    refine ⟨_, pss_cons (ps_set (i := 2) scFirsts.nd rfl (.inl rfl) (pe_lst pa_nil))
      (pss_cons (ps_for PassesOwn.never rfl (pi_list (pv 0)) (pg_name (i := 3) scFirsts.nd rfl (.inl rfl))
        (pss_one (ps_if (pt_cmpR op_eq (pe_dget hu (pv 1) (pv 3) (fun _ _ => rfl)) (pe_callB call_len_seq (by rfl) zn PySem.boot_len (pa_cons (pv 2) pa_nil)) (nomark _))
          (pss_one (ps_expr (pe_bm PySem.F.plainAttrs_list PySem.F.slot_list_append PySem.F.type_list_append mt_append (pv 2) (pa_cons (pv 3) pa_nil)))) pss_nil)))
      (pss_one (ps_ret (pv 2)))), ?_⟩
    refine ⟨by show 0 ≤ sizeLine; decide, fun p np => ?_⟩
    have x1 := Ext.new np (o := .lst [])
    have hp1 : (upd H p (.lst [])) p = some (.lst []) := upd_same
    generalize upd H p (.lst []) = H1 at x1 hp1 ⊢
    refine ⟨_, rfl, od, rfl, ⟨_, SqL.of (x1 _ _ hod)⟩, ?_⟩
    refine for_it (walk_list (xs := order.map fun n => V.int (n : Nat))) (fun i σ H' => ∃ v3, σ = [some (.ref od), some (.ref bl), some (.ref p), v3] ∧ Ext H H' ∧ H' p = some (.lst ((firL γ (order.take i)).map fun n => V.int (n : Nat))))
      ⟨none, rfl, x1, hp1⟩ (fun i σ H' _ ⟨_, _, x, _⟩ => SqL.of (x _ _ hod)) ?_ ?_
    · rintro i x σ H3 H4 hi ⟨v3, rfl, x3, hp3⟩ ⟨rfl, hx⟩
      obtain ⟨n, hn, rfl⟩ := at_map hx
      have g : DGet H4 bl (.int n) (some (.int (γ n : Nat))) := by
        have := DGet.k (k := keyI n) (x3 _ _ hbl)
        rw [blk_val, if_pos (List.mem_of_getElem? hn)] at this
        exact this
      have fl := firL_len γ (order.take i)
      rw [List.length_take] at fl
      have tk : firL γ (order.take (i + 1)) = if γ n = (firL γ (order.take i)).length then firL γ (order.take i) ++ [n] else firL γ (order.take i) := by
        rw [take_more hn, firL_snoc]
      refine ⟨_, rfl, _, rfl, bl, _, rfl, g, _, rfl, p, _, rfl, .inl (SqL.of hp3), rfl, ?_⟩
      rw [List.length_map]
      have ed : decide (V.int (γ n : Nat) = V.int ((firL γ (order.take i)).length : Nat)) = decide (γ n = (firL γ (order.take i)).length) := by
        rw [dec_int]
        by_cases c : γ n = (firL γ (order.take i)).length
        · rw [c]
          simp
        · rw [decide_eq_false c]
          simp only [beq_eq_false_iff_ne, ne_eq]
          omega
      rw [ed]
      refine ⟨_, rfl, ?_⟩
      by_cases c : γ n = (firL γ (order.take i)).length
      · rw [decide_eq_true c]
        dsimp only
        rw [if_pos rfl]
        refine ⟨_, rfl, .inl ⟨rfl, _, SqL.of hp3⟩, _, rfl, p, _, _, rfl, rfl, hp3, by rw [List.length_map]; exact small1000 (by omega), ?_⟩
        refine ⟨_, rfl, fun a o e => ?_, ?_⟩
        · rw [upd_ne (ne_of_none e np)]
          exact x3 _ _ e
        · rw [upd_same, tk, if_pos c, List.map_append]
          rfl
      · rw [decide_eq_false c]
        dsimp only
        rw [if_neg Bool.false_ne_true]
        refine ⟨_, rfl, x3, ?_⟩
        rw [tk, if_neg c]
        exact hp3
    · rintro σ H3 ⟨v3, rfl, x3, hp3⟩
      rw [List.length_map, List.take_length] at hp3
      exact ⟨_, rfl, kk _ p x3 np hp3⟩
end
end Sl
/-! ## M3 -/
set_option Elab.async false
set_option linter.all false
set_option maxRecDepth 100000
set_option maxHeartbeats 4000000
/-! the blocks that are split no more: the least machine and its texts -/
namespace Sl
open PySem PySem.Spec PyProof.Rows L2
def run (δ : Nat → Str → Nat) (n : Nat) (w : List Str) : Nat := w.foldl δ n
theorem run_cons (δ : Nat → Str → Nat) (n : Nat) (c : Str) (w : List Str) : run δ n (c :: w) = run δ (δ n c) w := rfl
/-! ### lists of what is met first -/
section
variable {α β : Type} [DecidableEq α] [DecidableEq β]
theorem metL_of_nodup (l : List α) : l.Nodup → metL l = l := by
  refine list_snoc (p := fun l => l.Nodup → metL l = l) (fun _ => rfl) (fun l a ih nd => ?_) l
  obtain ⟨n1, _, n3⟩ := List.nodup_append.mp nd
  rw [metL_snoc, ih n1, if_neg fun h => n3 a h a (List.mem_singleton.mpr rfl) rfl]
theorem metL_app_self (a b : List α) : metL (metL a ++ b) = metL (a ++ b) := by
  refine list_snoc (p := fun b => metL (metL a ++ b) = metL (a ++ b)) ?_ (fun b k ih => ?_) b
  · rw [List.append_nil, List.append_nil, metL_of_nodup _ (metL_nodup a)]
  · rw [← List.append_assoc, ← List.append_assoc, metL_snoc, metL_snoc, ih]
theorem metL_skip (a b : List α) : (∀ x ∈ b, x ∈ a) → metL (a ++ b) = metL a := by
  refine list_snoc (p := fun b => (∀ x ∈ b, x ∈ a) → metL (a ++ b) = metL a) (fun _ => by rw [List.append_nil]) (fun b k ih h => ?_) b
  rw [← List.append_assoc, metL_snoc, ih fun x hx => h x (List.mem_append.mpr (.inl hx)), if_pos ((metL_mem _).mpr (h k (List.mem_append.mpr (.inr (List.mem_singleton.mpr rfl)))))]
theorem metL_map (f : α → β) (l : List α) : metL ((metL l).map f) = metL (l.map f) := by
  refine list_snoc (p := fun l => metL ((metL l).map f) = metL (l.map f)) rfl (fun l a ih => ?_) l
  rw [metL_snoc, List.map_append, List.map_singleton, metL_snoc]
  by_cases c : a ∈ metL l
  · rw [if_pos c, ih, if_pos ((metL_mem _).mpr (List.mem_map.mpr ⟨a, (metL_mem _).mp c, rfl⟩))]
  · rw [if_neg c, List.map_append, List.map_singleton, metL_snoc, ih]
theorem metL_flat (x : List β) (f : α → List β) (l : List α) : metL (x ++ (metL l).flatMap f) = metL (x ++ l.flatMap f) := by
  refine list_snoc (p := fun l => metL (x ++ (metL l).flatMap f) = metL (x ++ l.flatMap f)) rfl (fun l a ih => ?_) l
  rw [metL_snoc, List.flatMap_append, List.flatMap_singleton, ← List.append_assoc]
  by_cases c : a ∈ metL l
  · rw [if_pos c, ih, metL_skip (x ++ l.flatMap f)]
    exact fun y hy => List.mem_append.mpr (.inr (List.mem_flatMap.mpr ⟨a, (metL_mem _).mp c, hy⟩))
  · rw [if_neg c, List.flatMap_append, List.flatMap_singleton, ← List.append_assoc, ← metL_app_self, ih, metL_app_self]
end
theorem addNew_met : ∀ (l : List (Str × Nat)) (q : List Nat), q.Nodup → addNew q l = metL (q ++ l.map (·.2))
  | [], q, nd => by rw [addNew_nil, List.map_nil, List.append_nil, metL_of_nodup _ nd]
  | e :: l, q, nd => by
    have e1 : metL (q ++ [e.2]) = if e.2 ∈ q then q else q ++ [e.2] := by rw [metL_snoc, metL_of_nodup _ nd]
    rw [addNew_cons, ← e1, addNew_met l _ (metL_nodup _), metL_app_self, List.append_assoc]
    rfl
/-- the queue's order is that in which the states are met -/
theorem bfs_met {g : Gr} {N x0 : Nat} (hlt : ∀ n, n < N → ∀ e ∈ g n, e.2 < N) : ∀ (n i : Nat) (q : List Nat), q.Nodup → (∀ x ∈ q, x < N) → i ≤ q.length → N + 1 ≤ n + i → q = metL ([x0] ++ (q.take i).flatMap fun n => (g n).map (·.2)) →
    bfs g n q i = metL ([x0] ++ (bfs g n q i).flatMap fun n => (g n).map (·.2))
  | 0, i, q, nd, lt, le, hn, _ => by
    have := nodup_len nd lt
    omega
  | n + 1, i, q, nd, lt, le, hn, e => by
    by_cases c : i < q.length
    · obtain ⟨x, hx⟩ : ∃ x, q[i]? = some x := ⟨q[i], List.getElem?_eq_getElem c⟩
      rw [bfs_step hx]
      have ok := addNew_ok (l := g x) nd lt (hlt x (lt x (List.mem_of_getElem? hx)))
      refine bfs_met hlt n (i + 1) _ ok.1 ok.2.1 (by have := ok.2.2; omega) (by omega) ?_
      have tk : (addNew q (g x)).take (i + 1) = q.take i ++ [x] := by
        obtain ⟨t, ht⟩ := addNew_pre (l := g x) (q := q)
        rw [← ht, List.take_append_of_le_length (by omega), List.take_succ_eq_append_getElem c]
        rw [List.getElem?_eq_getElem c] at hx
        rw [Option.some.inj hx]
      rw [tk, List.flatMap_append, List.flatMap_singleton, ← List.append_assoc, ← metL_app_self, ← e]
      exact addNew_met _ _ nd
    · rw [bfs_end (by omega)]
      rw [List.take_of_length_le (by omega)] at e
      exact e
theorem reachedL_met {g : Gr} {N first : Nat} (hlt : ∀ n, n < N → ∀ e ∈ g n, e.2 < N) (h : first < N) : metL (first :: (reachedL g N first).flatMap fun n => (g n).map (·.2)) = reachedL g N first :=
  (bfs_met (x0 := first) hlt (N + 1) 0 [first] (by simp) (by simpa using h) (Nat.zero_le _) (by omega) rfl).symm
/-! ### one machine for one language -/
theorem run_app (δ : Nat → Str → Nat) (n : Nat) (v w : List Str) : run δ n (v ++ w) = run δ (run δ n v) w := List.foldl_append
theorem run_lt {sg : List Str} {δ : Nat → Str → Nat} {M : Nat} (lt : ∀ b, b < M → ∀ c ∈ sg, δ b c < M) : ∀ (w : List Str) (n : Nat), n < M → (∀ c ∈ w, c ∈ sg) → run δ n w < M
  | [], _, h, _ => h
  | c :: w, n, h, hw => by
    rw [run_cons]
    exact run_lt lt w _ (lt n h c (hw c List.mem_cons_self)) fun c' h' => hw c' (List.mem_cons_of_mem _ h')
structure Can (sg : List Str) (M : Nat) (δ' : Nat → Str → Nat) (found : List Nat) : Prop where
  pos : 0 < M
  lt : ∀ b, b < M → ∀ c ∈ sg, δ' b c < M
  dist : ∀ a, a < M → ∀ b, b < M → (∀ w : List Str, (∀ c ∈ w, c ∈ sg) → (run δ' a w ∈ found ↔ run δ' b w ∈ found)) → a = b
  reach : ∀ b, b < M → ∃ w : List Str, (∀ c ∈ w, c ∈ sg) ∧ run δ' 0 w = b
  canon : metL (0 :: (List.range M).flatMap fun b => sg.map (δ' b)) = List.range M
  asc : found = (List.range M).filter fun b => decide (b ∈ found)
theorem fix_uniq {S : Nat → List Nat} {Q R : List Nat} (hQ : Q = metL (0 :: Q.flatMap S)) (hR : R = metL (0 :: R.flatMap S)) (rQ : ∀ P : List Nat, 0 ∈ P → (∀ x ∈ P, ∀ y ∈ S x, y ∈ P) → ∀ x ∈ Q, x ∈ P) (rR : ∀ P : List Nat, 0 ∈ P → (∀ x ∈ P, ∀ y ∈ S x, y ∈ P) → ∀ x ∈ R, x ∈ P) : Q = R := by
  have pre : ∀ {Q : List Nat}, Q = metL (0 :: Q.flatMap S) → ∀ j, metL (0 :: (Q.take j).flatMap S) <+: Q := fun {Q} hQ j => by
    have h := metL_pre (0 :: (Q.take j).flatMap S) ((Q.drop j).flatMap S)
    rw [List.cons_append, ← List.flatMap_append, List.take_append_drop, ← hQ] at h
    exact h
  have nd : ∀ {Q : List Nat}, Q = metL (0 :: Q.flatMap S) → Q.Nodup := fun {Q} hQ => by
    rw [hQ]
    exact metL_nodup _
  have cl : ∀ {Q : List Nat}, Q = metL (0 :: Q.flatMap S) → (∀ P : List Nat, 0 ∈ P → (∀ x ∈ P, ∀ y ∈ S x, y ∈ P) → ∀ x ∈ Q, x ∈ P) → ∀ j, (metL (0 :: (Q.take j).flatMap S)).length ≤ j → Q = metL (0 :: (Q.take j).flatMap S) := fun {Q} hQ rQ j hj => by
    have p := pre hQ j
    have sub := rQ (metL (0 :: (Q.take j).flatMap S)) ((metL_mem _).mpr List.mem_cons_self) fun x hx y hy => by
      refine (metL_mem _).mpr (List.mem_cons_of_mem _ (List.mem_flatMap.mpr ⟨x, ?_, hy⟩))
      rw [List.prefix_iff_eq_take.mp p] at hx
      exact List.mem_of_mem_take (by
        rw [show Q.take (metL (0 :: (Q.take j).flatMap S)).length = (Q.take j).take (metL (0 :: (Q.take j).flatMap S)).length from by rw [List.take_take, Nat.min_eq_left hj]] at hx
        exact hx)
    exact (p.eq_of_length_le (List.Nodup.length_le_of_subset (nd hQ) sub)).symm
  have key : ∀ j, Q.take j = R.take j := fun j => by
    induction j with
    | zero => rfl
    | succ j ih =>
      have p1 := pre hQ j
      have p2 := pre hR j
      by_cases c : (metL (0 :: (Q.take j).flatMap S)).length ≤ j
      · have e1 := cl hQ rQ j c
        have e2 := cl hR rR j (by rw [← ih]; exact c)
        rw [← ih, ← e1] at e2
        rw [e2]
      · rw [← ih] at p2
        obtain ⟨t1, h1⟩ := p1
        obtain ⟨t2, h2⟩ := p2
        rw [← h1, ← h2]
        generalize metL (0 :: (Q.take j).flatMap S) = P at c
        rw [List.take_append_of_le_length (by omega), List.take_append_of_le_length (by omega)]
  have k := key (Q.length + R.length)
  rwa [List.take_of_length_le (by omega), List.take_of_length_le (by omega)] at k
theorem can_uniq {sg : List Str} {M1 M2 : Nat} {δ1 δ2 : Nat → Str → Nat} {f1 f2 : List Nat} (A : Can sg M1 δ1 f1) (B : Can sg M2 δ2 f2) (hl : ∀ w : List Str, (∀ c ∈ w, c ∈ sg) → (run δ1 0 w ∈ f1 ↔ run δ2 0 w ∈ f2)) :
    M1 = M2 ∧ (∀ b, b < M1 → ∀ c ∈ sg, δ1 b c = δ2 b c) ∧ f1 = f2 := by
  have tot : ∀ a, a < M1 → ∃ b, b < M2 ∧ ∀ w : List Str, (∀ c ∈ w, c ∈ sg) → (run δ1 a w ∈ f1 ↔ run δ2 b w ∈ f2) := fun a ha => by
    obtain ⟨v, hv, rfl⟩ := A.reach a ha
    refine ⟨run δ2 0 v, run_lt B.lt v 0 B.pos hv, fun w hw => ?_⟩
    rw [← run_app, ← run_app]
    exact hl _ fun c hc => (List.mem_append.mp hc).elim (hv c) (hw c)
  obtain ⟨φ, hφ⟩ : ∃ φ : Nat → Nat, ∀ a, a < M1 → φ a < M2 ∧ ∀ w : List Str, (∀ c ∈ w, c ∈ sg) → (run δ1 a w ∈ f1 ↔ run δ2 (φ a) w ∈ f2) := by
    classical
    refine ⟨fun a => if h : a < M1 then (tot a h).choose else 0, fun a ha => ?_⟩
    dsimp only
    rw [dif_pos ha]
    exact (tot a ha).choose_spec
  have u2 : ∀ a b, a < M1 → b < M2 → (∀ w : List Str, (∀ c ∈ w, c ∈ sg) → (run δ1 a w ∈ f1 ↔ run δ2 b w ∈ f2)) → φ a = b := fun a b ha hb h => B.dist _ (hφ a ha).1 b hb fun w hw => ((hφ a ha).2 w hw).symm.trans (h w hw)
  have inj : ∀ a, a < M1 → ∀ b, b < M1 → φ a = φ b → a = b := fun a ha b hb e => A.dist a ha b hb fun w hw => by
    rw [(hφ a ha).2 w hw, (hφ b hb).2 w hw, e]
  have z0 : φ 0 = 0 := u2 0 0 A.pos B.pos hl
  have st : ∀ a, a < M1 → ∀ c ∈ sg, φ (δ1 a c) = δ2 (φ a) c := fun a ha c hc => u2 _ _ (A.lt a ha c hc) (B.lt _ (hφ a ha).1 c hc) fun w hw => by
    have := (hφ a ha).2 (c :: w) fun c' h' => (List.mem_cons.mp h').elim (fun e => e ▸ hc) (hw c')
    rwa [run_cons, run_cons] at this
  have ndQ : ((List.range M1).map φ).Nodup := by
    rw [List.nodup_iff_pairwise_ne, List.pairwise_map]
    refine (List.nodup_range (n := M1)).imp_of_mem fun {a b} ha hb ne e => ne (inj a (List.mem_range.mp ha) b (List.mem_range.mp hb) e)
  have eQ : (List.range M1).map φ = metL (0 :: ((List.range M1).map φ).flatMap fun b => sg.map (δ2 b)) := by
    have h1 : metL ((metL (0 :: (List.range M1).flatMap fun b => sg.map (δ1 b))).map φ) = (List.range M1).map φ := by
      rw [A.canon, metL_of_nodup _ ndQ]
    rw [metL_map, List.map_cons, z0] at h1
    have h2 : ((List.range M1).flatMap fun b => sg.map (δ1 b)).map φ = ((List.range M1).map φ).flatMap fun b => sg.map (δ2 b) := by
      rw [List.map_flatMap, List.flatMap_map, List.flatMap_def, List.flatMap_def]
      refine congrArg List.flatten (List.map_congr_left fun a ha => ?_)
      rw [List.map_map]
      exact List.map_congr_left fun c hc => st a (List.mem_range.mp ha) c hc
    rw [h2] at h1
    exact h1.symm
  have rR : ∀ P : List Nat, 0 ∈ P → (∀ x ∈ P, ∀ y ∈ sg.map (δ2 x), y ∈ P) → ∀ x ∈ List.range M2, x ∈ P := fun P p0 pc x hx => by
    obtain ⟨w, hw, rfl⟩ := B.reach x (List.mem_range.mp hx)
    have go : ∀ (w : List Str) (n : Nat), n ∈ P → (∀ c ∈ w, c ∈ sg) → run δ2 n w ∈ P := fun w => by
      induction w with
      | nil => exact fun n h _ => h
      | cons c w ih =>
        intro n h hw
        rw [run_cons]
        exact ih _ (pc n h _ (List.mem_map.mpr ⟨c, hw c List.mem_cons_self, rfl⟩)) fun c' h' => hw c' (List.mem_cons_of_mem _ h')
    exact go w 0 p0 hw
  have same := fix_uniq eQ B.canon.symm (fun P p0 pc x hx => by
    obtain ⟨a, ha, rfl⟩ := List.mem_map.mp hx
    exact rR P p0 pc _ (List.mem_range.mpr (hφ a (List.mem_range.mp ha)).1)) rR
  have eM : M1 = M2 := by
    have := congrArg List.length same
    rwa [List.length_map, List.length_range, List.length_range] at this
  subst eM
  have id_ : ∀ a, a < M1 → φ a = a := fun a ha => by
    have h := congrArg (fun l : List Nat => l[a]?) same
    rw [List.getElem?_map, List.getElem?_range ha] at h
    exact Option.some.inj h
  refine ⟨rfl, fun b hb c hc => ?_, ?_⟩
  · have := st b hb c hc
    rwa [id_ _ (A.lt b hb c hc), id_ b hb] at this
  · rw [A.asc, B.asc]
    refine List.filter_congr fun b hb => ?_
    have hb := List.mem_range.mp hb
    have := (hφ b hb).2 [] (by simp)
    rw [id_ b hb] at this
    exact decide_eq_decide.mpr this
/-- γ numbers the states' blocks, 0 .. M - 1 -/
structure Parts (order : List Nat) (γ : Nat → Nat) (M : Nat) : Prop where
  lt : ∀ n ∈ order, γ n < M
  sur : ∀ j, j < M → ∃ n ∈ order, γ n = j
section
variable {α : Type} [DecidableEq α] {order : List Nat} {key : Nat → α}
/-- the number of a state by its key -/
def gamL (key : Nat → α) (order : List Nat) (n : Nat) : Nat := ixL (metL (order.map key)) (key n)
theorem key_in {n : Nat} (h : n ∈ order) : key n ∈ metL (order.map key) := (metL_mem _).mpr (List.mem_map.mpr ⟨n, h, rfl⟩)
theorem parts_of : Parts order (gamL key order) (metL (order.map key)).length := by
  refine ⟨fun n hn => ixL_lt (key_in hn), fun j hj => ?_⟩
  obtain ⟨k, hk⟩ : ∃ k, (metL (order.map key))[j]? = some k := ⟨_, List.getElem?_eq_getElem hj⟩
  obtain ⟨n, hn, rfl⟩ := List.mem_map.mp ((metL_mem _).mp (List.mem_of_getElem? hk))
  exact ⟨n, hn, ixL_nodup (metL_nodup _) hk⟩
theorem gam_eq {n m : Nat} (hn : n ∈ order) (hm : m ∈ order) (e : gamL key order n = gamL key order m) : key n = key m := ixL_inj (key_in hn) (key_in hm) e
theorem gam_zero {n : Nat} {t : List Nat} (e : order = n :: t) : gamL key order n = 0 := by
  subst e
  unfold gamL
  have p : metL ([n].map key) <+: metL ((n :: t).map key) := by
    have := metL_pre ([n].map key) (t.map key)
    rw [← List.map_append] at this
    exact this
  have e0 : metL ([n].map key) = [key n] := rfl
  rw [e0] at p
  rw [idx_pre p (by simp), ixL, if_pos rfl]
end
theorem cover_inj {l : List Nat} {M : Nat} (hl : l.length ≤ M) (hc : ∀ j, j < M → j ∈ l) {i j x : Nat} (hi : l[i]? = some x) (hj : l[j]? = some x) : i = j := by
  by_cases c : i = j
  · exact c
  · exfalso
    have hjl := (List.getElem?_eq_some_iff.mp hj).1
    have q : (List.range M).length ≤ (l.eraseIdx j).length := List.Nodup.length_le_of_subset List.nodup_range fun y hy => by
      obtain ⟨k, hk⟩ := List.getElem?_of_mem (hc y (List.mem_range.mp hy))
      refine List.mem_eraseIdx_iff_getElem?.mpr ?_
      by_cases e : k = j
      · refine ⟨i, c, ?_⟩
        rw [e, hj] at hk
        rw [hi, hk]
      · exact ⟨k, e, hk⟩
    rw [List.length_range, List.length_eraseIdx_of_lt hjl] at q
    omega
section
variable {order : List Nat} {sg : List Str} {δ : Nat → Str → Nat} {γ : Nat → Nat} {M : Nat}
abbrev keyN (γ : Nat → Nat) (sg : List Str) (δ : Nat → Str → Nat) : Nat → List Int := keyL (fun n => (γ n : Nat)) sg δ
theorem parts_more (p : Parts order γ M) : M ≤ (metL (order.map (keyN γ sg δ))).length := by
  have q : (List.range M).length ≤ ((metL (order.map (keyN γ sg δ))).map fun k => (k.headD 0).toNat).length := List.Nodup.length_le_of_subset List.nodup_range fun j hj => by
    obtain ⟨n, hn, e⟩ := p.sur j (List.mem_range.mp hj)
    refine List.mem_map.mpr ⟨keyN γ sg δ n, key_in hn, ?_⟩
    show ((γ n : Nat) : Int).toNat = j
    rw [e]
    simp
  rwa [List.length_range, List.length_map] at q
/-- split no more: the blocks lead alike -/
theorem parts_stable (p : Parts order γ M) (hM : (metL (order.map (keyN γ sg δ))).length ≤ M) {n m : Nat} (hn : n ∈ order) (hm : m ∈ order) (e : γ n = γ m) : keyN γ sg δ n = keyN γ sg δ m := by
  obtain ⟨i, hi⟩ := List.getElem?_of_mem (key_in (key := keyN γ sg δ) hn)
  obtain ⟨j, hj⟩ := List.getElem?_of_mem (key_in (key := keyN γ sg δ) hm)
  have hc : ∀ j, j < M → j ∈ (metL (order.map (keyN γ sg δ))).map fun k => (k.headD 0).toNat := fun j hj => by
    obtain ⟨n, hn, e⟩ := p.sur j hj
    refine List.mem_map.mpr ⟨keyN γ sg δ n, key_in hn, ?_⟩
    show ((γ n : Nat) : Int).toNat = j
    rw [e]
    simp
  have hd : ∀ n, ((keyN γ sg δ n).headD 0).toNat = γ n := fun n => by
    show ((γ n : Nat) : Int).toNat = γ n
    simp
  have ij : i = j := cover_inj (x := γ n) (by rw [List.length_map]; exact hM) hc (by rw [List.getElem?_map, hi]; exact congrArg some (hd n)) (by rw [List.getElem?_map, hj]; exact congrArg some ((hd m).trans e.symm))
  subst ij
  exact Option.some.inj (hi.symm.trans hj)
theorem keyL_at {βi : Nat → Int} {n m : Nat} (e : keyL βi sg δ n = keyL βi sg δ m) : βi n = βi m ∧ ∀ c ∈ sg, βi (δ n c) = βi (δ m c) := by
  unfold keyL at e
  injection e with e1 e2
  refine ⟨e1, fun c hc => ?_⟩
  exact List.map_inj_left.mp e2 c hc
end
/-- what is known of a machine of blocks -/
structure LeastOf (sg : List Str) (δ : Nat → Str → Nat) (mem : List Nat) (N M : Nat) (δ' : Nat → Str → Nat) (found : List Nat) : Prop where
  pos : 0 < M
  le : M ≤ N
  lt : ∀ b, b < M → ∀ c ∈ sg, δ' b c < M
  nd : found.Nodup
  fl : ∀ b ∈ found, b < M
  acc : ∀ w : List Str, (∀ c ∈ w, c ∈ sg) → (run δ' 0 w ∈ found ↔ run δ 0 w ∈ mem)
  can : Can sg M δ' found
section
variable {order mem firsts : List Nat} {sg : List Str} {δ δ' : Nat → Str → Nat} {γ : Nat → Nat} {M N : Nat}
/-- where the loop stands: blocks γ, M of them; before, the blocks of what is told of the states by b -/
structure SplitSt (order mem : List Nat) (sg : List Str) (δ : Nat → Str → Nat) (γ : Nat → Nat) (M before : Nat) : Prop where
  parts : Parts order γ M
  zero : ∀ n t, order = n :: t → γ n = 0
  num : metL (order.map γ) = List.range M
  dif : ∀ n ∈ order, ∀ m ∈ order, γ n ≠ γ m → ∃ w : List Str, (∀ c ∈ w, c ∈ sg) ∧ ¬ (run δ n w ∈ mem ↔ run δ m w ∈ mem)
  mem : ∀ n ∈ order, ∀ m ∈ order, γ n = γ m → (n ∈ mem ↔ m ∈ mem)
  fst : (firL γ order).length = M
  fat : ∀ n ∈ order, ∃ m ∈ order, (firL γ order)[γ n]? = some m ∧ γ m = γ n
  end_ : M ≤ before → ∀ n ∈ order, ∀ m ∈ order, γ n = γ m → ∀ c ∈ sg, γ (δ n c) = γ (δ m c)
theorem fir_gam {α : Type} [DecidableEq α] {key : Nat → α} : (firL (gamL key order) order).length = (metL (order.map key)).length ∧ ∀ n ∈ order, ∃ m ∈ order, (firL (gamL key order) order)[gamL key order n]? = some m ∧ gamL key order m = gamL key order n := by
  have e := firL_keys key order order (List.prefix_refl _)
  have e : (firL (gamL key order) order).map key = metL (order.map key) := e
  refine ⟨by rw [← e, List.length_map], fun n hn => ?_⟩
  have h1 : (metL (order.map key))[gamL key order n]? = some (key n) := ixL_at (key_in hn)
  rw [← e, List.getElem?_map] at h1
  cases q : (firL (gamL key order) order)[gamL key order n]? with
  | none =>
    rw [q] at h1
    cases h1
  | some m =>
    rw [q] at h1
    have hk : key m = key n := Option.some.inj h1
    refine ⟨m, firL_sub _ _ m (List.mem_of_getElem? q), rfl, ?_⟩
    unfold gamL
    rw [hk]
theorem gam_num {α : Type} [DecidableEq α] {key : Nat → α} : metL (order.map (gamL key order)) = List.range (metL (order.map key)).length := by
  have e : order.map (gamL key order) = (order.map key).map (ixL (metL (order.map key))) := by
    rw [List.map_map]
    rfl
  have nd := metL_nodup (order.map key)
  rw [e, ← metL_map]
  generalize metL (order.map key) = L at nd ⊢
  have q : L.map (ixL L) = List.range L.length := by
    refine List.ext_getElem? fun i => ?_
    rw [List.getElem?_map]
    by_cases c : i < L.length
    · rw [List.getElem?_eq_getElem c, List.getElem?_range c]
      exact congrArg some (ixL_nodup nd (List.getElem?_eq_getElem c))
    · rw [List.getElem?_eq_none (by omega), List.getElem?_eq_none (by rw [List.length_range]; omega)]
      rfl
  rw [q, metL_of_nodup _ List.nodup_range]
theorem keyL_ne {βi : Nat → Int} {n m : Nat} (h : keyL βi sg δ n ≠ keyL βi sg δ m) : βi n ≠ βi m ∨ ∃ c ∈ sg, βi (δ n c) ≠ βi (δ m c) := by
  by_cases c : βi n = βi m
  · refine .inr ?_
    have : ¬ ∀ c ∈ sg, βi (δ n c) = βi (δ m c) := fun a => h (by
      unfold keyL
      rw [c, List.map_congr_left a])
    simpa using this
  · exact .inl c
theorem gam_ne {α : Type} [DecidableEq α] {key : Nat → α} {n m : Nat} (h : gamL key order n ≠ gamL key order m) : key n ≠ key m := fun e => h (by
  unfold gamL
  rw [e])
/-- the first blocks, by membership -/
theorem split_first {βi : Nat → Int} (hm2 : ∀ n m, (n ∈ mem ↔ m ∈ mem) → βi n = βi m) (hm : ∀ n m, βi n = βi m → (n ∈ mem ↔ m ∈ mem)) (ne : order ≠ []) : SplitSt order mem sg δ (gamL (keyL βi sg δ) order) (metL (order.map (keyL βi sg δ))).length 0 := by
  refine ⟨parts_of, fun n t e => gam_zero e, gam_num, fun n hn m hm' e => ?_, fun n hn m hm' e => hm _ _ (keyL_at (gam_eq hn hm' e)).1, fir_gam.1, fir_gam.2, fun h => ?_⟩
  · rcases keyL_ne (gam_ne e) with q | ⟨c, hc, q⟩
    · exact ⟨[], by simp, fun z => q (hm2 _ _ z)⟩
    · exact ⟨[c], by simpa using hc, fun z => q (hm2 _ _ z)⟩
  exfalso
  cases order with
  | nil => exact ne rfl
  | cons n t =>
    have := ixL_lt (key_in (key := keyL βi sg δ) (List.mem_cons_self (a := n) (l := t)))
    omega
/-- the next ones -/
theorem split_next {before : Nat} (S : SplitSt order mem sg δ γ M before) (cl : ∀ n ∈ order, ∀ c ∈ sg, δ n c ∈ order) : SplitSt order mem sg δ (gamL (keyN γ sg δ) order) (metL (order.map (keyN γ sg δ))).length M := by
  refine ⟨parts_of, fun n t e => gam_zero e, gam_num, fun n hn m hm e => ?_, fun n hn m hm e => S.mem n hn m hm ?_, fir_gam.1, fir_gam.2, fun h n hn m hm e c hc => ?_⟩
  · rcases keyL_ne (gam_ne e) with q | ⟨c, hc, q⟩
    · exact S.dif n hn m hm fun z => q (by rw [z])
    · obtain ⟨w, hw, ne⟩ := S.dif _ (cl n hn c hc) _ (cl m hm c hc) fun z => q (by rw [z])
      exact ⟨c :: w, fun c' h' => (List.mem_cons.mp h').elim (fun e => e ▸ hc) (hw c'), ne⟩
  · have := (keyL_at (gam_eq hn hm e)).1
    omega
  · have k := (keyL_at (gam_eq hn hm e)).2 c hc
    have k : γ (δ n c) = γ (δ m c) := by omega
    have := parts_stable S.parts h (cl n hn c hc) (cl m hm c hc) k
    unfold gamL
    rw [this]
theorem split_more {before : Nat} (S : SplitSt order mem sg δ γ M before) : M ≤ (metL (order.map (keyN γ sg δ))).length := parts_more S.parts
theorem parts_le (p : Parts order γ M) : M ≤ order.length := by
  have q : (List.range M).length ≤ (order.map γ).length := List.Nodup.length_le_of_subset List.nodup_range fun j hj => by
    obtain ⟨n, hn, e⟩ := p.sur j (List.mem_range.mp hj)
    exact List.mem_map.mpr ⟨n, hn, e⟩
  rwa [List.length_range, List.length_map] at q
/-- no more than lim kinds of states -/
def Few (sg : List Str) (δ : Nat → Str → Nat) (mem : List Nat) (N lim : Nat) : Prop := ∃ ρ : Nat → Nat, (∀ n, n < N → ρ n < lim) ∧ ∀ n, n < N → ∀ m, m < N → ρ n = ρ m → ∀ w : List Str, (∀ c ∈ w, c ∈ sg) → (run δ n w ∈ mem ↔ run δ m w ∈ mem)
theorem few_all {sg : List Str} {δ : Nat → Str → Nat} {mem : List Nat} {N lim : Nat} (h : N ≤ lim) : Few sg δ mem N lim := ⟨fun n => n, fun n hn => Nat.lt_of_lt_of_le hn h, fun n _ m _ e w _ => by rw [show n = m from e]⟩
theorem split_few {before lim : Nat} (S : SplitSt order mem sg δ γ M before) (lt : ∀ n ∈ order, n < N) (f : Few sg δ mem N lim) : M ≤ lim := by
  obtain ⟨ρ, h1, h2⟩ := f
  obtain ⟨p, hp⟩ : ∃ p : Nat → Nat, ∀ j, j < M → p j ∈ order ∧ γ (p j) = j := by
    classical
    refine ⟨fun j => if h : j < M then (S.parts.sur j h).choose else 0, fun j hj => ?_⟩
    dsimp only
    rw [dif_pos hj]
    exact (S.parts.sur j hj).choose_spec
  have nd : ((List.range M).map fun j => ρ (p j)).Nodup := by
    rw [List.nodup_iff_pairwise_ne, List.pairwise_map]
    refine (List.nodup_range (n := M)).imp_of_mem fun {a b} ha hb ne e => ne ?_
    have ha := hp a (List.mem_range.mp ha)
    have hb := hp b (List.mem_range.mp hb)
    refine Classical.byContradiction fun q => ?_
    obtain ⟨w, hw, d⟩ := S.dif _ ha.1 _ hb.1 (by rw [ha.2, hb.2]; exact q)
    exact d (h2 _ (lt _ ha.1) _ (lt _ hb.1) e w hw)
  have := nodup_len (N := lim) nd fun x hx => by
    obtain ⟨j, hj, rfl⟩ := List.mem_map.mp hx
    exact h1 _ (lt _ (hp j (List.mem_range.mp hj)).1)
  rwa [List.length_map, List.length_range] at this
/-- the machine of the blocks -/
def dLst (γ : Nat → Nat) (δ : Nat → Str → Nat) (firsts : List Nat) : Nat → Str → Nat := fun b c => γ (δ (firsts.getD b 0) c)
def fLst (mem firsts : List Nat) : List Nat := (List.range firsts.length).filter fun b => decide (firsts.getD b 0 ∈ mem)
theorem least_of {before : Nat} {t : List Nat} (S : SplitSt order mem sg δ γ M before) (h : M ≤ before) (e0 : order = 0 :: t) (nd : order.Nodup) (lt : ∀ n ∈ order, n < N) (cl : ∀ n ∈ order, ∀ c ∈ sg, δ n c ∈ order) (met : metL (0 :: order.flatMap fun n => sg.map (δ n)) = order) (re : ∀ n ∈ order, ∃ w : List Str, (∀ c ∈ w, c ∈ sg) ∧ run δ 0 w = n) : LeastOf sg δ mem N M (dLst γ δ (firL γ order)) (fLst mem (firL γ order)) := by
  have z0 : 0 ∈ order := by
    rw [e0]
    exact List.mem_cons_self
  have at_ : ∀ n ∈ order, ∃ m ∈ order, (firL γ order).getD (γ n) 0 = m ∧ γ m = γ n := fun n hn => by
    obtain ⟨m, hm, q, g⟩ := S.fat n hn
    refine ⟨m, hm, ?_, g⟩
    rw [List.getD_eq_getElem?_getD, q]
    rfl
  have step : ∀ n ∈ order, ∀ c ∈ sg, dLst γ δ (firL γ order) (γ n) c = γ (δ n c) := fun n hn c hc => by
    obtain ⟨m, hm, q, g⟩ := at_ n hn
    unfold dLst
    rw [q]
    exact S.end_ h m hm n hn g c hc
  have walk : ∀ (w : List Str) (n : Nat), n ∈ order → (∀ c ∈ w, c ∈ sg) → run (dLst γ δ (firL γ order)) (γ n) w = γ (run δ n w) ∧ run δ n w ∈ order := fun w => by
    induction w with
    | nil => exact fun n hn _ => ⟨rfl, hn⟩
    | cons c w ih =>
      intro n hn hw
      rw [run_cons, run_cons, step n hn c (hw c List.mem_cons_self)]
      exact ih _ (cl n hn c (hw c List.mem_cons_self)) fun c' h' => hw c' (List.mem_cons_of_mem _ h')
  have inF : ∀ n ∈ order, (γ n ∈ fLst mem (firL γ order) ↔ n ∈ mem) := fun n hn => by
    obtain ⟨m, hm, q, g⟩ := at_ n hn
    unfold fLst
    rw [List.mem_filter, List.mem_range, S.fst, decide_eq_true_eq, q]
    exact ⟨fun z => (S.mem _ hm _ hn g).mp z.2, fun z => ⟨S.parts.lt _ hn, (S.mem _ hm _ hn g).mpr z⟩⟩
  have pos : 0 < M := Nat.lt_of_le_of_lt (Nat.zero_le _) (S.parts.lt 0 z0)
  have lt' : ∀ b, b < M → ∀ c ∈ sg, dLst γ δ (firL γ order) b c < M := fun b hb c hc => by
    obtain ⟨n, hn, rfl⟩ := S.parts.sur b hb
    rw [step n hn c hc]
    exact S.parts.lt _ (cl n hn c hc)
  have can : Can sg M (dLst γ δ (firL γ order)) (fLst mem (firL γ order)) := by
    refine ⟨pos, lt', fun a ha b hb h => ?_, fun b hb => ?_, ?_, ?_⟩
    · obtain ⟨n, hn, rfl⟩ := S.parts.sur a ha
      obtain ⟨m, hm, rfl⟩ := S.parts.sur b hb
      refine Classical.byContradiction fun ne => ?_
      obtain ⟨w, hw, d⟩ := S.dif n hn m hm ne
      have q := h w hw
      obtain ⟨a1, a2⟩ := walk w n hn hw
      obtain ⟨b1, b2⟩ := walk w m hm hw
      rw [a1, b1, inF _ a2, inF _ b2] at q
      exact d q
    · obtain ⟨n, hn, rfl⟩ := S.parts.sur b hb
      obtain ⟨w, hw, rfl⟩ := re n hn
      refine ⟨w, hw, ?_⟩
      have := (walk w 0 z0 hw).1
      rwa [S.zero 0 t e0] at this
    · have h1 : metL ((metL (0 :: order.flatMap fun n => sg.map (δ n))).map γ) = List.range M := by rw [met, S.num]
      rw [metL_map, List.map_cons, S.zero 0 t e0] at h1
      have h2 : (order.flatMap fun n => sg.map (δ n)).map γ = (order.map γ).flatMap fun b => sg.map (dLst γ δ (firL γ order) b) := by
        rw [List.map_flatMap, List.flatMap_map, List.flatMap_def, List.flatMap_def]
        refine congrArg List.flatten (List.map_congr_left fun n hn => ?_)
        rw [List.map_map]
        exact List.map_congr_left fun c hc => (step n hn c hc).symm
      rw [h2] at h1
      have h3 := metL_flat [0] (fun b => sg.map (dLst γ δ (firL γ order) b)) (order.map γ)
      rw [S.num] at h3
      exact h3.trans h1
    · unfold fLst
      rw [S.fst]
      refine List.filter_congr fun b hb => ?_
      rw [decide_eq_decide, List.mem_filter, decide_eq_true_eq]
      exact ⟨fun h => ⟨hb, h⟩, fun h => h.2⟩
  refine ⟨pos, Nat.le_trans (parts_le S.parts) (nodup_len nd lt), lt', (List.nodup_range (n := (firL γ order).length)).sublist List.filter_sublist, fun b hb => ?_, fun w hw => ?_, can⟩
  · have := List.mem_range.mp (List.mem_filter.mp hb).1
    rwa [S.fst] at this
  · obtain ⟨k1, k2⟩ := walk w 0 z0 hw
    rw [S.zero 0 t e0] at k1
    rw [k1]
    exact inF _ k2
end
end Sl
/-! ## V11 -/
set_option Elab.async false
set_option linter.all false
set_option maxRecDepth 100000
set_option maxHeartbeats 4000000
set_option pp.maxSteps 1500
set_option pp.deepTerms false
/-! the lambda of least_machine: where the states lead -/
namespace Sl
open PySem PySem.Spec PyProof.Rows L2 LamX NdefX
abbrev sLeast : Stmt := top 16
def nth (l : List Stmt) (i : Nat) : Stmt := l.getD i sLeast
def asgVal : Stmt → Expr
  | .Assign _ e _ => e
  | .Return (some e) _ => e
  | _ => .Constant .none 0 ⟨0, 0, 0, 0⟩
def argAt (i : Nat) : Expr → Expr
  | .Call _ es _ _ => es.getD i (.Constant .none 0 ⟨0, 0, 0, 0⟩)
  | e => e
def lamPar : Expr → Arguments → Arguments
  | .Lambda p _ _ _, _ => p
  | _, d => d
def lamBody : Expr → Expr
  | .Lambda _ b _ _ => b
  | e => e
def lamSc : Expr → Scope → Scope
  | .Lambda _ _ s _, _ => s
  | .ListComp _ _ s _, _ => s
  | .DictComp _ _ _ s _, _ => s
  | _, d => d
abbrev eLead : Expr := argAt 1 (asgVal (nth (defBody sLeast) 0))
abbrev scLead : Scope := lamSc eLead (defScope sLeast)
/-- where the states lead, as a graph -/
def gOf (sg : List Str) (δ : Nat → Str → Nat) : Gr := fun n => sg.map fun c => (c, δ n c)
def StAt (K : PySem.W.Frag) (kb : Bool) (st : Addr) (rows : List Addr) (sg : List Str) (δ : Nat → Str → Nat) (H : Hp) : Prop := SqK K kb H st (rows.map V.ref) ∧ RowsAt H rows sg δ
theorem StAt.ext {K : PySem.W.Frag} {kb : Bool} {st : Addr} {rows : List Addr} {sg : List Str} {δ : Nat → Str → Nat} {H H' : Hp} (x : Ext H H') (h : StAt K kb st rows sg δ H) : StAt K kb st rows sg δ H' := ⟨h.1.ext x, h.2.ext x⟩
theorem StAt.extN {K : PySem.W.Frag} {kb : Bool} {st : Addr} {rows : List Addr} {sg : List Str} {δ : Nat → Str → Nat} {H H' : Hp} (x : ExtN H H') (h : StAt K kb st rows sg δ H) : StAt K kb st rows sg δ H' := by
  refine ⟨?_, fun i r e => ?_⟩
  · have rd : ∀ o : HO, (∀ ps, o ≠ .tbl ps) → Rd H st o → Rd H' st o := fun o n r => by
      rcases r with e | ⟨u, e⟩
      · exact .inl (x _ _ e n)
      · exact .inr ⟨u, x _ _ e (by intro ps q; cases q)⟩
    have h1 := h.1
    cases kb with
    | true =>
      rcases h1 with z | z
      · exact .inl (rd _ (by intro ps q; cases q) z)
      · exact .inr z
    | false =>
      rcases h1 with z | z
      · exact .inl (rd _ (by intro ps q; cases q) z)
      · exact .inr z
  · obtain ⟨kvs, h1, h2⟩ := h.2 i r e
    exact ⟨kvs, x _ _ h1 (by intro p q; cases q), h2⟩
theorem gr_ok {K : PySem.W.Frag} {kb : Bool} {st : Addr} {rows : List Addr} {sg : List Str} {δ : Nat → Str → Nat} {N : Nat} (n : N ≤ 100) (ls : sg.length ≤ 100) (lt : ∀ n, n < N → ∀ c ∈ sg, δ n c < N) : GrOk (StAt K kb st rows sg δ) (gOf sg δ) N :=
  ⟨fun _ _ x h => h.extN x, n, fun n hn e he => (by
    obtain ⟨c, hc, rfl⟩ := List.mem_map.mp he
    exact lt n hn c hc), fun n => by
    unfold gOf
    rw [List.length_map]
    exact ls⟩
abbrev nLead : List Str := ["state", "signs", "states", "sign"]
section
variable {P : Program} {w : World} {K : PySem.W.Frag} {mg : Str → Option Value} {base : Heap}
theorem csLead : CScope nLead ["state"] ["signs", "states"] scLead := cscope_by (by decide +kernel)
theorem lead_least {k : Nat} {c' : Addr} {cl : List (Str × Addr)} {kb : Bool} {z : Str} {st : Addr} {rows : List Addr} {δ : Nat → Str → Nat} (z100 : z.cps.size ≤ 100) :
    LeadL P w K mg base (k + 1) (StAt K kb st rows (sgL z) δ) (gOf (sgL z) δ) rows.length ⟨"least_machine.<locals>.<lambda>", lamPar eLead ⟨[], [], none, [], [], none, []⟩, lamBody eLead, scLead, cl, c'⟩ ["signs", "states"] [some (.str z), some (.ref st)] := by
  refine ⟨"state", fun ws vs H Q _ => ws = [some (.str z), some (.ref st)] ∧ spLeads (StAt K kb st rows (sgL z) δ) (gOf (sgL z) δ) rows.length vs H Q, lok_ofC (N := nLead) csLead (fun pm ctv us hl => match us, hl with | [_], _ => rfl) (fun ws vs H Q E h => ?_) (fun f A outer s H vs ws Q E hr hf hc hl h => ?_), fun vs H Q E h => ⟨rfl, h⟩⟩
  · obtain ⟨_, n, rfl, _⟩ := h
    rfl
  · obtain ⟨rfl, n, rfl, hn, hG, kk⟩ := h
    have hu := hu_of hr
    refine ⟨_, pe_lc (own := [("sign", 3)]) (g := gName 3) (tt := tYes) (te := tTup (tCons (tVar 3) (tCons (tDGet (tOp (rIx K) (tVar 2) (tVar 0)) (tVar 3)) tNil))) rfl csLead.nd (pi_str (pe_var (i := 1) rfl (.inr (.inr rfl)))) (blkOk_by (N := nLead) (sc := scLead) (by decide +kernel))
        (fun _ _ _ _ _ => pg_name (i := 3) csLead.nd rfl (Or.inl rfl)) (fun _ _ _ _ _ => pts_nil)
        (fun _ _ _ _ _ => pe_tup (pa_cons (pv 3) (pa_cons (pe_dget hu (pe_ix ix_seq (pe_var (i := 2) rfl (.inr (.inr rfl))) (pe_var (i := 0) rfl (.inr (.inl rfl))) (fun _ _ => rfl)) (pv 3) (fun _ _ => rfl)) pa_nil))), ?_⟩
    refine ⟨_, rfl, z, rfl, fun D nD => ?_⟩
    refine lc_it (walk_str (z := z)) (fun j H' => Ext H H' ∧ ∃ ts : List Addr, H' D = some (.lst (ts.map V.ref)) ∧ LeadsAt H' ts ((gOf (sgL z) δ n).take j)) ⟨Ext.new nD, [], upd_same, .nil⟩ (fun _ _ _ _ => trivial) ?_ ?_
    · rintro j y H6 H7 hj ⟨x6, ts, hD6, hts⟩ ⟨rfl, c, hc, rfl⟩
      have hsg := sgL_at hc
      have cm := List.mem_of_getElem? hsg
      obtain ⟨w1, w2⟩ := hG.ext x6
      obtain ⟨r, hr⟩ : ∃ r, rows[n]? = some r := ⟨_, List.getElem?_eq_getElem hn⟩
      obtain ⟨kr, hk1, hk2⟩ := w2 n r hr
      have ha : atI (rows.map V.ref) (n : Int) = some (.ref r) := atI_nat (by rw [List.getElem?_map, hr]; rfl)
      have gr : DGet H7 r (.str ⟨#[c]⟩) (some (.int (δ n ⟨#[c]⟩ : Nat))) := by
        rw [← hk2 _ cm]
        exact DGet.k (k := keyC ⟨#[c]⟩) hk1
      have ltk : ((gOf (sgL z) δ n).take j).length ≤ 100 := by
        unfold gOf
        rw [List.length_take, List.length_map, sgL_len]
        omega
      have lts : ts.length ≤ 100 := by rw [hts.len]; exact ltk
      refine ⟨rfl, ?_⟩
      dsimp only [tYes]
      rw [if_pos rfl]
      have fin : ∀ p, H7 p = none → ∃ acc, (upd H7 p (.tup [.str ⟨#[c]⟩, .int (δ n ⟨#[c]⟩ : Nat)])) D = some (.lst acc) ∧ acc.length < sizeLine ∧ Ext H (upd (upd H7 p (.tup [.str ⟨#[c]⟩, .int (δ n ⟨#[c]⟩ : Nat)])) D (.lst (acc ++ [.ref p]))) ∧
          ∃ ts : List Addr, (upd (upd H7 p (.tup [.str ⟨#[c]⟩, .int (δ n ⟨#[c]⟩ : Nat)])) D (.lst (acc ++ [.ref p]))) D = some (.lst (ts.map V.ref)) ∧ LeadsAt (upd (upd H7 p (.tup [.str ⟨#[c]⟩, .int (δ n ⟨#[c]⟩ : Nat)])) D (.lst (acc ++ [.ref p]))) ts ((gOf (sgL z) δ n).take (j + 1)) := fun p np => by
        have xp := Ext.new np (o := .tup [.str ⟨#[c]⟩, .int (δ n ⟨#[c]⟩ : Nat)])
        have hp : (upd H7 p (.tup [.str ⟨#[c]⟩, .int (δ n ⟨#[c]⟩ : Nat)])) p = some (.tup [.str ⟨#[c]⟩, .int (δ n ⟨#[c]⟩ : Nat)]) := upd_same
        generalize upd H7 p (.tup [.str ⟨#[c]⟩, .int (δ n ⟨#[c]⟩ : Nat)]) = H8 at xp hp ⊢
        have hD8 := xp _ _ hD6
        have keep : ∀ t xs, H8 t = some (.tup xs) → (upd H8 D (.lst (ts.map V.ref ++ [.ref p]))) t = some (.tup xs) := fun t xs h => by
          rw [upd_ne (ne_of h hD8 (by intro z; cases z))]
          exact h
        refine ⟨_, hD8, by rw [List.length_map]; exact small1000 (by omega), fun a o e => ?_, ts ++ [p], ?_, ?_⟩
        · rw [upd_ne (ne_of_none e nD)]
          exact xp _ _ (x6 _ _ e)
        · rw [upd_same, List.map_append]
          rfl
        · have hg : (gOf (sgL z) δ n)[j]? = some (⟨#[c]⟩, δ n ⟨#[c]⟩) := by
            unfold gOf
            rw [List.getElem?_map, hsg]
            rfl
          rw [take_more hg]
          exact (hts.ext fun t xs h => keep _ _ (xp _ _ h)).snoc (keep _ _ hp)
      refine ⟨_, rfl, _, rfl, _, rfl, ?_⟩
      have fin2 : ∃ a v, V.ref r = V.ref a ∧ DGet H7 a (.str ⟨#[c]⟩) (some v) ∧ ([V.str ⟨#[c]⟩, v].length ≤ sizeLine ∧ ∀ p, H7 p = none → ∃ acc, (upd H7 p (.tup [.str ⟨#[c]⟩, v])) D = some (.lst acc) ∧ acc.length < sizeLine ∧ Ext H (upd (upd H7 p (.tup [.str ⟨#[c]⟩, v])) D (.lst (acc ++ [.ref p]))) ∧
          ∃ ts : List Addr, (upd (upd H7 p (.tup [.str ⟨#[c]⟩, v])) D (.lst (acc ++ [.ref p]))) D = some (.lst (ts.map V.ref)) ∧ LeadsAt (upd (upd H7 p (.tup [.str ⟨#[c]⟩, v])) D (.lst (acc ++ [.ref p]))) ts ((gOf (sgL z) δ n).take (j + 1))) := ⟨r, _, rfl, gr, by show 2 ≤ sizeLine; decide, fin⟩
      rcases w1.or with q | q
      · exact .inl ⟨st, _, n, _, rfl, rfl, q, ha, _, rfl, fin2⟩
      · exact .inr (.inl ⟨st, _, n, _, rfl, rfl, q, ha, _, rfl, fin2⟩)
    · rintro H6 ⟨x6, ts, hD6, hts⟩
      refine kk _ D ts x6 nD hD6 ?_
      have e : z.cps.size = (gOf (sgL z) δ n).length := by
        unfold gOf
        rw [List.length_map, sgL_len]
      rw [e, List.take_length] at hts
      exact hts
end
end Sl
/-! ## B3 -/
set_option Elab.async false
set_option linter.all false
set_option maxRecDepth 100000
set_option maxHeartbeats 4000000
/-! enumerate of a list or a tuple -/
namespace PySem
open Sem (wp)
open AutoSeq1 (wpAny_loadPart')
theorem enum_newT (l : Addr) (items : Array Value) (n : Nat) (dct : Option Addr) (sl : Array (Option Value)) :
    Meets (Builtin.«enumerate.__new__» ⟨[.type "enumerate", .ref l], []⟩) (fun _ R s => s.heap.get? l = some { cls := .type "tuple", dict := dct, data := .seq items n, slots := sl } ∧
      R (.ok (.ret (.ref (s.heap.push { cls := .type "tuple_iterator", data := .fields #[.ref l, .int 0 0] }).objs.size)))
        { s with heap := (s.heap.push { cls := .type "tuple_iterator", data := .fields #[.ref l, .int 0 0] }).push { cls := .type "enumerate", data := .fields #[.none, .bool false, .ref s.heap.objs.size, rawInt 0, .none, .none] } }) :=
  .of_wp fun prog w A R s q => by
    obtain ⟨hp, g, d, tk, os⟩ := s
    obtain ⟨hl, h⟩ := q
    have hsub := sub_enumerate
    have hT : Heap.IsTuple (Shared.heap ⟨hp, g, d, tk, os⟩) l items := ⟨_, hl, rfl, n, rfl⟩
    wp_walk using wpAny_loadPart' hl
    refine wpAny_stack_any fun st => wpAny_pure ?_
    split
    · rename_i c _ _ _ _ _
      cases (c == Value.type "enumerate")
      · wp_walk using wpAny_loadPart' hl, wpAny_pyIter_tuple hT
        exact ⟨_, rfl, h⟩
      · wp_walk using wpAny_loadPart' hl, wpAny_pyIter_tuple hT
        exact ⟨_, rfl, h⟩
    · wp_walk using wpAny_loadPart' hl, wpAny_pyIter_tuple hT
      exact ⟨_, rfl, h⟩
section
variable {prog : Program} {w : World} {A : Around} {E : Value → Shared → Prop} {s : Shared}
theorem call_enumT {l : Addr} {items : Array Value} {Q : Value → Shared → Prop} (hL : s.heap.IsTuple l items)
    (h : ∀ h', IsEnum h' (s.heap.objs.size + 1) s.heap.objs.size 0 .none → h'.IsTupleIter s.heap.objs.size l 0 → h'.objs.size = s.heap.objs.size + 2 → (∀ b o, s.heap.get? b = some o → h'.get? b = some o) → Q (.ref (s.heap.objs.size + 1)) { s with heap := h' }) :
    wpAny (model prog w) A (call (.type "enumerate") [.ref l]) Q E s := by
  obtain ⟨⟨c, dct, dt, sl⟩, hl, hc, n, hd⟩ := hL
  cases (show c = .type "tuple" from hc)
  cases (show dt = .seq items n from hd)
  refine callType_new F.called_enumerate (by decide) (F.typeCall_enumerate_1 _) (F.newCall_enumerate_1 _) (fun obj => F.args_object_init_2 obj _) F.entry_enumerate_new (enum_newT l items n dct sl) ⟨hl, ?_⟩
  have z : (s.heap.push { cls := .type "tuple_iterator", data := .fields #[.ref l, .int 0 0] }).objs.size = s.heap.objs.size + 1 := Heap.size_push ..
  show _ ∧ _
  rw [z]
  have he : IsEnum ((s.heap.push { cls := .type "tuple_iterator", data := .fields #[.ref l, .int 0 0] }).push { cls := .type "enumerate", data := .fields #[.none, .bool false, .ref s.heap.objs.size, rawInt 0, .none, .none] }) (s.heap.objs.size + 1) s.heap.objs.size 0 .none := by
    have q := Heap.get?_push_size (s.heap.push { cls := .type "tuple_iterator", data := .fields #[.ref l, .int 0 0] }) (o := { cls := .type "enumerate", data := .fields #[.none, .bool false, .ref s.heap.objs.size, rawInt 0, .none, .none] }) rfl
    rw [z] at q
    exact q
  exact ⟨⟨_, he, rfl⟩, h _ he ⟨_, Heap.get?_push_of_some _ (Heap.get?_push_size _ rfl), rfl, rfl⟩ (by rw [Heap.size_push, z]) fun b o x => Heap.get?_push_of_some _ (Heap.get?_push_of_some _ x)⟩
end
end PySem
namespace Sl
open PySem PySem.Spec PyProof.Rows L2
def Iett (K : PySem.W.Frag) (a : Addr) : It :=
  ⟨fun i H => ∃ (xs : List V) (x : V), SqT K H a xs ∧ xs[i]? = some x, fun i H v H' => ∃ T x, v = .ref T ∧ H T = none ∧ H' = upd H T (.tup [.int (i : Nat), x]) ∧ ∀ xs, SqT K H a xs → xs[i]? = some x, fun i H => ∃ xs : List V, SqT K H a xs ∧ xs.length ≤ i⟩
theorem turn_enumT {P : Program} {w : World} {K : PySem.W.Frag} {elts : List Expr} {kk : Nat} {tpos : Pos} (a e it : Addr) :
    Turn P w K (.Tuple elts kk tpos) (Iett K a) [e, it] e (fun i h => (∃ old, IsEnum h e it ((i : Nat) : Int) old) ∧ h.IsTupleIter it a i ∧ e ≠ it) where
  mem := by simp
  obj := fun i h st b hb => by
    obtain ⟨⟨old, he⟩, ⟨o, ho, hc, hd⟩, _⟩ := st
    rcases (show b = e ∨ b = it by simpa using hb) with rfl | rfl
    · exact ⟨_, he, fun v q => nomatch q⟩
    · exact ⟨o, ho, fun v q => by rw [hd] at q; cases q⟩
  keep := fun i h h' st k => by
    obtain ⟨⟨old, he⟩, ⟨o, ho, r⟩, ne⟩ := st
    exact ⟨⟨old, k e (by simp) _ he⟩, ⟨o, k it (by simp) _ ho, r⟩, ne⟩
  item := by
    intro X eP ew eK hc i pins s σ H E I fr st gg
    subst eP ew eK
    obtain ⟨⟨old, he⟩, hit, ne⟩ := st
    obtain ⟨xs, x, hq, hx⟩ := gg
    obtain ⟨us, rv, tp, z⟩ := I.tuple hq
    obtain ⟨u, hu, ru⟩ := rv.get hx
    have tp : s.heap.IsTuple a us.toArray := tp
    have el : e < s.heap.objs.size := Heap.lt_size he
    have il : it < s.heap.objs.size := by
      obtain ⟨_, q, _⟩ := hit
      exact Heap.lt_size q
    have hh : X.A.in1.handled = none := I.ok.hd hc
    have nai : a ≠ it := fun q => by
      obtain ⟨o1, e1, c1, _⟩ := hit
      obtain ⟨o2, e2, c2, _⟩ := tp
      rw [q, e1] at e2
      cases e2
      rw [c1] at c2
      exact absurd c2 (by decide)
    have nea : e ≠ a := fun q => by
      obtain ⟨o2, e2, c2, _⟩ := tp
      have he' : s.heap.get? e = _ := he
      rw [q, e2] at he'
      cases he'
      exact absurd (show Value.type "enumerate" = Value.type "tuple" from c2) (by decide)
    have D := Draws.tuple (prog := X.prog) (w := X.w) hh it a nai us.toArray
    have iz : i < us.toArray.size := by
      have k1 := (List.getElem?_eq_some_iff.mp hx).1
      have k2 := rv.length
      rw [List.size_toArray]
      omega
    refine wpAny_pyNext_enum_itemD D he ⟨hit, tp⟩ iz ne (by simp [ne, nea]) fun v h' tk hv ho hs hT sz hk => ?_
    have ev : v = u := by
      have k : us.toArray[i]? = some v := hv
      rw [List.getElem?_toArray, hu] at k
      exact (Option.some.inj k).symm
    subst ev
    refine ⟨_, rfl, wpAny_letOwnedTupleGo_enum (s := { s with heap := h', toks := tk + 1 }) ho fun h'' he' sb => ?_⟩
    have hT2 : h''.get? s.heap.objs.size = some { cls := .type "tuple", data := .seq #[.int i tk, v] } := (sb.2 _ (Nat.ne_of_gt el)).trans hT
    have new : ObjOk X.prog X.w (upd H s.heap.objs.size (.tup [.int (i : Nat), x])) h'' s.heap.objs.size (.tup [.int (i : Nat), x]) := ⟨by show 2 ≤ sizeLine; decide, [.int i tk, v], .cons ⟨_, rfl⟩ (.cons ru .nil), ⟨_, hT2, rfl, _, rfl⟩⟩
    have J : Inv X pins σ (upd H s.heap.objs.size (.tup [.int (i : Nat), x])) { s with heap := h'', toks := tk + 1 } :=
      I.turnedNew (ch := [e, it]) (fun b ob nb q => (sb.2 b (fun w => nb (by simp [w]))).trans (hk b ob (fun w => nb (by simp [w])) (fun w => nb (by simp [w])) q)) fr (Nat.le_refl _) new
    refine ⟨.ref s.heap.objs.size, _, J, rfl, ⟨_, x, rfl, I.hok.fresh (Nat.le_refl _), rfl, fun ys hy => by rw [I.tuple_inj hy hq]; exact hx⟩, ⟨⟨v, ?_⟩, ?_, ne⟩, fun b hb => ?_⟩
    · rw [show ((i + 1 : Nat) : Int) = (i : Int) + 1 by omega]
      exact he'
    · obtain ⟨o, g, r⟩ := hs.1
      exact ⟨o, (sb.2 it (Ne.symm ne)).trans g, r⟩
    · have lt : b < s.heap.objs.size := by
        rcases (show b = e ∨ b = it by simpa using hb) with rfl | rfl
        · exact el
        · exact il
      rw [upd_ne (Nat.ne_of_lt lt)]
      exact (fr b hb).1
  done := by
    intro X eP ew eK hc i pins s σ H E I fr st gg
    subst eP ew eK
    obtain ⟨⟨old, he⟩, hit, ne⟩ := st
    obtain ⟨xs, hq, hx⟩ := gg
    obtain ⟨us, rv, tp, z⟩ := I.tuple hq
    have tp : s.heap.IsTuple a us.toArray := tp
    obtain ⟨f0, f1, f2, f3, f4, f5⟩ := fr it (by simp)
    have hh : X.A.in1.in1.handled = none := I.ok.hd hc
    have ln := rv.length
    have hT : s.TypeIs (.ref e) "enumerate" := ⟨_, he, rfl⟩
    unfold pyNext
    refine wpAny_bind (wpAny_attempt (wpAny_callSpecial?_slot (name := Str.ofString "__next__") hT F.slot_enumerate_next (wpAny_call_entry F.slot_enumerate_next hT F.entry_enumerate_next ?_ (F.args_enumerate_next_1 _))))
    show wpAny _ _ (field (.ref e) 2 >>= _) _ _ _
    refine wpAny_bind (wpAny_field he rfl (x := .ref it) rfl (wpAny_bind (wpAny_nextOf_tuple_end hh hit tp (by simp; omega) fun h' y eb hy => ?_)))
    obtain ⟨o, ho, hc⟩ := hy
    exact wpAny_bind (wpAny_isInstance (T := "StopIteration") (b := true) ⟨o, ho, hc⟩ isSubtype_stop (wpAny_pure ⟨rfl, I.turned (t' := s.toks) (fun b o hb q => eb b o hb q) f0 f1 f3 f4 f5⟩))
  self := fun A i s Q E st h => let ⟨⟨_, he⟩, _⟩ := st; wpAny_pyIter_enum he h
def ItE (K : PySem.W.Frag) (k : Bool) (a : Addr) : It := match k with
  | true => Ite K a
  | false => Iett K a
theorem walk_enumT {K : PySem.W.Frag} {a : Addr} {xs : List V} : Walk (Iett K a) xs.length (fun H => SqT K H a xs) (YPair (fun i => some (.int (i : Nat))) (fun i => xs[i]?)) := by
  refine ⟨fun i _ hi q => ⟨xs, xs[i], q, by simp [hi]⟩, fun _ q => ⟨xs, q, Nat.le_refl _⟩, fun i H v H' _ q y => ?_⟩
  obtain ⟨T, x, h1, h2, h3, h4⟩ := y
  exact ⟨T, .int (i : Nat), x, h1, h2, h3, rfl, h4 xs q⟩
theorem walk_enumK {K : PySem.W.Frag} {k : Bool} {a : Addr} {xs : List V} : Walk (ItE K k a) xs.length (fun H => SqK K k H a xs) (YPair (fun i => some (.int (i : Nat))) (fun i => xs[i]?)) := by
  cases k
  · exact walk_enumT
  · exact walk_enum
def iEnumK (K : PySem.W.Frag) (ta : TA) : TI := fun σ H R => ta σ H fun vs H1 => ∃ (k : Bool) (a : Addr) (xs : List V), vs = [.ref a] ∧ SqK K k H1 a xs ∧ R (ItE K k a) H1
theorem pi_enumK {X : Cx} {e : Expr} {ta : TA} {p pos tpos : Pos} {elts : List Expr} {kk : Nat} (hg : Gl X "enumerate") (hm : X.mg "enumerate" = none) (ha : PA X [e] ta) (hs : starEach [e] X.env = [(false, eval e X.env)] := by rfl) :
    PI X (.Tuple elts kk tpos) (.Call (.Name "enumerate" p) [e] [] pos) (iEnumK X.K ta) := by
  refine ⟨fun pins s σ H R I h => Call_ (ld_blt I hg hm boot_enumerate (callWith_type1 (thn (ha.run pos pins s σ H _ I h) fun us s1 r => ?_) hs rfl))⟩
  obtain ⟨vs, H1, J, rv, k, a, xs, rfl, hq, q⟩ := r
  cases rv with
  | cons r rr =>
    cases rr
    cases r
    have ge : ∀ b : Addr, b ∈ [s1.heap.objs.size + 1, s1.heap.objs.size] → s1.heap.objs.size ≤ b := fun b hb => by
      rcases (show b = s1.heap.objs.size + 1 ∨ b = s1.heap.objs.size by simpa using hb) with z | z
      · rw [z]
        exact Nat.le_add_right _ _
      · rw [z]
        exact Nat.le_refl _
    cases k with
    | true =>
      obtain ⟨its, rs, pl, z⟩ := J.list hq
      refine call_enumerate_list pl.isList fun h' he hit sz hk => wpAny_pyIter_enum he ⟨s1.heap.objs.size + 1, [s1.heap.objs.size + 1, s1.heap.objs.size], _, _, H1, rfl, J.kept (t' := s1.toks) hk, turn_enum a (s1.heap.objs.size + 1) s1.heap.objs.size, ⟨⟨.none, he⟩, hit, Nat.succ_ne_self _⟩, fun b hb => ?_, q⟩
      exact J.fpOk (ge b hb) (J.hok.fresh (ge b hb))
    | false =>
      obtain ⟨its, rs, pl, z⟩ := J.tuple hq
      refine call_enumT (show s1.heap.IsTuple a its.toArray from pl) fun h' he hit sz hk => wpAny_pyIter_enum he ⟨s1.heap.objs.size + 1, [s1.heap.objs.size + 1, s1.heap.objs.size], _, _, H1, rfl, J.kept (t' := s1.toks) hk, turn_enumT a (s1.heap.objs.size + 1) s1.heap.objs.size, ⟨⟨.none, he⟩, hit, Nat.succ_ne_self _⟩, fun b hb => ?_, q⟩
      exact J.fpOk (ge b hb) (J.hok.fresh (ge b hb))
end Sl
/-! ## V12 -/
set_option Elab.async false
set_option linter.all false
set_option maxRecDepth 100000
set_option maxHeartbeats 4000000
set_option pp.maxSteps 1500
set_option pp.deepTerms false
/-! least_machine -/
namespace Sl
open PySem PySem.Spec PyProof.Rows L2 LamX NdefX
/-- a branch that is never taken -/
theorem pss_dead {X : Cx} {b : List Stmt} : PSs X b (fun _ _ _ => False) := ⟨fun _ _ _ _ _ _ h => h.elim⟩
abbrev nLeast : List Str := ["signs", "states", "member_states", "limit", "order", "chosen", "blocks", "before", "many", "firsts", "least", "state", "sign", "block"]
/-- a block's scope in the def around it -/
def relS (sc : Scope) (env : Scope) : Scope := { sc with names := sc.names.map fun (n, k) => if (k == .free && env.kind == .function && env.names.lookup n == some .cell) then (n, .cell) else (n, k) }
abbrev scRows : Scope := lamSc (asgVal (nth (defBody sLeast) 7)) (defScope sLeast)
/-- the row of a machine -/
def rowD (sg : List Str) (d : Str → Nat) : List (Key × V) := sg.map fun c => (keyC c, .int (d c : Nat))
def RowsD (H : Hp) (rows : List Addr) (sg : List Str) (δ : Nat → Str → Nat) : Prop := ∀ i r, rows[i]? = some r → H r = some (.dK (rowD sg (δ i)))
def spLeast (P : Program) (w : World) (K : PySem.W.Frag) (T : List (Addr × Str)) : Sp := fun vs H Q _ => ∃ (kb km : Bool) (z : Str) (st ms : Addr) (lim : Nat) (rows : List Addr) (mem : List Nat) (δ : Nat → Str → Nat), vs = [.str z, .ref st, .ref ms, .int lim] ∧
  SqK K kb H st (rows.map V.ref) ∧ RowsAt H rows (sgL z) δ ∧ SqK K km H ms (mem.map fun n => V.int (n : Nat)) ∧ mem.length ≤ 100 ∧ 0 < rows.length ∧ Few (sgL z) δ mem rows.length lim ∧ rows.length ≤ 100 ∧ z.cps.size ≤ 100 ∧ (sgL z).Nodup ∧ (∀ n, n < rows.length → ∀ c ∈ sgL z, δ n c < rows.length) ∧ Tabs T H ∧
  ∀ (H' : Hp) (t L F : Addr) (rs : List Addr) (M : Nat) (δ' : Nat → Str → Nat) (found : List Nat), ExtN H H' → (∀ b, H' b = none → H b = none) → Tabs T H' → H t = none → H L = none → H F = none → H' t = some (.tup [.ref L, .ref F]) → H' L = some (.lst (rs.map V.ref)) → rs.length = M → (∀ r ∈ rs, H r = none) → RowsD H' rs (sgL z) δ' →
    H' F = some (.lst (found.map fun n => V.int (n : Nat))) → LeastOf (sgL z) δ mem rows.length M δ' found → M ≤ lim → Q (.ref t) H'
theorem sqK_extN {K : PySem.W.Frag} {k : Bool} {H H' : Hp} {a : Addr} {xs : List V} (x : ExtN H H') (h : SqK K k H a xs) : SqK K k H' a xs := by
  have rd : ∀ o : HO, (∀ ps, o ≠ .tbl ps) → Rd H a o → Rd H' a o := fun o n r => by
    rcases r with e | ⟨u, e⟩
    · exact .inl (x _ _ e n)
    · exact .inr ⟨u, x _ _ e (by intro ps q; cases q)⟩
  cases k with
  | true =>
    rcases h with z | z
    · exact .inl (rd _ (by intro ps q; cases q) z)
    · exact .inr z
  | false =>
    rcases h with z | z
    · exact .inl (rd _ (by intro ps q; cases q) z)
    · exact .inr z
theorem gOf_met {sg : List Str} {δ : Nat → Str → Nat} {first : Nat} {l : List Nat} (h : metL (first :: l.flatMap fun n => (gOf sg δ n).map (·.2)) = l) : metL (first :: l.flatMap fun n => sg.map (δ n)) = l := by
  have e : (fun n => (gOf sg δ n).map (·.2)) = fun n => sg.map (δ n) := by
    funext n
    unfold gOf
    rw [List.map_map]
    rfl
  rw [e] at h
  exact h
theorem reach_run {sg : List Str} {δ : Nat → Str → Nat} : ∀ {n : Nat}, Reach (gOf sg δ) [0] n → ∃ w : List Str, (∀ c ∈ w, c ∈ sg) ∧ run δ 0 w = n
  | _, .base m => ⟨[], by simp, (List.mem_singleton.mp m).symm⟩
  | _, .step (x := x) (e := e) r m => by
    obtain ⟨w, hw, q⟩ := reach_run r
    obtain ⟨c, hc, rfl⟩ := List.mem_map.mp m
    refine ⟨w ++ [c], fun c' h' => ?_, ?_⟩
    · rcases List.mem_append.mp h' with h | h
      · exact hw c' h
      · rw [List.mem_singleton.mp h]
        exact hc
    · rw [run_app, q]
      rfl
section
variable {P : Program} {w : World} {K : PySem.W.Frag} {mg : Str → Option Value} {base : Heap}
theorem scLeast : FnScope nLeast ["signs", "states", "member_states", "limit"] (defScope sLeast) := ⟨rfl, rfl, rfl, by decide +kernel, rfl, by decide +kernel, by decide +kernel⟩
theorem lead_free : ∀ y ∈ scLead.names, y.2 = NameKind.free → (defScope sLeast).names.lookup y.1 = some .cell ∨ (defScope sLeast).names.lookup y.1 = some .free := by decide +kernel
theorem ok_least {T : List (Addr × Str)} {f fR fS fF : Addr} {fd fdR fdS fdF : FuncData} (Fn : Fun K "least_machine" "least_machine" sLeast f fd) (LM : Lams base mg T fd "least_machine.<locals>.<lambda>")
    (aR : At K mg "reached" fR fdR ["first", "leads"] []) (gR : FnV P w K mg base CX0 4 fR fdR ["first", "leads"] (spReached P w K mg base T 2))
    (aS : At K mg "_split" fS fdS ["signs", "states", "order", "blocks"] []) (gS : FnOk P w K mg base CX0 1 fS fdS ["signs", "states", "order", "blocks"] (spSplit P w K))
    (aF : At K mg "_firsts" fF fdF ["order", "blocks"] []) (gF : FnOk P w K mg base CX0 1 fF fdF ["order", "blocks"] spFirsts) (ze : mg "enumerate" = none) :
    FnOk P w K mg base CX0 5 f fd ["signs", "states", "member_states", "limit"] (spLeast P w K T) := by
  obtain ⟨c, Tb, hcode, TB, hmT, hu⟩ := LM.ex
  refine Sl.Fun.okM Fn scLeast (fun vs H Q E h => ?_) (fun A0 outer s H vs Q E hr h => ?_)
  · obtain ⟨kb, km, z, st, ms, lim, rows, mem, δ, rfl, _⟩ := h
    rfl
  · obtain ⟨kb, km, z, st, ms, lim, rows, mem, δ, rfl, hst, hrows, hms, lm, rpos, rlim, r100, z100, ndg, δlt, hT, kk⟩ := h
    have huu := hu_of hr
    have hr1 := hr.mono (show 1 ≤ 4 by omega)
    refine ⟨_, pss_cons (ps_set (i := 4) scLeast.nd rfl (.inl rfl) (pe_callV (fr := ["signs", "states"]) (ws := fun σ => ([0, 1] : List Nat).map (slotAt σ)) (E := fun _ _ _ => False) gR
          (fun pins σ H s I => cellsF_of I (Caps.made (scope := scLead) I.ok lead_free (by decide +kernel) rfl) (fun _ => rfl) rfl rfl) hr (by rfl) aR.g aR.kp aR.b pass0
          (pa_cons pe_int (pa_cons (pe_lamV (T := T) TB hcode hmT hu rfl lead_free) pa_nil))))
      (pss_cons (ps_set (i := 5) scLeast.nd rfl (.inr rfl) (pe_dc (own := [("state", 11)]) (g := gName 11) (tt := tYes) (tk := tVar 11) (tv := tC (.bl true)) rfl scLeast.nd (pi_seq (pv 2)) (blkOk_by (N := nLeast) (sc := defScope sLeast) (by decide +kernel))
          (fun _ _ _ _ _ => pg_name (i := 11) scLeast.nd rfl (Or.inl rfl)) (fun _ _ _ _ _ => pts_nil) (fun _ _ _ _ _ => pv 11) (fun _ _ _ _ _ => pe_bl)))
      (pss_cons (ps_set (i := 6) scLeast.nd rfl (.inr rfl) (pe_dc (own := [("state", 11)]) (g := gName 11) (tt := tYes) (tk := tVar 11) (tv := tDIn (tVar 11) (tVar 5)) rfl scLeast.nd (pi_list (pv 4)) (blkOk_by (N := nLeast) (sc := defScope sLeast) (by decide +kernel))
          (fun _ _ _ _ _ => pg_name (i := 11) scLeast.nd rfl (Or.inl rfl)) (fun _ _ _ _ _ => pts_nil) (fun _ _ _ _ _ => pv 11) (fun _ _ _ _ _ => pe_cmp (pc_din huu (pv 11) (pe_var (i := 5) rfl (.inr (.inl rfl)))))))
      (pss_cons (ps_set (i := 7) scLeast.nd rfl (.inl rfl) pe_int)
      (pss_cons (ps_asg (pe_call gS hr1 (by rfl) aS.g aS.kp aS.b .nil pass0 (pa_cons (pe_var (i := 0) rfl (.inr (.inl rfl))) (pa_cons (pe_var (i := 1) rfl (.inr (.inl rfl))) (pa_cons (pv 4) (pa_cons (pe_var (i := 6) rfl (.inr (.inl rfl))) pa_nil)))))
          (pg_tup (by rfl) (pgs_cons (pg_name (i := 6) scLeast.nd rfl (.inr rfl)) (pgs_cons (pg_name (i := 8) scLeast.nd rfl (.inl rfl)) pgs_nil))))
      (pss_cons (ps_while (passes_of rfl) (pt_cmpR op_gt (pv 8) (pv 7) (nomark _))
        (pss_cons (ps_if (pt_cmpR op_gt (pv 8) (pv 3) (nomark _)) pss_dead pss_nil)
        (pss_cons (ps_set (i := 7) scLeast.nd rfl (.inl rfl) (pv 8))
        (pss_one (ps_asg (pe_call gS hr1 (by rfl) aS.g aS.kp aS.b .nil pass0 (pa_cons (pe_var (i := 0) rfl (.inr (.inl rfl))) (pa_cons (pe_var (i := 1) rfl (.inr (.inl rfl))) (pa_cons (pv 4) (pa_cons (pe_var (i := 6) rfl (.inr (.inl rfl))) pa_nil)))))
          (pg_tup (by rfl) (pgs_cons (pg_name (i := 6) scLeast.nd rfl (.inr rfl)) (pgs_cons (pg_name (i := 8) scLeast.nd rfl (.inl rfl)) pgs_nil))))))))
      (pss_cons (ps_set (i := 9) scLeast.nd rfl (.inl rfl) (pe_call gF hr1 (by rfl) aF.g aF.kp aF.b .nil pass0 (pa_cons (pv 4) (pa_cons (pe_var (i := 6) rfl (.inr (.inl rfl))) pa_nil))))
      (pss_cons (ps_setLc (i := 10) (own := [("state", 11)]) (g := gName 11) (tt := tYes) (te := tDc (iStr (tVar 0)) (gName 12) tYes (tVar 12) (tDGet (tVar 6) (tDGet (tOp (rIx K) (tVar 1) (tVar 11)) (tVar 12))) [12]) rfl scLeast.nd rfl rfl (sw_true rfl rfl rfl (by decide +kernel)) (pi_list (pv 9)) (blkOk_by (N := nLeast) (sc := defScope sLeast) (by decide +kernel))
          (fun _ _ _ _ _ => pg_name (i := 11) scLeast.nd rfl (Or.inr rfl)) (fun _ _ _ _ _ => pts_nil)
          (fun _ _ _ _ _ => pe_dc (own := [("sign", 12)]) (g := gName 12) (tt := tYes) (tk := tVar 12) rfl scLeast.nd (pi_str (pe_var (i := 0) rfl (.inr (.inl rfl)))) (blkOk_by (N := nLeast) (sc := relS scRows (defScope sLeast)) (by decide +kernel))
              (fun _ _ _ _ _ => pg_name (i := 12) scLeast.nd rfl (Or.inl rfl)) (fun _ _ _ _ _ => pts_nil) (fun _ _ _ _ _ => pv 12)
              (fun _ _ _ _ _ => pe_dget huu (pe_var (i := 6) rfl (.inr (.inl rfl))) (pe_dget huu (pe_ix ix_seq (pe_var (i := 1) rfl (.inr (.inl rfl))) (pe_var (i := 11) rfl (.inr (.inl rfl))) (fun _ _ => rfl)) (pv 12) (fun _ _ => rfl)) (fun _ _ => rfl))))
      (pss_one (ps_ret (pe_tup (pa_cons (pv 10) (pa_cons (pe_lc (own := [("block", 13), ("state", 11)]) (g := gTup K 2 (gCons (gName 13) (gCons (gName 11) gNil))) (tt := tB (tDIn (tVar 11) (tVar 5))) (te := tVar 13) rfl scLeast.nd (pi_enumK (by rfl) ze (pa_cons (pv 9) pa_nil)) (blkOk_by (N := nLeast) (sc := defScope sLeast) (by decide +kernel))
          (fun _ _ _ _ _ => pg_tup (by rfl) (pgs_cons (pg_name (i := 13) scLeast.nd rfl (.inl rfl)) (pgs_cons (pg_name (i := 11) scLeast.nd rfl (.inl rfl)) pgs_nil)))
          (fun _ _ _ _ _ => pts_one (pt_cmp (pc_din huu (pv 11) (pe_var (i := 5) rfl (.inr (.inl rfl)))))) (fun _ _ _ _ _ => pv 13)) pa_nil)))))))))))), ?_⟩
    have hlt : ∀ n, n < rows.length → ∀ e ∈ gOf (sgL z) δ n, e.2 < rows.length := fun n hn e he => by
      obtain ⟨c, hc, rfl⟩ := List.mem_map.mp he
      exact δlt n hn c hc
    have FO := reachedL_found hlt rpos
    have met := gOf_met (reachedL_met hlt rpos)
    have gk : GrOk (StAt K kb st rows (sgL z) δ) (gOf (sgL z) δ) rows.length := gr_ok r100 (by rw [sgL_len]; exact z100) δlt
    refine ⟨hT, fun f2 c2 H1 x1 nn1 T1 nf2 hf2 hc2 => ?_⟩
    refine ⟨f2, _, 0, rows.length, StAt K kb st rows (sgL z) δ, gOf (sgL z) δ, rfl, hf2, hc2, rfl, lead_least z100, T1, StAt.extN x1 ⟨hst, hrows⟩, gk, rpos, fun H2 od xN nnN T2 nod hod => ?_⟩
    generalize reachedL (gOf (sgL z) δ) rows.length 0 = order at FO met hod
    have x2 := x1.trans xN
    have S2 : StAt K kb st rows (sgL z) δ H2 := StAt.extN x2 ⟨hst, hrows⟩
    have hms2 := sqK_extN x2 hms
    clear nf2 hf2 hc2
    have ocl : ∀ n ∈ order, ∀ c ∈ sgL z, δ n c ∈ order := fun n hn c hc => FO.cl n hn (c, δ n c) (List.mem_map.mpr ⟨c, hc, rfl⟩)
    obtain ⟨ot, eo⟩ : ∃ t, order = 0 :: t := by
      obtain ⟨t, ht⟩ := FO.pre
      exact ⟨t, ht.symm⟩
    have lo : order.length ≤ 100 := Nat.le_trans (nodup_len FO.nd FO.lt) r100
    -- chosen
    refine ⟨_, rfl, km, ms, rfl, ⟨_, hms2⟩, fun D nD => ?_⟩
    refine dcW (walk_seq (xs := mem.map fun n => V.int (n : Nat))) (fun i H' => Ext H2 H' ∧ ∃ kvs, H' D = some (.dK kvs) ∧ kvs.length ≤ i ∧ ∀ n, (valV kvs (keyI n)).isSome = decide (n ∈ mem.take i)) ⟨Ext.new nD, [], upd_same, Nat.le_refl _, fun _ => rfl⟩ (fun i H' _ h => hms2.ext h.1) ?_ ?_
    · rintro i x H7 H8 hi ⟨x7, kvs, d7, l7, k7⟩ ⟨rfl, hx⟩
      obtain ⟨n, hn, rfl⟩ := at_map hx
      rw [List.length_map] at hi
      refine ⟨rfl, _, rfl, kvs, keyI n, rfl, d7, small_l (by omega), fun a o e => by rw [upd_ne (ne_of_none e nD)]; exact x7 _ _ e, _, upd_same, Nat.le_trans (length_putK _ _ _) (by omega), fun m => ?_⟩
      rw [valV_put, take_more hn]
      by_cases c : m = n
      · subst c
        rw [if_pos rfl]
        simp
      · rw [if_neg (fun e => c (keyI_inj e)), k7]
        simp [c]
    rintro H3 ⟨x3, kvc, d3, l3, k3⟩
    rw [List.length_map, List.take_length] at k3
    rw [List.length_map] at l3
    -- blocks
    have hod3 := x3 _ _ hod
    refine ⟨_, rfl, od, rfl, ⟨_, SqL.of hod3⟩, fun B nB => ?_⟩
    refine dcW (walk_list (xs := order.map fun n => V.int (n : Nat))) (fun i H' => Ext H3 H' ∧ H' B = some (.dK (blkD (order.take i) fun n => .bl (decide (n ∈ mem))))) ⟨Ext.new nB, upd_same⟩ (fun i H' _ h => SqL.of (h.1 _ _ hod3)) ?_ ?_
    · rintro i x H7 H8 hi ⟨x7, d7⟩ ⟨rfl, hx⟩
      obtain ⟨n, hn, rfl⟩ := at_map hx
      have nin : valV (blkD (order.take i) fun n => V.bl (decide (n ∈ mem))) (keyI n) = none := by
        rw [blk_val]
        refine if_neg fun h => ?_
        have h1 : (order.take (i + 1)).Nodup := FO.nd.sublist (List.take_sublist _ _)
        rw [take_more hn] at h1
        exact (List.nodup_append.mp h1).2.2 n h n (by simp) rfl
      have g : DGet H8 D (.int n) (valV kvc (keyI n)) := DGet.k (k := keyI n) (x7 _ _ d3)
      refine ⟨rfl, ?_⟩
      dsimp only [tYes]
      rw [if_pos rfl]
      refine ⟨_, rfl, _, rfl, _, rfl, D, _, rfl, g, _, keyI n, rfl, d7, by rw [blk_len, List.length_take]; exact small1000 (by omega), fun a o e => by rw [upd_ne (ne_of_none e nB)]; exact x7 _ _ e, ?_⟩
      rw [upd_same, putK_new _ nin, k3, take_more hn, blk_snoc]
    rintro H4 ⟨x4, hB⟩
    rw [List.length_map, List.take_length] at hB
    have x24 := x3.trans x4
    have nn2 : ∀ b, H2 b = none → H b = none := fun b e => nn1 b (nnN b e)
    have S4 := S2.ext x24
    have d4 := x4 _ _ d3
    have hod4 := x4 _ _ hod3
    have x04 : ExtN H H4 := x2.trans (ExtN.of x24)
    have T4 := T2.ext x24
    have k4 : ∀ n, (valV kvc (keyI n)).isSome = decide (n ∈ mem) := k3
    clear S2 hms2 hod3 d3 k3 x3 x4 hod T2 T1 xN x1 nD nB nnN nod nn1
    -- the first split
    refine ⟨_, rfl, _, rfl, _, rfl, _, rfl, kb, z, st, od, B, rows, order, _, fun n => if decide (n ∈ mem) = true then 1 else 0, δ, rfl, S4.1, S4.2, hod4, hB, fun n => rfl, FO.nd, by omega, fun n hn => ⟨FO.lt n hn, ocl n hn⟩, z100, fun H5 t sp x5 nt nsp ht hsp => ?_⟩
    refine ⟨t, _, rfl, SqT.of ht, rfl, _, _, rfl, _, _, rfl, rfl, ?_⟩
    have first : SplitSt order mem (sgL z) δ (gamL (keyL (fun n => if decide (n ∈ mem) = true then 1 else 0) (sgL z) δ) order) (metL (order.map (keyL (fun n => if decide (n ∈ mem) = true then 1 else 0) (sgL z) δ))).length 0 :=
      split_first (fun n m e => by
        by_cases c1 : n ∈ mem <;> by_cases c2 : m ∈ mem <;> simp [c1, c2] at e ⊢) (fun n m e => by
        by_cases c1 : n ∈ mem <;> by_cases c2 : m ∈ mem <;> simp [c1, c2] at e ⊢) (by rw [eo]; exact List.cons_ne_nil _ _)
    have hsp : H5 sp = some (.dK (blkD order fun n => .int (gamL (keyL (fun n => if decide (n ∈ mem) = true then 1 else 0) (sgL z) δ) order n : Nat))) := hsp
    generalize gamL (keyL (fun n => if decide (n ∈ mem) = true then 1 else 0) (sgL z) δ) order = γ at first hsp
    generalize (metL (order.map (keyL (fun n => if decide (n ∈ mem) = true then 1 else 0) (sgL z) δ))).length = M at first
    clear ht
    -- the loop
    refine ⟨fun m σ H' => ∃ (bl : Addr) (γ : Nat → Nat) (M before : Nat), m = order.length + 1 - before ∧ σ = [some (.str z), some (.ref st), some (.ref ms), some (.int lim), some (.ref od), some (.ref D), some (.ref bl), some (.int before), some (.int M), none, none, none, none, none] ∧
        Ext H4 H' ∧ H' bl = some (.dK (blkD order fun n => .int (γ n : Nat))) ∧ SplitSt order mem (sgL z) δ γ M before, ⟨_, sp, γ, M, 0, rfl, rfl, x5, hsp, first⟩, ?_⟩
    clear first hsp x5 nt nsp
    clear γ M
    rintro m σ H6 ⟨bl, γ, M, before, rfl, rfl, x6, hbl, S⟩
    have S6 := S4.ext x6
    have Mo := parts_le S.parts
    have Mr : M ≤ rows.length := Nat.le_trans Mo (nodup_len FO.nd FO.lt)
    have Ml : M ≤ lim := split_few S FO.lt rlim
    refine ⟨_, rfl, _, rfl, _, _, rfl, rfl, _, rfl, ?_⟩
    refine ite2 (fun c => ?_) (fun c => ?_)
    · have c : before < M := by
        have := of_decide_eq_true c
        omega
      refine ⟨_, fun σ' H' h => ⟨order.length + 1 - M, by omega, h⟩, ?_⟩
      refine ⟨_, rfl, _, rfl, _, _, rfl, rfl, _, rfl, ?_⟩
      rw [decide_eq_false (show ¬ ((lim : Int) < (M : Int)) by omega)]
      dsimp only
      rw [if_neg Bool.false_ne_true]
      refine ⟨_, rfl, ?_⟩
      refine ⟨_, rfl, _, rfl, _, rfl, _, rfl, kb, z, st, od, bl, rows, order, _, fun n => (γ n : Nat), δ, rfl, S6.1, S6.2, x6 _ _ hod4, hbl, fun n => rfl, FO.nd, by omega, fun n hn => ⟨FO.lt n hn, ocl n hn⟩, z100, fun H7 t sp x7 nt nsp ht hsp => ?_⟩
      refine ⟨t, _, rfl, SqT.of ht, rfl, _, _, rfl, _, _, rfl, rfl, ?_⟩
      exact ⟨sp, gamL (keyN γ (sgL z) δ) order, _, M, rfl, rfl, x6.trans x7, hsp, split_next S ocl⟩
    · have c : M ≤ before := by
        have := of_decide_eq_false (Bool.not_eq_true _ ▸ c)
        omega
      have L := least_of S c eo FO.nd FO.lt ocl met fun n hn => reach_run (FO.re n hn)
      have hod6 := x6 _ _ hod4
      have x06 := x04.trans (ExtN.of x6)
      have nn6 : ∀ b, H6 b = none → H b = none := fun b e => nn2 b (x24.free (x6.free e))
      have T6 := T4.ext x6
      have d6 := x6 _ _ d4
      refine ⟨_, rfl, _, rfl, od, bl, order, γ, rfl, hod6, hbl, by omega, fun H7 p x7 np hp => ?_⟩
      have S7 := S6.ext x7
      have hbl7 := x7 _ _ hbl
      have d7 := x7 _ _ d6
      have x07 := x06.trans (ExtN.of x7)
      have nn7 : ∀ b, H7 b = none → H b = none := fun b e => nn6 b (x7.free e)
      have T7 := T6.ext x7
      clear hbl S6 hod6 x6 d6 x06 T6 x7 S4 d4 hod4 hB x04 T4
      have fsub := firL_sub γ order
      have flen := S.fst
      generalize hfs : firL γ order = firsts at hp L fsub flen
      have f100 : firsts.length ≤ 100 := by omega
      -- least
      refine ⟨_, rfl, p, rfl, ⟨_, SqL.of hp⟩, fun Ld nL => ?_⟩
      refine lc_it (walk_list (xs := firsts.map fun n => V.int (n : Nat))) (fun i H' => Ext H7 H' ∧ ∃ rs : List Addr, rs.length = i ∧ H' Ld = some (.lst (rs.map V.ref)) ∧ RowsD H' rs (sgL z) (dLst γ δ firsts) ∧ ∀ r ∈ rs, H r = none) ⟨Ext.new nL, [], rfl, upd_same, fun i r e => (by cases i <;> cases e), fun r h => (nomatch h)⟩ (fun i H' _ h => SqL.of (h.1 _ _ hp)) ?_ ?_
      · rintro i x H8 H9 hi ⟨x8, rs, lrs, hL8, hrs, hrn⟩ ⟨rfl, hx⟩
        obtain ⟨n, hn, rfl⟩ := at_map hx
        have no := fsub n (List.mem_of_getElem? hn)
        have nN := FO.lt n no
        rw [List.length_map] at hi
        have gd : firsts.getD i 0 = n := by
          rw [List.getD_eq_getElem?_getD, hn]
          rfl
        refine ⟨rfl, ?_⟩
        dsimp only [tYes]
        rw [if_pos rfl]
        refine ⟨_, rfl, z, rfl, fun R nR => ?_⟩
        refine dcW (walk_str (z := z)) (fun j H' => Ext H9 H' ∧ H' R = some (.dK (((sgL z).take j).map fun c => (keyC c, V.int (dLst γ δ firsts i c : Nat))))) ⟨Ext.new nR, upd_same⟩ (fun _ _ _ _ => trivial) ?_ ?_
        · rintro j y G1 G2 hj ⟨y1, hR⟩ ⟨rfl, c', hc, rfl⟩
          have hsg := sgL_at hc
          have cm := List.mem_of_getElem? hsg
          obtain ⟨w1, w2⟩ := S7.ext (x8.trans y1)
          obtain ⟨r, hr⟩ : ∃ r, rows[n]? = some r := ⟨_, List.getElem?_eq_getElem nN⟩
          obtain ⟨kr, hk1, hk2⟩ := w2 n r hr
          have ha : atI (rows.map V.ref) (n : Int) = some (.ref r) := atI_nat (by rw [List.getElem?_map, hr]; rfl)
          have gr : DGet G2 r (.str ⟨#[c']⟩) (some (.int (δ n ⟨#[c']⟩ : Nat))) := by
            rw [← hk2 _ cm]
            exact DGet.k (k := keyC ⟨#[c']⟩) hk1
          have gb : DGet G2 bl (.int (δ n ⟨#[c']⟩ : Nat)) (some (.int (dLst γ δ firsts i ⟨#[c']⟩ : Nat))) := by
            have := DGet.k (k := keyI (δ n ⟨#[c']⟩)) ((x8.trans y1) _ _ hbl7)
            rw [blk_val, if_pos (ocl n no _ cm)] at this
            unfold dLst
            rw [gd]
            exact this
          have nin : valV (((sgL z).take j).map fun c => (keyC c, V.int (dLst γ δ firsts i c : Nat))) (keyC ⟨#[c']⟩) = none := by
            cases e : valV (((sgL z).take j).map fun c => (keyC c, V.int (dLst γ δ firsts i c : Nat))) (keyC ⟨#[c']⟩) with
            | none => rfl
            | some v =>
              exfalso
              obtain ⟨kv, hm, hk⟩ := List.mem_map.mp (valV_in e)
              obtain ⟨c2, hm2, rfl⟩ := List.mem_map.mp hm
              have hk : keyC c2 = keyC ⟨#[c']⟩ := hk
              unfold keyC at hk
              injection hk with hk
              have h1 : ((sgL z).take (j + 1)).Nodup := ndg.sublist (List.take_sublist _ _)
              rw [take_more hsg] at h1
              exact (List.nodup_append.mp h1).2.2 c2 hm2 ⟨#[c']⟩ (by simp) hk
          refine ⟨rfl, ?_⟩
          dsimp only [tYes]
          rw [if_pos rfl]
          have fin : ∃ a v, V.ref r = V.ref a ∧ DGet G2 a (.str ⟨#[c']⟩) (some v) ∧ ∃ a' v', V.ref bl = V.ref a' ∧ DGet G2 a' v (some v') ∧ ∃ kvs k, V.str ⟨#[c']⟩ = kV k ∧ G2 R = some (.dK kvs) ∧ kvs.length < sizeLine ∧ Ext H9 (upd G2 R (.dK (putK kvs k v'))) ∧
              (upd G2 R (.dK (putK kvs k v'))) R = some (.dK (((sgL z).take (j + 1)).map fun c => (keyC c, V.int (dLst γ δ firsts i c : Nat)))) := by
            refine ⟨r, _, rfl, gr, bl, _, rfl, gb, _, keyC ⟨#[c']⟩, rfl, hR, ?_, fun a o e => ?_, ?_⟩
            · rw [List.length_map, List.length_take, sgL_len]
              exact small1000 (by omega)
            · rw [upd_ne (ne_of_none e nR)]
              exact y1 _ _ e
            · rw [upd_same, putK_new _ nin, take_more hsg, List.map_append]
              rfl
          refine ⟨_, rfl, _, rfl, _, rfl, _, rfl, ?_⟩
          rcases w1.or with q | q
          · exact .inl ⟨st, _, n, _, rfl, rfl, q, ha, _, rfl, fin⟩
          · exact .inr (.inl ⟨st, _, n, _, rfl, rfl, q, ha, _, rfl, fin⟩)
        · rintro G1 ⟨y1, hR⟩
          rw [← sgL_len, List.take_length] at hR
          have hL9 := y1 _ _ hL8
          refine ⟨_, hL9, by rw [List.length_map]; exact small1000 (by omega), fun a o e => ?_, rs ++ [R], by rw [List.length_append, lrs]; rfl, ?_, fun j r hr => ?_, fun r hr => (List.mem_append.mp hr).elim (hrn r) fun h => by rw [List.mem_singleton.mp h]; exact nn7 _ (x8.free nR)⟩
          · rw [upd_ne (ne_of_none e nL)]
            exact y1 _ _ (x8 _ _ e)
          · rw [upd_same, List.map_append]
            rfl
          · have keep : ∀ a kvs, G1 a = some (.dK kvs) → (upd G1 Ld (.lst (rs.map V.ref ++ [.ref R]))) a = some (.dK kvs) := fun a kvs h => by
              rw [upd_ne (ne_of h hL9 (by intro z; cases z))]
              exact h
            by_cases cj : j < rs.length
            · rw [List.getElem?_append_left cj] at hr
              exact keep _ _ (y1 _ _ (hrs j r hr))
            · have hlt := (List.getElem?_eq_some_iff.mp hr).1
              rw [List.length_append] at hlt
              have hlt : j < rs.length + 1 := hlt
              obtain rfl : j = rs.length := by omega
              rw [List.getElem?_append_right (Nat.le_refl _), Nat.sub_self] at hr
              obtain rfl := Option.some.inj hr
              rw [lrs]
              exact keep _ _ hR
      rintro H8 ⟨x8, rs, lrs, hL8, hrs, hrn⟩
      rw [List.length_map] at lrs
      have hp8 := x8 _ _ hp
      have d8 := x8 _ _ d7
      refine ⟨_, rfl, _, rfl, true, p, _, rfl, SqK.l hp8, fun F nF => ?_⟩
      refine lc_it (walk_enumK (xs := firsts.map fun n => V.int (n : Nat))) (fun i H' => Ext H8 H' ∧ H' F = some (.lst ((((List.range i).filter fun b => decide (firsts.getD b 0 ∈ mem)).map fun n => V.int (n : Nat))))) ⟨Ext.new nF, upd_same⟩ (fun i H' _ h => (SqK.l hp8).ext h.1) ?_ ?_
      · rintro i x H9 G1 hi ⟨x9, hF⟩ ⟨T1, x', y', rfl, nT, rfl, q1, q2⟩
        obtain rfl := Option.some.inj q1
        obtain ⟨n, hn, rfl⟩ := at_map q2
        rw [List.length_map] at hi
        have gd : firsts.getD i 0 = n := by
          rw [List.getD_eq_getElem?_getD, hn]
          rfl
        refine ⟨T1, _, rfl, SqT.of upd_same, rfl, _, _, rfl, _, _, rfl, rfl, rfl, ?_⟩
        have xT := Ext.new nT (o := .tup [V.int (i : Nat), V.int (n : Nat)])
        have hF1 := xT _ _ hF
        have d9 := xT _ _ (x9 _ _ d8)
        have x10 := x9.trans xT
        generalize upd H9 T1 (.tup [V.int (i : Nat), V.int (n : Nat)]) = G2 at xT hF1 d9 x10 ⊢
        have g : DGet G2 D (.int n) (valV kvc (keyI n)) := DGet.k (k := keyI n) d9
        refine ⟨_, rfl, _, rfl, D, _, rfl, g, ?_⟩
        have fr : (List.range (i + 1)).filter (fun b => decide (firsts.getD b 0 ∈ mem)) = (List.range i).filter (fun b => decide (firsts.getD b 0 ∈ mem)) ++ if n ∈ mem then [i] else [] := by
          rw [List.range_succ, List.filter_append]
          refine congrArg _ ?_
          by_cases cm : n ∈ mem
          · rw [if_pos cm]
            simp only [List.filter_cons, List.filter_nil, gd, decide_eq_true cm, if_true]
          · rw [if_neg cm]
            simp only [List.filter_cons, List.filter_nil, gd, decide_eq_false cm]
            rfl
        rw [k4]
        by_cases cm : n ∈ mem
        · rw [decide_eq_true cm]
          refine ⟨_, rfl, ?_⟩
          dsimp only
          rw [if_pos rfl]
          have hl : (((List.range i).filter fun b => decide (firsts.getD b 0 ∈ mem)).map fun n => V.int (n : Nat)).length < sizeLine := by
            rw [List.length_map]
            have := List.length_filter_le (fun b => decide (firsts.getD b 0 ∈ mem)) (List.range i)
            rw [List.length_range] at this
            exact small1000 (by omega)
          refine ⟨_, rfl, _, hF1, hl, fun a o e => ?_, ?_⟩
          · rw [upd_ne (ne_of_none e nF)]
            exact x10 _ _ e
          · rw [upd_same, fr, if_pos cm, List.map_append]
            rfl
        · rw [decide_eq_false cm]
          refine ⟨_, rfl, ?_⟩
          dsimp only
          rw [if_neg Bool.false_ne_true]
          refine ⟨x10, ?_⟩
          rw [fr, if_neg cm, List.append_nil]
          exact hF1
      · rintro H9 ⟨x9, hF⟩
        rw [List.length_map] at hF
        refine ⟨by show 2 ≤ sizeLine; decide, fun t nt => ?_⟩
        have xt := x9.trans (Ext.new nt (o := .tup [V.ref Ld, V.ref F]))
        have x08 := x07.trans (ExtN.of x8)
        refine kk _ t Ld F rs M (dLst γ δ firsts) (fLst mem firsts) (x08.trans (ExtN.of xt)) (fun b e => nn7 b (x8.free (xt.free e))) ((T7.ext x8).ext xt) (nn7 _ (x8.free (x9.free nt))) (nn7 _ nL) (nn7 _ (x8.free nF)) upd_same (xt _ _ hL8) (by omega) hrn (fun i r e => xt _ _ (hrs i r e)) ?_ L Ml
        exact Ext.new nt _ _ hF
end
end Sl
/-! ## P15 -/
set_option Elab.async false
set_option linter.all false
set_option maxRecDepth 100000
set_option maxHeartbeats 4000000
namespace Sl
open PySem PySem.Spec PyProof.Rows L2 TxS
def signsOf (z : Str) : List Str := z.cps.toList.map fun c => ⟨#[c]⟩
theorem small_list {n : Nat} (h : n ≤ 10000) : n < sizeLine := by
  rw [sizeLine_eq]
  omega
abbrev sLetters : Stmt := top 47
abbrev sMarks : Stmt := top 999
theorem Rng.keep {H H' : Hp} {a b : Addr} (r : Rng H a) (k : Keep b H H') (n : a ≠ b) : Rng H' a := by
  obtain ⟨x, y, h, q⟩ := r.ex
  exact ⟨x, y, k _ _ h n, q⟩
theorem Rng.ext {H H' : Hp} {a : Addr} (r : Rng H a) (k : Ext H H') : Rng H' a := by
  obtain ⟨x, y, h, q⟩ := r.ex
  exact ⟨x, y, k _ _ h, q⟩
theorem Keep.of {a : Addr} {H H' : Hp} (x : Ext H H') : Keep a H H' := fun b o e _ => x b o e
theorem Keep.free {a : Addr} {H H' : Hp} {p : Addr} {o : HO} (k : Keep a H H') (ha : H' a = some o) (n : H' p = none) : H p = none := by
  cases e : H p with
  | none => rfl
  | some u =>
    by_cases c : p = a
    · rw [c, ha] at n
      cases n
    · rw [k p u e c] at n
      cases n
theorem Rng.there {H : Hp} {a : Addr} (r : Rng H a) : ∃ o, H a = some o := by
  obtain ⟨x, y, h, q⟩ := r.ex
  exact ⟨_, h⟩
theorem Rng.lst {H : Hp} {a b : Addr} {xs : List V} (r : Rng H a) (h : H b = some (.lst xs)) (n : ∀ x y : Int, xs ≠ [.int x, .int y]) : b ≠ a := fun e => by
  obtain ⟨x, y, h2, q⟩ := r.ex
  rw [e, h2] at h
  exact n x y (by injection h with h; injection h with h; exact h.symm)
def spChoice : Sp := fun vs H Q _ => ∃ (a b : Addr) (xs : List V), vs = [.ref a, .ref b] ∧ Rng H a ∧ H b = some (.lst xs) ∧ b ≠ a ∧ 0 < xs.length ∧ xs.length ≤ 10000 ∧
  ∀ (i : Nat) (v : V) (H' : Hp), xs[i]? = some v → Rng H' a → Keep a H H' → Q v H'
def abc : Str := "abcdefghijklmnopqrstuvwxyz"
def abcL : List Str := signsOf abc
/-- different letters -/
def spLetters : Sp := fun vs H Q _ => ∃ (a : Addr) (n : Nat), vs = [.ref a, .int n] ∧ Rng H a ∧ n ≤ 26 ∧
  ∀ (H' : Hp) (L : Addr) (zs : List Str), Rng H' a → Keep a H H' → H L = none → H' L = some (.lst (zs.map V.str)) → zs.length = n → zs.Nodup → (∀ z ∈ zs, z ∈ abcL) → Q (.ref L) H'
def rLen (K : PySem.W.Frag) : List V → Hp → VK → Prop := fun xs H Q => ∃ p ys, xs = [V.ref p] ∧ (SqL K H p ys ∨ SqT K H p ys) ∧ Q (.int (ys.length : Nat)) H
theorem ix_nat {n j : Nat} (h : j < n) : ixN n (j : Int) = some j := by
  unfold ixN
  rw [if_pos (by omega), if_pos (by omega), Int.toNat_natCast]
theorem erase_map {α β : Type} (f : α → β) : ∀ (l : List α) (j : Nat), (l.map f).eraseIdx j = (l.eraseIdx j).map f
  | [], _ => rfl
  | _ :: _, 0 => rfl
  | x :: l, j + 1 => congrArg (f x :: ·) (erase_map f l j)
theorem pick_perm {α : Type} : ∀ (l : List α) (j : Nat) (h : j < l.length), (l[j] :: l.eraseIdx j).Perm l
  | [], _, h => by cases h
  | x :: l, 0, _ => List.Perm.refl _
  | x :: l, j + 1, h => (List.Perm.swap x _ _).trans ((pick_perm l j (Nat.lt_of_succ_lt_succ h)).cons x)
/-- list(a text): its signs -/
def rListStr : List V → Hp → VK → Prop := fun xs H Q => ∃ z : Str, xs = [.str z] ∧ z.length ≤ 10000 ∧ ∀ l, H l = none → Q (.ref l) (upd H l (.lst ((signsOf z).map V.str)))
theorem signs_vals {z : Str} {acc : Array Value} (h : ItemsOf (SignAt z) acc z.cps.size) : Vals ((signsOf z).map V.str) acc.toList := by
  have key : ∀ (cs : List Nat) (vs : List Value), vs.length = cs.length → (∀ (j : Nat) (v : Value), vs[j]? = some v → ∃ c u, cs[j]? = some c ∧ v = Value.str ⟨#[c]⟩ u) → Vals (cs.map fun c => V.str ⟨#[c]⟩) vs := by
    intro cs
    induction cs with
    | nil =>
      intro vs e _
      rw [List.eq_nil_of_length_eq_zero e]
      exact .nil
    | cons c cs ih =>
      intro vs e q
      cases vs with
      | nil => cases e
      | cons v vs =>
        obtain ⟨c', u, e1, e2⟩ := q 0 v rfl
        cases e1
        exact .cons ⟨u, e2⟩ (ih vs (by simpa using e) fun j v' hj => q (j + 1) v' hj)
  have k := key z.cps.toList acc.toList (by rw [Array.length_toList, Array.length_toList]; exact h.1) fun j v hj => by
    obtain ⟨c, u, e1, e2⟩ := h.2 j v (by rw [← Array.getElem?_toList]; exact hj)
    exact ⟨c, u, by rw [Array.getElem?_toList]; exact e1, e2⟩
  unfold signsOf
  rw [List.map_map]
  exact k
theorem cr_listStr {X : Cx} (hc : X.calm = true) : CallR X (.type "list") rListStr := by
  intro pins s σ H xs us Q I r h
  obtain ⟨z, rfl, hz, q⟩ := h
  obtain ⟨u, rfl, t, rfl⟩ := vals1 r
  have hz' : z.cps.size ≤ sizeLine := small_size hz
  refine PySem.call_list_str (I.ok.hd hc) z t (fun h' tk acc' c' k ho hi => ?_) hz'
  have hv := signs_vals hi
  have hl : ((signsOf z).map V.str).length ≤ sizeLine := by
    rw [Paired.length hv, Array.length_toList, hi.1]
    exact hz'
  exact ⟨.ref s.heap.objs.size, upd H s.heap.objs.size (.lst ((signsOf z).map V.str)), I.laid (t' := tk) k (Nat.le_refl _) ⟨hl, acc'.toList, c', hv, ho⟩, rfl, q _ (I.hok.fresh (Nat.le_refl _))⟩
section
variable {P : Program} {w : World} {K : PySem.W.Frag} {mg : Str → Option Value} {base : Heap}
theorem scChoice : FnScope ["_law_rng_here", "_law_some"] ["_law_rng_here", "_law_some"] (defScope sChoice) := ⟨rfl, rfl, rfl, by decide +kernel, rfl, by decide +kernel, by decide +kernel⟩
theorem ok_choice {f fD : Addr} {fd fdD : FuncData} (F : Fun K "_law_choice" "_law_choice" sChoice f fd) (aD : At K mg "_law_draw" fD fdD ["_law_rng_here", "_law_many"] []) (gD : FnOk P w K mg base CX0 1 fD fdD ["_law_rng_here", "_law_many"] spDraw) (zn : mg "len" = none) :
    FnOk P w K mg base CX0 2 f fd ["_law_rng_here", "_law_some"] spChoice := by
  refine F.ok scChoice (fun vs H Q E h => ?_) (fun cdv A0 outer s H vs Q E hr h => ?_)
  · obtain ⟨a, b, xs, rfl, _⟩ := h
    rfl
  · obtain ⟨a, b, xs, rfl, hR, hb, nab, h0, hl, k⟩ := h
    refine ⟨_, pss_one (ps_ret (pe_ix ix_list (pv 1) (pe_call gD hr (by rfl) aD.g aD.kp aD.b .nil pass0 (pa_cons (pv 0) (pa_cons (pe_callB call_len_seq (by rfl) zn PySem.boot_len (pa_cons (pv 1) pa_nil)) pa_nil))) (fun _ _ => rfl))), ?_⟩
    refine ⟨_, rfl, _, rfl, _, rfl, b, xs, rfl, .inl (SqL.of hb), a, _, rfl, hR, by omega, by omega, fun d H' d0 dn r' k' => ?_⟩
    obtain ⟨j, rfl⟩ : ∃ j : Nat, d = (j : Int) := ⟨d.toNat, by omega⟩
    have hj : j < xs.length := by omega
    exact ⟨b, xs, _, xs[j], rfl, rfl, SqL.of (k' _ _ hb nab), atI_nat (List.getElem?_eq_getElem hj), k j _ H' (List.getElem?_eq_getElem hj) r' k'⟩
theorem scLetters : FnScope ["_law_rng_here", "_law_many", "_law_left", "_law_k"] ["_law_rng_here", "_law_many"] (defScope sLetters) := ⟨rfl, rfl, rfl, by decide +kernel, rfl, by decide +kernel, by decide +kernel⟩
theorem ok_letters {f fD : Addr} {fd fdD : FuncData} (F : Fun K "_law_letters" "_law_letters" sLetters f fd) (aD : At K mg "_law_draw" fD fdD ["_law_rng_here", "_law_many"] []) (gD : FnOk P w K mg base CX0 1 fD fdD ["_law_rng_here", "_law_many"] spDraw) (zn : mg "len" = none) (zl : mg "list" = none) (zr : mg "range" = none) :
    FnOk P w K mg base CX0 2 f fd ["_law_rng_here", "_law_many"] spLetters := by
  refine F.ok scLetters (fun vs H Q E h => ?_) (fun cdv A0 outer s H vs Q E hr h => ?_)
  · obtain ⟨a, n, rfl, _⟩ := h
    rfl
  · obtain ⟨a, n, rfl, hR, hn, k⟩ := h
    refine ⟨_, pss_cons (ps_set (i := 2) scLetters.nd rfl (.inr rfl) (pe_callTy (cr_listStr rfl) (by rfl) zl (by decide +kernel) (pa_cons pe_str pa_nil)))
      (pss_one (ps_ret (pe_lc (own := [("_law_k", 3)]) (g := gName 3) (tt := tYes) (te := tBM K "list" rPopAt (tVar 2) (tCons (tCall spDraw [] (fun _ _ _ => False) (tCons (tVar 0) (tCons (tCB (rLen K) (tCons (tVar 2) tNil)) tNil))) tNil)) rfl scLetters.nd (pi_range1 rfl zr (pa_cons (pv 1) pa_nil)) (blkOk_by (N := ["_law_rng_here", "_law_many", "_law_left", "_law_k"]) (sc := defScope sLetters) (by decide +kernel))
          (fun _ _ _ _ _ => pg_name (i := 3) scLetters.nd rfl (Or.inl rfl)) (fun _ _ _ _ _ => pts_nil)
          (fun _ _ _ _ _ => by exact pe_bm PySem.F.plainAttrs_list PySem.F.slot_list_pop PySem.F.type_list_pop mt_popAt (pv 2) (pa_cons (pe_call gD hr (by rfl) aD.g aD.kp aD.b .nil pass0 (pa_cons (pv 0) (pa_cons (pe_callB call_len_seq (by rfl) zn PySem.boot_len (pa_cons (pv 2) pa_nil)) pa_nil))) pa_nil))))), ?_⟩
    have e26 : abcL.length = 26 := by decide +kernel
    have nd26 : abcL.Nodup := by decide +kernel
    refine ⟨abc, rfl, by decide, fun Lf nLf => ?_⟩
    have aLf : Lf ≠ a := fun e => by
      obtain ⟨o, h⟩ := hR.there
      rw [e, h] at nLf
      cases nLf
    refine ⟨_, rfl, n, rfl, by omega, by omega, fun D nD => ?_⟩
    have nLD : Lf ≠ D := ne_of_none upd_same nD
    have nD0 : H D = none := (Ext.new nLf).free nD
    have aD' : D ≠ a := fun e => by
      obtain ⟨o, h⟩ := hR.there
      rw [e, h] at nD0
      cases nD0
    refine lc_range (n := n) (fun i H' => ∃ left picked : List Str, H' Lf = some (.lst (left.map V.str)) ∧ H' D = some (.lst (picked.map V.str)) ∧ (picked ++ left).Perm abcL ∧ picked.length = i ∧ Rng H' a ∧ Keep a H H') ⟨abcL, [], by rw [upd_ne nLD]; exact upd_same, upd_same, List.Perm.refl _, rfl, hR.ext ((Ext.new nLf).trans (Ext.new nD)), Keep.of ((Ext.new nLf).trans (Ext.new nD))⟩ ?_ ?_
    · rintro i H1 hi ⟨left, picked, l1, l2, pm, lp, r1, k1⟩
      have ll : picked.length + left.length = 26 := by rw [← List.length_append, pm.length_eq, e26]
      refine ⟨rfl, _, rfl, .inl ⟨rfl, _, SqL.of l1⟩, _, rfl, _, rfl, Lf, _, rfl, .inl (SqL.of l1), a, _, rfl, r1, by rw [List.length_map]; omega, by rw [List.length_map]; omega, fun d H2 d0 dn r2 k2 => ?_⟩
      rw [List.length_map] at dn
      obtain ⟨j, rfl⟩ : ∃ j : Nat, d = (j : Int) := ⟨d.toNat, by omega⟩
      have hj : j < left.length := by omega
      have l1' := k2 _ _ l1 aLf
      refine ⟨Lf, _, _, j, .str left[j], rfl, rfl, l1', by omega, by omega, (ixN_seq (ix_nat (by rw [List.length_map]; exact hj))).1, by rw [List.getElem?_map, List.getElem?_eq_getElem hj]; rfl, ?_⟩
      have l2' : (upd H2 Lf (.lst ((left.map V.str).eraseIdx j))) D = some (.lst (picked.map V.str)) := by
        rw [upd_ne nLD.symm]
        exact k2 _ _ l2 aD'
      refine ⟨_, l2', by rw [List.length_map]; exact small_list (by omega), left.eraseIdx j, picked ++ [left[j]], ?_, ?_, ?_, ?_, ?_, ?_⟩
      · rw [upd_ne nLD, upd_same, erase_map]
      · rw [upd_same, List.map_append]
        rfl
      · refine List.Perm.trans ?_ pm
        rw [List.append_assoc]
        exact List.Perm.append_left _ (pick_perm left j hj)
      · rw [List.length_append, lp]
        rfl
      · obtain ⟨x, y, h, q⟩ := r2.ex
        exact ⟨x, y, by rw [upd_ne aD'.symm, upd_ne aLf.symm]; exact h, q⟩
      · intro b o e nb
        rw [upd_ne (ne_of_none e nD0), upd_ne (ne_of_none e nLf)]
        exact k2 _ _ (k1 b o e nb) nb
    · rintro H' ⟨left, picked, l1, l2, pm, lp, r1, k1⟩
      have ndp := (List.nodup_append.mp (pm.nodup_iff.mpr nd26)).1
      exact k H' D picked r1 k1 nD0 l2 lp ndp fun z hz => pm.mem_iff.mp (List.mem_append_left _ hz)
end
end Sl
/-! ## B4 -/
set_option Elab.async false
set_option linter.all false
set_option maxRecDepth 100000
set_option maxHeartbeats 4000000
/-! sorted of a tuple of ints; has_length and are_states of a list or a tuple -/
namespace PyProof.Rows
open PySem PySem.W PySem.Calls
section
variable {prog : Program} {w : World} {A : Around} {E : Value → Shared → Prop} {s : Shared}
theorem collect_tupK {a : Addr} {us : List Value} {Q : List Value → Shared → Prop} (ht : s.heap.IsTuple a us.toArray)
    (h : Q us { s with heap := (s.heap.push (seqObj "list" #[] 0)).update s.heap.objs.size (Obj.mapSeq (· ++ us.toArray)) }) (z : us.length ≤ sizeLine) : wpAny (model prog w) A (collect (.ref a)) Q E s := by
  obtain ⟨o, ho, hc, n, hd⟩ := id ht
  unfold collect
  refine wpAny_bind (wpAny_runValue (codeAny_builtin entry_proto_collect' ?_))
  show wpAny _ _ (do again (.builtin "list.__iadd__" ⟨[← newList [], .ref a], []⟩)) _ _ s
  refine wpAny_bind (wpAny_newList (wpAny_pure ⟨Code.quiet_builtin _ (by decide +kernel), codeAny_builtin entry_list_iadd' ?_⟩))
  show wpAny _ _ (Builtin.List.listExtendWith (.ref s.heap.objs.size) (.ref a) (.ref s.heap.objs.size)) _ _ { s with heap := s.heap.push (seqObj "list" #[] 0) }
  unfold Builtin.List.listExtendWith
  have ho1 : (s.heap.push (seqObj "list" #[] 0)).get? a = some o := Heap.get?_push_of_some _ ho
  refine wpAny_bind (wpAny_typeOf (T := "tuple") ⟨o, ho1, hc⟩ ?_)
  rw [if_pos (by rw [show (Value.type "tuple" == Value.type "tuple") = true by rfl]; simp)]
  refine wpAny_bind (listItems_at ho1 hd (wpAny_bind (listItems_at (xs := #[]) (n := 0) (Heap.get?_push_size _ rfl) rfl ?_)))
  rw [if_neg (by simp)]
  refine wpAny_bind (listUpdate_at (xs := #[]) (n := 0) (Heap.get?_push_size _ rfl) rfl ?_ (Nat.zero_le _) (by show (#[] ++ us.toArray).size ≤ sizeLine + 1; simp only [Array.size_append, List.size_toArray, List.length_nil]; omega))
  refine wpAny_pure ?_
  show wpAny (model prog w) A (do
      let o ← load s.heap.objs.size
      match o.data with
      | .seq xs _ => pure xs.toList
      | _ => unsupported "internal:collect") Q E { s with heap := (s.heap.push (seqObj "list" #[] 0)).update s.heap.objs.size (Obj.mapSeq (· ++ us.toArray)) }
  refine wpAny_bind (wpAny_load (get?_update_seq (Heap.get?_push_size _ rfl) _) ?_)
  show wpAny _ _ (pure ((#[] : Array Value) ++ us.toArray).toList) Q E _
  rw [show ((#[] : Array Value) ++ us.toArray).toList = us by simp]
  exact wpAny_pure h
theorem sorted_tupK {a : Addr} {us : List Value} {ns : List Int} {Q : Value → Shared → Prop} (ht : s.heap.IsTuple a us.toArray) (hI : IntsAre us ns) (h64 : us.length < 64)
    (h : ∀ (out : Array Value) (ms : List Int), IntsAre out.toList ms → ms.Perm ns → ms.Pairwise (· ≤ ·) → Q (.ref (s.heap.objs.size + 1)) { s with heap := sortedAll s.heap us out }) :
    wpAny (model prog w) A (call (.builtin "sorted") [.ref a]) Q E s := by
  refine Calls.call_function_entry kind_sorted plain_sorted entry_sorted (args_sorted1 _) ?_
  unfold Builtin.«sorted»
  refine wpAny_bind (m := checkCount "sorted" 1 1 _) (wpAny_pure (wpAny_bind (collect_tupK ht (wpAny_bind (wpAny_newList ?_)) (by rw [sizeLine_eq]; omega))))
  have z : ((s.heap.push (seqObj "list" #[] 0)).update s.heap.objs.size (Obj.mapSeq (· ++ us.toArray))).objs.size = s.heap.objs.size + 1 := by rw [Heap.size_update, size_push']
  have at_ : (((s.heap.push (seqObj "list" #[] 0)).update s.heap.objs.size (Obj.mapSeq (· ++ us.toArray))).push (seqObj "list" us.toArray 0)).get? (s.heap.objs.size + 1) = some (seqObj "list" us.toArray 0) := by
    rw [← z]
    exact Heap.get?_push_size _ rfl
  show wpAny _ _ _ _ _ { s with heap := ((s.heap.push (seqObj "list" #[] 0)).update s.heap.objs.size (Obj.mapSeq (· ++ us.toArray))).push (seqObj "list" us.toArray 0) }
  rw [z]
  exact wpAny_bind (wpAny_holding (wpAny_call_entry slot_list_sort ⟨_, at_, rfl⟩ entry_list_sort (list_sort_tree at_ hI h64 fun out ms a1 a2 a3 => ⟨_, rfl, wpAny_pure ⟨_, rfl, h out ms a1 a2 a3⟩⟩) (args_list_sort _)))
end
end PyProof.Rows
namespace Sl
open PySem PySem.Spec PyProof.Rows L2
def rSortedK (K : PySem.W.Frag) : List V → Hp → VK → Prop := fun vs H Q => ∃ (k : Bool) (a : Addr) (ns : List Int), vs = [V.ref a] ∧ SqK K k H a (ns.map V.int) ∧ ns.length < 64 ∧
  ∀ (ms : List Int) (p : Addr), ms.Perm ns → ms.Pairwise (· ≤ ·) → H p = none → Q (.ref p) (upd H p (.lst (ms.map V.int)))
theorem cr_sortedK {X : Cx} : CallR X (.builtin "sorted") (rSortedK X.K) := by
  intro pins s σ H vs us Q I r h
  obtain ⟨k, a, ns, rfl, hs, h64, q⟩ := h
  cases k with
  | true => exact cr_sorted pins s σ H _ us Q I r ⟨a, ns, rfl, hs, h64, q⟩
  | false =>
    obtain ⟨its, rv, tp, _⟩ := I.tuple hs
    rw [Vals.ref1 r]
    have hi := rv.ints
    refine sorted_tupK (show s.heap.IsTuple a its.toArray from tp) hi (by rw [hi.length]; exact h64) fun out ms h1 h2 h3 => ?_
    obtain ⟨ep, e⟩ := sortedAll_at s.heap its out
    exact ⟨.ref _, upd H (s.heap.objs.size + 1) (.lst (ms.map V.int)), I.laid (t' := s.toks) (fun _ _ => sortedAll_old) (Nat.le_succ _) ⟨by rw [List.length_map, h2.length_eq]; exact small64 h64, out.toList, ep, vals_of_ints h1, e⟩, rfl, q ms _ h2 h3 (I.hok.fresh (Nat.le_succ _))⟩
def spHasLenK (K : PySem.W.Frag) : Sp := fun vs H Q _ => ∃ (k : Bool) (a : Addr) (xs : List V) (m n : Int), vs = [.ref a, .int m, .int n] ∧ SqK K k H a xs ∧ ∀ H', Ext H H' → Q (.bl (decide (m ≤ xs.length) && decide ((xs.length : Int) ≤ n))) H'
def spAreStatesK (K : PySem.W.Frag) : Sp := fun vs H Q _ => ∃ (k : Bool) (a : Addr) (ns : List Int) (n : Int), vs = [.ref a, .int n] ∧ SqK K k H a (ns.map V.int) ∧ ns.length < 64 ∧ ns.Nodup ∧ (∀ i ∈ ns, 0 ≤ i ∧ i < n) ∧ ∀ H', Ext H H' → Q (.bl true) H'
section
variable {P : Program} {w : World} {K : PySem.W.Frag} {mg : Str → Option Value} {base : Heap}
theorem ok_haslenK {f : Addr} {fd : FuncData} (F : Fun K "has_length" "has_length" sHasLen f fd) (zz : mg "isinstance" = none) (zl : mg "list" = none) (zt : mg "tuple" = none) (zn : mg "len" = none) :
    FnOk P w K mg base CX0 1 f fd ["value", "least", "most"] (spHasLenK K) := by
  refine F.ok scHasLen (fun vs H Q E h => ?_) (fun cdv A outer s H vs Q E hr h => ?_)
  · obtain ⟨k, a, xs, m, n, rfl, _⟩ := h
    rfl
  · obtain ⟨k, a, xs, m, n, rfl, ha, q⟩ := h
    refine ⟨_, pss_one (ps_ret (pe_and (pe_callB call_isiT (by rfl) zz (by decide +kernel) (pa_cons (pv 0) (pa_cons (pe_tup (pa_cons (pe_bltn (by rfl) zl (by decide +kernel) (rel_ty "list")) (pa_cons (pe_bltn (by rfl) zt (by decide +kernel) (rel_ty "tuple")) pa_nil))) pa_nil)))
      (pe_one (pe_chain op_le op_le (pv 1) (pe_callB call_len_seq (by rfl) zn PySem.boot_len (pa_cons (pv 0) pa_nil)) (pv 2))))), ?_⟩
    refine ⟨_, rfl, (by show 2 ≤ sizeLine; decide), fun p hp => ?_⟩
    have x1 : Ext H (upd H p (.tup [.ty "list", .ty "tuple"])) := Ext.new hp
    have hs := ha.ext x1
    refine ⟨_, p, _, _, _, true, rfl, upd_same, .cons (.ty _) (.cons (.ty _) .nil), hs.kind, seq_any k, true, rfl, _, rfl, _, rfl, _, _, rfl, hs.or, _, _, rfl, rfl, _, rfl, ?_⟩
    have q' := q _ x1
    by_cases c : m ≤ xs.length
    · simp only [c, decide_true, Bool.true_and, if_true] at q' ⊢
      exact ⟨_, rfl, _, _, rfl, rfl, q'⟩
    · simp only [c, decide_false, Bool.false_and, Bool.false_eq_true, if_false] at q' ⊢
      exact q'
theorem ok_arestatesK {f fB : Addr} {fd fdB : FuncData} (F : Fun K "are_states" "are_states" sAreStates f fd) (aB : At K mg "is_below" fB fdB ["value", "limit"] []) (gB : FnOk P w K mg base CX0 2 fB fdB ["value", "limit"] (spBelow K))
    (zz : mg "isinstance" = none) (zl : mg "list" = none) (zt : mg "tuple" = none) (zn : mg "len" = none) (za : mg "all" = none) (zs : mg "set" = none) :
    FnOk P w K mg base CX0 3 f fd ["value", "many"] (spAreStatesK K) := by
  refine F.ok scAreStates (fun vs H Q E h => ?_) (fun cdv A outer s H vs Q E hr h => ?_)
  · obtain ⟨k, a, ns, n, rfl, _⟩ := h
    rfl
  · obtain ⟨k, a, ns, n, rfl, ha, hl, nd, hns, q⟩ := h
    refine ⟨_, pss_cons (ps_if (pt_not (pt_val (pe_callB call_isiT (by rfl) zz (by decide +kernel) (pa_cons (pv 0) (pa_cons (pe_tup (pa_cons (pe_bltn (by rfl) zl (by decide +kernel) (rel_ty "list")) (pa_cons (pe_bltn (by rfl) zt (by decide +kernel) (rel_ty "tuple")) pa_nil))) pa_nil))))) (pss_one (ps_ret pe_bl)) pss_nil)
      (pss_cons (ps_if (pt_not (pt_val (pe_callB (cr_all rfl) (by rfl) za (by decide +kernel) (pa_cons (pe_lc (own := [("state", 2)]) (g := gName 2) (tt := tYes) rfl scAreStates.nd (pi_seq (pv 0)) (blkOk_by (N := ["value", "many", "state"]) (sc := defScope sAreStates) (by decide +kernel))
          (fun _ _ _ _ _ => pg_name (i := 2) scAreStates.nd rfl (Or.inl rfl)) (fun _ _ _ _ _ => pts_nil) (fun _ _ _ _ _ => pe_call gB hr (by rfl) aB.g aB.kp aB.b .nil pass0 (pa_cons (pv 2) (pa_cons (pv 1) pa_nil)))) pa_nil)))) (pss_one (ps_ret pe_bl)) pss_nil)
      (pss_one (ps_ret (pe_cmpR op_eq (pe_lenSeqI (by rfl) zn (by rfl) zs (pv 0)) (pe_callB call_len_seq (by rfl) zn PySem.boot_len (pa_cons (pv 0) pa_nil)) (nomark _))))), ?_⟩
    refine ⟨_, rfl, (by show 2 ≤ sizeLine; decide), fun p hp => ?_⟩
    have x1 : Ext H (upd H p (.tup [.ty "list", .ty "tuple"])) := Ext.new hp
    refine ⟨_, p, _, _, _, true, rfl, upd_same, .cons (.ty _) (.cons (.ty _) .nil), (ha.ext x1).kind, seq_any k, true, rfl, iteF ?_⟩
    generalize upd H p (.tup [.ty "list", .ty "tuple"]) = H1 at x1
    refine ⟨_, rfl, k, a, rfl, ⟨_, ha.ext x1⟩, fun D hD => ?_⟩
    refine lc_it (walk_seq (xs := ns.map V.int)) (fun i H' => Ext H H' ∧ H' D = some (.lst ((List.replicate i true).map V.bl))) ⟨x1.trans (Ext.new hD), upd_same⟩ (fun i H' _ h => ha.ext h.1) ?_ ?_
    · rintro i x H2 H' hi ⟨h1, h2⟩ ⟨rfl, hx⟩
      obtain ⟨z, hz, rfl⟩ := at_map hx
      have hil : i < ns.length := (List.getElem?_eq_some_iff.mp hz).1
      have hb := hns z (List.mem_of_getElem? hz)
      refine ⟨rfl, _, rfl, _, rfl, .int z, n, rfl, .inl ⟨z, rfl⟩, ?_⟩
      rw [show below (.int z) n = true by unfold below; simp [hb.1, hb.2]]
      refine ⟨_, h2, by rw [List.length_map, List.length_replicate]; exact small1000 (by omega), fun b o e => by rw [upd_ne (ne_of_none (x1 _ _ e) hD)]; exact h1 b o e, ?_⟩
      rw [upd_same, List.replicate_succ', List.map_append]
      rfl
    · rintro H' ⟨h1, h2⟩
      refine ⟨D, List.replicate (ns.map V.int).length true, rfl, SqL.of h2, true, by simp, iteF ?_⟩
      refine ⟨_, rfl, k, a, ns, rfl, ha.ext h1, nd, (by omega), _, rfl, a, _, rfl, (ha.ext h1).or, ?_⟩
      have e : decide (V.int (ns.length : Nat) = V.int ((ns.map V.int).length : Nat)) = true := by
        rw [List.length_map]
        simp
      have q' := q _ h1
      rw [← e] at q'
      exact ⟨rfl, q'⟩
end
end Sl
/-! ## V14 -/
set_option Elab.async false
set_option linter.all false
set_option maxRecDepth 100000
set_option maxHeartbeats 4000000
set_option pp.maxSteps 1500
set_option pp.deepTerms false
/-! the signs of a language, its words, its rows -/
namespace Sl
open PySem PySem.Spec PyProof.Rows L2 TxS
abbrev sLangSg : Stmt := top 33
abbrev sWordOf : Stmt := top 34
abbrev sChkSg : Stmt := top 35
abbrev sLangSt : Stmt := top 36
theorem signsOf_sgL (z : Str) : signsOf z = sgL z := rfl
/-- set(text) -/
def rSetStr (P : Program) (w : World) : List V → Hp → VK → Prop := fun vs H Q => ∃ z : Str, vs = [V.str z] ∧ z.length ≤ 100 ∧ ∀ p, H p = none → Q (.ref p) (upd H p (SetSO P w p (addAll [] (sgL z))))
theorem cr_setStr {X : Cx} (hc : X.calm = true) : CallR X (.type "set") (rSetStr X.prog X.w) := by
  intro pins s σ H vs us Q I r h
  obtain ⟨z, rfl, room, q⟩ := h
  obtain ⟨u, rfl, t, rfl⟩ := vals1 r
  refine call_set_strTx (I.ok.hd hc) (by rw [sgL_len]; have : z.cps.size ≤ 100 := room; exact Nat.lt_of_le_of_lt (Nat.succ_le_succ this) (by decide)) fun h' tk got old => ?_
  have nS : H s.heap.objs.size = none := I.hok.fresh (Nat.le_refl _)
  exact ⟨.ref _, _, I.laid (a := s.heap.objs.size) (t' := tk) old (Nat.le_refl _) (setSO_new got), rfl, q _ nS⟩
/-- signs that a language may have -/
structure SgOk (z : Str) : Prop where
  word : isWordS z = true
  pos : 1 ≤ z.length
  le : z.length ≤ 4
  asc : sortedS (sgL z) = true
  nd : (sgL z).Nodup
def spSgOk : Sp := fun vs H Q _ => ∃ z : Str, vs = [.str z] ∧ SgOk z ∧ ∀ H', Ext H H' → Q (.bl true) H'
def spChkSg : Sp := fun vs H Q _ => ∃ z : Str, vs = [.str z] ∧ SgOk z ∧ ∀ H', Ext H H' → Q .non H'
/-- whether it is a word of the signs -/
def wordOf (z y : Str) : Bool := isWordS y && y.cps.toList.all fun c => decide (c ∈ z.cps.toList)
def spWordOf (K : PySem.W.Frag) : Sp := fun vs H Q _ => ∃ (x : V) (z : Str), vs = [x, .str z] ∧ ((∃ y : Str, x = .str y ∧ y.length ≤ 1000 ∧ ∀ H', Ext H H' → Q (.bl (wordOf z y)) H') ∨ (∃ k : Kd, Is K H x k ∧ k ≠ .str ∧ Q (.bl false) H))
def spLangSt : Sp := fun vs H Q _ => ∃ (d : Addr) (z : Str) (n : Nat) (kvs : List (Key × V)) (δ : Str → Nat), vs = [.ref d, .str z, .int n] ∧ H d = some (.dK kvs) ∧ kvs.length = (sgL z).length ∧ (sgL z).length ≤ 100 ∧ (∀ c ∈ sgL z, valV kvs (keyC c) = some (.int (δ c : Nat)) ∧ δ c < n) ∧ ∀ H', Ext H H' → Q (.bl true) H'
theorem eq_list {K : PySem.W.Frag} {H : Hp} {a b : Addr} {xs : List V} (ha : H a = some (.lst xs)) (hb : H b = some (.lst xs)) (hf : ∀ x ∈ xs, flatB x = true) : ∃ n, n ≤ 60 ∧ EqR K H (EqV K H n) (.ref a) (.ref b) := by
  refine ⟨1, by decide, .inl ⟨a, b, xs, xs, rfl, rfl, SqL.of ha, SqL.of hb, ?_⟩⟩
  have : ∀ l : List V, (∀ x ∈ l, flatB x = true) → Paired (EqV K H 1) l l := fun l => by
    induction l with
    | nil => exact fun _ => .nil
    | cons x l ih => exact fun h => .cons (.inl ⟨rfl, h x List.mem_cons_self⟩) (ih fun y hy => h y (List.mem_cons_of_mem _ hy))
  exact this xs hf
theorem perm_nodup {α : Type} [DecidableEq α] {l m : List α} (hl : l.Nodup) (hm : m.Nodup) (h : ∀ c, c ∈ l ↔ c ∈ m) : l.Perm m := (List.perm_ext_iff_of_nodup hl hm).mpr h
section
variable {P : Program} {w : World} {K : PySem.W.Frag} {mg : Str → Option Value} {base : Heap}
theorem scLangSg : FnScope ["value"] ["value"] (defScope sLangSg) := ⟨rfl, rfl, rfl, by decide +kernel, rfl, by decide +kernel, by decide +kernel⟩
theorem ok_langsg {f fW : Addr} {fd fdW : FuncData} {t4 : Tok} (F : Fun K "are_language_signs" "are_language_signs" sLangSg f fd) (aW : At K mg "is_word" fW fdW ["value"] []) (gW : FnOk P w K mg base CX0 1 fW fdW ["value"] (spIsWord K)) (zn : mg "len" = none) (zm : mg "MAX_SIGNS" = some (.int 4 t4))
    (zl : mg "list" = none) (zs : mg "set" = none) (zo : mg "sorted" = none) : FnOk P w K mg base CX0 2 f fd ["value"] spSgOk := by
  refine F.ok scLangSg (fun vs H Q E h => ?_) (fun cdv A outer s H vs Q E hr h => ?_)
  · obtain ⟨z, rfl, _⟩ := h
    rfl
  · obtain ⟨z, rfl, hz, q⟩ := h
    have hu64 : (A.deeper (envOfC "are_language_signs" (defScope sLangSg) s.heap.objs.size f cdv)).units + 64 < cLine := by
      have := hr.un
      omega
    refine ⟨_, pss_cons (ps_if (PW.pt (pw_or (pt_not (pt_val (pe_call gW hr (by rfl) aW.g aW.kp aW.b .nil pass0 (pa_cons (pv 0) pa_nil)))) (pw_or1 (pt_not (pt_chain op_le op_le pe_int (pe_callB call_len_str (by rfl) zn PySem.boot_len (pa_cons (pv 0) pa_nil)) (pe_glob (v := .int 4) rfl zm ⟨_, rfl⟩)))))) pss_dead pss_nil)
      (pss_one (ps_ret (pe_cmpR (op_eqV hu64) (pe_callTy (cr_listStr rfl) (by rfl) zl (by decide +kernel) (pa_cons (pv 0) pa_nil)) (pe_callB (cr_sortedTx rfl) (by rfl) zo (by decide +kernel) (pa_cons (pe_callTy (cr_setStr rfl) (by rfl) zs (by decide +kernel) (pa_cons (pv 0) pa_nil)) pa_nil)) (nomark _)))), ?_⟩
    have hz4 := hz.le
    have hz1 := hz.pos
    refine ⟨_, rfl, _, rfl, .inl ⟨z, rfl, by omega, fun H1 x1 => ?_⟩⟩
    have x1 : Ext H H1 := x1
    rw [hz.word]
    refine ⟨_, rfl, ?_⟩
    refine iteF ?_
    refine ⟨_, rfl, z, rfl, small_size (by omega), _, _, rfl, rfl, _, rfl, ?_⟩
    rw [if_pos (decide_eq_true (by omega))]
    refine ⟨_, _, rfl, rfl, _, rfl, ?_⟩
    rw [decide_eq_true (show ((z.length : Nat) : Int) ≤ 4 by omega)]
    refine iteF ?_
    have ln : (addAll [] (sgL z)).length = (sgL z).length := (perm_nodup (addAll_nodup _ _ List.nodup_nil) hz.nd fun c => by rw [addAll_mem]; simp).length_eq
    have l4 : (sgL z).length ≤ 4 := by
      rw [sgL_len]
      exact hz4
    refine ⟨_, rfl, z, rfl, by omega, fun l nl => ⟨_, rfl, z, rfl, by omega, fun p np => ⟨p, addAll [] (sgL z), rfl, upd_same, by omega, fun ys r pm hs nr => ?_⟩⟩⟩
    have ey : ys = sgL z := sorted_unique hs hz.asc (pm.trans (perm_nodup (addAll_nodup _ _ List.nodup_nil) hz.nd fun c => by rw [addAll_mem]; simp))
    subst ey
    have xl := Ext.new nl (o := .lst ((signsOf z).map V.str))
    have xp := xl.trans (Ext.new np (o := SetSO P w p (addAll [] (sgL z))))
    have hl := Ext.new nr (o := .lst ((sgL z).map V.str)) _ _ (Ext.new np (o := SetSO P w p (addAll [] (sgL z))) _ _ (upd_same (H := H1) (a := l) (o := .lst ((signsOf z).map V.str))))
    obtain ⟨n, n60, he⟩ := eq_list (K := K) hl upd_same fun x hx => by
      obtain ⟨c, _, rfl⟩ := List.mem_map.mp hx
      rfl
    exact ⟨n, n60, he, q _ ((x1.trans xp).trans (Ext.new nr))⟩
theorem scChkSg : FnScope ["value"] ["value"] (defScope sChkSg) := ⟨rfl, rfl, rfl, by decide +kernel, rfl, by decide +kernel, by decide +kernel⟩
theorem ok_chksg {f fA : Addr} {fd fdA : FuncData} (F : Fun K "_check_signs" "_check_signs" sChkSg f fd) (aA : At K mg "are_language_signs" fA fdA ["value"] []) (gA : FnOk P w K mg base CX0 2 fA fdA ["value"] spSgOk) : FnOk P w K mg base CX0 3 f fd ["value"] spChkSg := by
  refine F.ok scChkSg (fun vs H Q E h => ?_) (fun cdv A outer s H vs Q E hr h => ?_)
  · obtain ⟨z, rfl, _⟩ := h
    rfl
  · obtain ⟨z, rfl, hz, q⟩ := h
    refine ⟨_, pss_one (ps_if (pt_not (pt_val (pe_call gA hr (by rfl) aA.g aA.kp aA.b .nil pass0 (pa_cons (pv 0) pa_nil)))) pss_dead pss_nil), ?_⟩
    refine ⟨_, rfl, z, rfl, hz, fun H1 x1 => ⟨_, rfl, ?_⟩⟩
    refine iteF ?_
    exact q _ x1
theorem scWordOf : FnScope ["value", "signs", "sign"] ["value", "signs"] (defScope sWordOf) := ⟨rfl, rfl, rfl, by decide +kernel, rfl, by decide +kernel, by decide +kernel⟩
theorem ok_wordof {f fW : Addr} {fd fdW : FuncData} (F : Fun K "is_word_of" "is_word_of" sWordOf f fd) (aW : At K mg "is_word" fW fdW ["value"] []) (gW : FnOk P w K mg base CX0 1 fW fdW ["value"] (spIsWord K)) (za : mg "all" = none) : FnOk P w K mg base CX0 2 f fd ["value", "signs"] (spWordOf K) := by
  refine F.ok scWordOf (fun vs H Q E h => ?_) (fun cdv A outer s H vs Q E hr h => ?_)
  · obtain ⟨x, z, rfl, _⟩ := h
    rfl
  · obtain ⟨x, z, rfl, h⟩ := h
    refine ⟨_, pss_one (ps_ret (pe_and (pe_call gW hr (by rfl) aW.g aW.kp aW.b .nil pass0 (pa_cons (pv 0) pa_nil)) (pe_one (pe_callB (cr_all rfl) (by rfl) za (by decide +kernel) (pa_cons
      (pe_lc (own := [("sign", 2)]) (g := gName 2) (tt := tYes) (te := tOp rInS (tVar 2) (tVar 1)) rfl scWordOf.nd (pi_str (pv 0)) (blkOk_by (N := ["value", "signs", "sign"]) (sc := defScope sWordOf) (by decide +kernel))
        (fun _ _ _ _ _ => pg_name (i := 2) scWordOf.nd rfl (Or.inl rfl)) (fun _ _ _ _ _ => pts_nil) (fun _ _ _ _ _ => pe_cmpR op_inS (pv 2) (pe_var (i := 1) rfl (.inr (.inl rfl))) (by rfl))) pa_nil))))), ?_⟩
    rcases h with ⟨y, rfl, hy, q⟩ | ⟨k, hk, ns, q⟩
    · refine ⟨_, rfl, _, rfl, .inl ⟨y, rfl, by omega, fun H1 x1 => ⟨_, rfl, ?_⟩⟩⟩
      have x1 : Ext H H1 := x1
      unfold wordOf at q
      generalize isWordS y = bw at q ⊢
      cases bw with
      | false => exact q _ x1
      | true =>
        rw [Bool.true_and] at q
        rw [if_pos rfl]
        refine ⟨_, rfl, y, rfl, fun D nD => ?_⟩
        refine lc_it (walk_str (z := y)) (fun j H' => Ext H1 H' ∧ H' D = some (.lst (((y.cps.toList.take j).map fun c => decide (c ∈ z.cps.toList)).map V.bl))) ⟨Ext.new nD, upd_same⟩ (fun _ _ _ _ => trivial) ?_ ?_
        · rintro j v H6 H7 hj ⟨x6, hD⟩ ⟨rfl, c, hc, rfl⟩
          have hc' : y.cps.toList[j]? = some c := by rw [Array.getElem?_toList]; exact hc
          refine ⟨rfl, ?_⟩
          dsimp only [tYes]
          rw [if_pos rfl]
          have hj' : j < y.length := hj
          refine ⟨_, rfl, _, rfl, c, z, rfl, rfl, _, hD, ?_, fun a o e => ?_, ?_⟩
          · rw [List.length_map, List.length_map, List.length_take]
            exact small1000 (by omega)
          · rw [upd_ne (ne_of_none e nD)]
            exact x6 _ _ e
          · rw [upd_same, take_more hc', List.map_append, List.map_append]
            rfl
        · rintro H6 ⟨x6, hD⟩
          have e : y.cps.size = y.cps.toList.length := (Array.length_toList ..).symm
          rw [e, List.take_length] at hD
          refine ⟨D, _, rfl, SqL.of hD, ?_⟩
          rw [List.all_map]
          exact q H6 (x1.trans x6)
    · refine ⟨_, rfl, _, rfl, .inr ⟨k, hk, ns, _, rfl, ?_⟩⟩
      exact q
theorem scLangSt : FnScope ["value", "signs", "many", "sign"] ["value", "signs", "many"] (defScope sLangSt) := ⟨rfl, rfl, rfl, by decide +kernel, rfl, by decide +kernel, by decide +kernel⟩
theorem ok_langst {f fB : Addr} {fd fdB : FuncData} (F : Fun K "_is_language_state" "_is_language_state" sLangSt f fd) (aB : At K mg "is_below" fB fdB ["value", "limit"] []) (gB : FnOk P w K mg base CX0 2 fB fdB ["value", "limit"] (spBelow K))
    (zz : mg "isinstance" = none) (zd : mg "dict" = none) (zn : mg "len" = none) (za : mg "all" = none) : FnOk P w K mg base CX0 3 f fd ["value", "signs", "many"] spLangSt := by
  refine F.ok scLangSt (fun vs H Q E h => ?_) (fun cdv A outer s H vs Q E hr h => ?_)
  · obtain ⟨d, z, n, kvs, δ, rfl, _⟩ := h
    rfl
  · obtain ⟨d, z, n, kvs, δ, rfl, hd, hl, l100, hv, q⟩ := h
    have hu := hu_of hr
    refine ⟨_, pss_cons (ps_if (PW.pt (pw_or (pt_not (pt_val (pe_callB call_isi (by rfl) zz (by decide +kernel) (pa_cons (pe_var (i := 0) rfl (.inr (.inl rfl))) (pa_cons (pe_bltn (by rfl) zd (by decide +kernel) (rel_ty "dict")) pa_nil))))) (pw_or1 (pt_cmpR op_ne (pe_callB call_lenD (by rfl) zn PySem.boot_len (pa_cons (pe_var (i := 0) rfl (.inr (.inl rfl))) pa_nil)) (pe_callB call_len_str (by rfl) zn PySem.boot_len (pa_cons (pv 1) pa_nil)) (nomark _))))) pss_dead pss_nil)
      (pss_one (ps_ret (pe_callB (cr_all rfl) (by rfl) za (by decide +kernel) (pa_cons (pe_lc (own := [("sign", 3)]) (g := gName 3) (tt := tYes) rfl scLangSt.nd (pi_str (pv 1)) (blkOk_by (N := ["value", "signs", "many", "sign"]) (sc := defScope sLangSt) (by decide +kernel))
          (fun _ _ _ _ _ => pg_name (i := 3) scLangSt.nd rfl (Or.inl rfl)) (fun _ _ _ _ _ => pts_nil)
          (fun _ _ _ _ _ => pe_and (pe_cmp (pc_din hu (pv 3) (pe_var (i := 0) rfl (.inr (.inl rfl))))) (pe_one (pe_call gB hr (by rfl) aB.g aB.kp aB.b .nil pass0 (pa_cons (pe_dget hu (pe_var (i := 0) rfl (.inr (.inl rfl))) (pv 3) (fun _ _ => rfl)) (pa_cons (pe_var (i := 2) rfl (.inr (.inl rfl))) pa_nil)))))) pa_nil)))), ?_⟩
    have lz : z.length = (sgL z).length := (sgL_len z).symm
    have hval : ∀ (H' : Hp) (c : Str), Ext H H' → c ∈ sgL z → DGet H' d (.str c) (some (.int (δ c : Nat))) := fun H' c x hc => by
      rw [← (hv c hc).1]
      exact DGet.k (k := keyC c) (x _ _ hd)
    refine ⟨_, rfl, _, _, .type "dict", _, true, rfl, .ty _, .base (.dK hd), kit_ty (by decide +kernel), true, rfl, ?_⟩
    refine iteF ?_
    refine ⟨_, rfl, d, kvs, rfl, hd, _, rfl, z, rfl, small_size (by omega), rfl, ?_⟩
    have e0 : decide (V.int (kvs.length : Nat) = V.int (z.length : Nat)) = true := by
      rw [lz, hl]
      exact decide_eq_true rfl
    rw [e0]
    refine ⟨_, rfl, ?_⟩
    refine iteF ?_
    refine ⟨_, rfl, z, rfl, fun D nD => ?_⟩
    refine lc_it (walk_str (z := z)) (fun j H' => Ext H H' ∧ H' D = some (.lst ((List.replicate j true).map V.bl))) ⟨Ext.new nD, upd_same⟩ (fun _ _ _ _ => trivial) ?_ ?_
    · rintro j v H6 H7 hj ⟨x6, hD⟩ ⟨rfl, c, hc, rfl⟩
      have hsg := sgL_at hc
      have cm := List.mem_of_getElem? hsg
      have g := hval _ _ x6 cm
      have hj' : j < z.length := hj
      refine ⟨rfl, ?_⟩
      dsimp only [tYes]
      rw [if_pos rfl]
      refine ⟨_, rfl, _, rfl, d, _, rfl, g, true, rfl, ?_⟩
      rw [if_pos rfl]
      refine ⟨_, rfl, _, rfl, d, _, rfl, g, _, rfl, _, _, rfl, .inl ⟨_, rfl⟩, ?_⟩
      have eb : below (.int (δ ⟨#[c]⟩ : Nat)) (n : Int) = true := by
        have := (hv _ cm).2
        show (decide ((0 : Int) ≤ (δ ⟨#[c]⟩ : Nat)) && decide (((δ ⟨#[c]⟩ : Nat) : Int) < (n : Int))) = true
        rw [decide_eq_true (by omega), decide_eq_true (by omega)]
        rfl
      rw [eb]
      refine ⟨_, hD, by rw [List.length_map, List.length_replicate]; exact small1000 (by omega), fun a o e => ?_, ?_⟩
      · rw [upd_ne (ne_of_none e nD)]
        exact x6 _ _ e
      · rw [upd_same, List.replicate_succ', List.map_append]
        rfl
    · rintro H6 ⟨x6, hD⟩
      refine ⟨D, _, rfl, SqL.of hD, ?_⟩
      have e : (List.replicate z.cps.size true).all id = true := by simp
      rw [e]
      exact q H6 x6
end
end Sl
/-! ## V6 -/
set_option Elab.async false
set_option linter.all false
set_option maxRecDepth 100000
set_option maxHeartbeats 4000000
set_option pp.maxSteps 1500
set_option pp.deepTerms false
/-! leading_into: the nodes from which a lambda leads to goals -/
namespace Sl
open PySem PySem.Spec PyProof.Rows L2 LamX NdefX
abbrev sLeading : Stmt := top 13
def spLeading (P : Program) (w : World) (K : PySem.W.Frag) (mg : Str → Option Value) (k : Nat) (base : Heap) : List (Str × Addr) → List Str → List (Option V) → Sp := fun cl fr ws vs H Q _ => ∃ (kb : Bool) (gs fl : Addr) (goals : List Nat) (F : LF) (N : Nat) (G : Hp → Prop) (g : Gr), vs = [.ref gs, .int N, .ref fl] ∧
  SqK K kb H gs (goals.map fun n => V.int (n : Nat)) ∧ goals.Nodup ∧ (∀ x ∈ goals, x < N) ∧ N < 64 ∧
  H fl = some (LamO fl F) ∧ H F.c = some (CodeO F.c F.qual) ∧ F.cl = cl ∧ (∀ b : Heap, (∀ a o, base.get? a = some o → b.get? a = some o) → Mod K mg b → LeadL P w K mg b k G g N F fr ws) ∧ G H ∧ GrOk G g N ∧
  ∀ (ys : List Nat) (H' : Hp) (p : Addr), Ext H H' → H p = none → ys.Perm (closeL (preG g N) N goals) → H' p = some (.lst (ys.map fun n => V.int (n : Nat))) → Q (.ref p) H'
abbrev nLeading : List Str := ["goals", "many", "leads", "node"]
theorem keyInts {kvs : List (Key × V)} {l : List Nat} (h : kvs.map (·.1) = l.map keyI) : kvs.map (·.1) = (l.map fun n : Nat => (n : Int)).map Sum.inl := by
  rw [h, List.map_map]
  rfl
theorem perm_nats {ys : List Int} {l : List Nat} (h : ys.Perm (l.map fun n : Nat => (n : Int))) : ∃ zs : List Nat, zs.Perm l ∧ ys = zs.map fun n : Nat => (n : Int) := by
  refine ⟨ys.map Int.toNat, ?_, ?_⟩
  · have := h.map Int.toNat
    rw [List.map_map] at this
    have e : (Int.toNat ∘ fun n : Nat => (n : Int)) = id := by
      funext n
      simp
    rwa [e, List.map_id] at this
  · rw [List.map_map]
    have : ∀ y ∈ ys, ((fun n : Nat => (n : Int)) ∘ Int.toNat) y = id y := fun y hy => by
      obtain ⟨n, _, e⟩ := List.mem_map.mp (h.mem_iff.mp hy)
      subst e
      simp
    rw [List.map_congr_left this, List.map_id]
section
variable {P : Program} {w : World} {K : PySem.W.Frag} {mg : Str → Option Value} {base : Heap}
theorem scLeading : FnScope nLeading ["goals", "many", "leads"] (defScope sLeading) := ⟨rfl, rfl, rfl, by decide +kernel, rfl, by decide +kernel, by decide +kernel⟩
theorem ok_leading {k : Nat} {f fD : Addr} {fd fdD : FuncData} (Fn : Fun K "leading_into" "leading_into" sLeading f fd) (aD : At K mg "distances_to" fD fdD ["goals", "graph"] []) (gD : ∀ b, FnOk P w K mg b CX0 1 fD fdD ["goals", "graph"] (spDist K))
    (zr : mg "range" = none) (zs : mg "sorted" = none) : FnV P w K mg base CX0 (k + 2) f fd ["goals", "many", "leads"] (spLeading P w K mg (k + 1) base) := by
  refine Sl.Fun.okW (sp := spLeading P w K mg (k + 1)) Fn scLeading (fun b cl fr ws vs H Q E h => ?_) (fun b cl fr ws vs H Q E h kb hm => ?_) (fun b A0 outer s H vs cl fr ws Q E hm kb hr B C h => ?_)
  · obtain ⟨kb, gs, fl, goals, F, N, G, g, rfl, _⟩ := h
    rfl
  · obtain ⟨kk, gs, fl, goals, F, N, G, g, h1, h2, h3, h4, h5, h6, h7, h8, LL, h⟩ := h
    exact ⟨kk, gs, fl, goals, F, N, G, g, h1, h2, h3, h4, h5, h6, h7, h8, fun b' h' m' => LL b' (fun a o e => h' a o (kb a o e)) m', h⟩
  · obtain ⟨kq, gs, fl, goals, F, N, G, g, rfl, hgs, nd, lt, n64, hf, hc, ecl, LL, hG, gk, kk⟩ := h
    obtain ⟨y, spF, LF, imp⟩ := (LL b (fun _ _ e => e) hm).ok
    rw [← ecl] at B
    have hr1 := hr.mono (show 1 ≤ k + 1 by omega)
    refine ⟨_, pss_one (ps_ret (pe_callB (call_sortedDI rfl) (by rfl) zs (by decide +kernel) (pa_cons (pe_call (gD b) hr1 (by rfl) aD.g aD.kp aD.b .nil pass0 (pa_cons (pv 0) (pa_cons
      (pe_dc (own := [("node", 3)]) (g := gName 3) (tt := tYes) (tk := tVar 3) (tv := tCallL F 2 ws spF (fun _ _ _ => False) (tCons (tVar 3) tNil)) rfl scLeading.nd (pi_range1 rfl zr (pa_cons (pv 1) pa_nil)) (blkOk_by (N := nLeading) (sc := defScope sLeading) (by decide +kernel))
        (fun _ _ _ _ _ => pg_name (i := 3) scLeading.nd rfl (Or.inl rfl)) (fun _ _ _ _ _ => pts_nil) (fun _ _ _ _ _ => pv 3)
        (fun _ _ _ _ _ => pe_callL (i := 2) LF (fun pins σ H s I => cells_base B I) hr (Nat.le_refl _) pass0 rfl (.inr (.inl rfl)) (pa_cons (pv 3) pa_nil))) pa_nil))) pa_nil))), ?_⟩
    refine ⟨_, rfl, _, rfl, N, rfl, by omega, by omega, fun D nD => ?_⟩
    rw [show ((N : Int)).toNat = N by omega]
    refine dcW (walk_range (lo := 0) (n := N)) (fun i H' => Ext H H' ∧ ∃ Ls : List Addr, Ls.length = i ∧ H' D = some (.dK (kvsG Ls)) ∧ LsAt H' g Ls) ⟨Ext.new nD, [], rfl, upd_same, fun i L e => (by cases i <;> cases e)⟩ (fun _ _ _ _ => trivial) ?_ ?_
    · rintro i x H1 H2 hi ⟨x1, Ls, lLs, hD, hLs⟩ ⟨rfl, rfl⟩
      refine ⟨rfl, ?_⟩
      dsimp only [tYes]
      rw [if_pos rfl]
      refine ⟨_, rfl, fl, rfl, x1 _ _ hf, _, rfl, x1 _ _ hf, x1 _ _ hc, imp _ _ _ _ ⟨i, by simp, hi, gk.st _ _ (ExtN.of x1) hG, fun H3 p ts x3 np hp hts => ?_⟩⟩
      have nDp : D ≠ p := ne_of_none hD np
      refine ⟨kvsG Ls, keyI i, ?_, x3 _ _ hD, ?_, fun a o e => ?_, Ls ++ [p], ?_, ?_, ?_⟩
      · show V.int (0 + (i : Int)) = V.int i
        rw [Int.zero_add]
      · rw [kvsG_len]
        exact small_l (by omega)
      · rw [upd_ne (ne_of_none e nD)]
        exact x3 _ _ (x1 _ _ e)
      · rw [List.length_append, lLs]
        rfl
      · rw [upd_same, kvsG_snoc, lLs]
        refine congrArg (fun z => some (HO.dK z)) (putK_new _ ?_)
        cases e : valV (kvsG Ls) (keyI i) with
        | none => rfl
        | some v =>
          obtain ⟨kv, hm, hk⟩ := List.mem_map.mp (valV_in e)
          obtain ⟨j, hj⟩ := List.getElem?_of_mem hm
          obtain ⟨L, hL, h1, _⟩ := kvsG_at (k := kv.1) (v := kv.2) hj
          have := (List.getElem?_eq_some_iff.mp hL).1
          rw [hk] at h1
          unfold keyI at h1
          injection h1 with h1
          omega
      · have tk : ∀ t xs, H2 t = some (.tup xs) → (upd H3 D (.dK (putK (kvsG Ls) (keyI i) (.ref p)))) t = some (.tup xs) := fun t xs h => by
          rw [upd_ne (ne_of h hD (by intro z; cases z))]
          exact x3 _ _ h
        intro j L hL
        by_cases c : j < Ls.length
        · rw [List.getElem?_append_left c] at hL
          obtain ⟨ts', h1, h2⟩ := hLs j L hL
          refine ⟨ts', ?_, h2.ext tk⟩
          rw [upd_ne (ne_of h1 hD (by intro z; cases z))]
          exact x3 _ _ h1
        · have hlt := (List.getElem?_eq_some_iff.mp hL).1
          rw [List.length_append] at hlt
          have hlt : j < Ls.length + 1 := hlt
          obtain rfl : j = Ls.length := by omega
          rw [List.getElem?_append_right (Nat.le_refl _), Nat.sub_self] at hL
          obtain rfl := Option.some.inj hL
          refine ⟨ts, ?_, ?_⟩
          · rw [upd_ne nDp.symm]
            exact hp
          · rw [lLs]
            exact hts.ext fun t xs h => by
              rw [upd_ne (ne_of h (x3 _ _ hD) (by intro z; cases z))]
              exact h
    · rintro H1 ⟨x1, Ls, lLs, hD, hLs⟩
      refine ⟨kq, gs, D, goals, Ls, g, N, rfl, hgs.ext x1, nd, lt, hD, lLs, hLs, gk.n, gk.lt, gk.le, fun H2 d kvs x2 nd2 hd hk => ?_⟩
      refine ⟨d, kvs, _, rfl, Rd.of hd, keyInts hk, ?_, fun ys p pm _ np => ?_⟩
      · rw [List.length_map]
        have := closeL_len (g := g) nd lt
        omega
      · obtain ⟨zs, pz, rfl⟩ := perm_nats pm
        refine kk zs _ p ((x1.trans x2).trans (Ext.new np)) (x1.free (x2.free np)) pz ?_
        rw [upd_same, List.map_map]
        rfl
end
end Sl
/-! ## V15 -/
set_option Elab.async false
set_option linter.all false
set_option maxRecDepth 100000
set_option maxHeartbeats 4000000
set_option pp.maxSteps 1500
set_option pp.deepTerms false
/-! Language.__init__ -/
namespace Sl
open PySem PySem.Spec PyProof.Rows L2 LamX NdefX
abbrev sLInit : Stmt := inClass (top 37) 1
abbrev eLive : Expr := argAt 2 (asgVal (nth (defBody sLInit) 8))
abbrev scLive : Scope := lamSc eLive (defScope sLInit)
/-- the least machine's states at L -/
def LeAt (L : Addr) (rs : List Addr) (sg : List Str) (δ : Nat → Str → Nat) (H : Hp) : Prop := H L = some (.lst (rs.map V.ref)) ∧ RowsD H rs sg δ
theorem LeAt.extN {L : Addr} {rs : List Addr} {sg : List Str} {δ : Nat → Str → Nat} {H H' : Hp} (x : ExtN H H') (h : LeAt L rs sg δ H) : LeAt L rs sg δ H' :=
  ⟨x _ _ h.1 (by intro ps q; cases q), fun i r e => x _ _ (h.2 i r e) (by intro ps q; cases q)⟩
theorem leGr {L : Addr} {rs : List Addr} {sg : List Str} {δ : Nat → Str → Nat} {M : Nat} (n : M ≤ 100) (ls : sg.length ≤ 100) (lt : ∀ n, n < M → ∀ c ∈ sg, δ n c < M) : GrOk (LeAt L rs sg δ) (gOf sg δ) M :=
  ⟨fun _ _ x h => h.extN x, n, fun n hn e he => (by
    obtain ⟨c, hc, rfl⟩ := List.mem_map.mp he
    exact lt n hn c hc), fun n => by
    unfold gOf
    rw [List.length_map]
    exact ls⟩
theorem leads_row {H : Hp} {δ : Str → Nat} : ∀ {ts : List Addr} {sg : List Str}, Paired (fun (t : Addr) (q : Key × V) => H t = some (.tup [kV q.1, q.2])) ts (rowD sg δ) → LeadsAt H ts (sg.map fun c => (c, δ c))
  | _, [], .nil => .nil
  | _, _ :: _, .cons a h => .cons a (leads_row h)
section
variable {P : Program} {w : World} {K : PySem.W.Frag} {mg : Str → Option Value} {base : Heap}
theorem csLive : CScope ["at", "least"] ["at"] ["least"] scLive := cscope_by (by decide +kernel)
theorem lead_live {k : Nat} {c' : Addr} {cl : List (Str × Addr)} {L : Addr} {rs : List Addr} {sg : List Str} {δ : Nat → Str → Nat} (zl : mg "list" = none) :
    LeadL P w K mg base (k + 1) (LeAt L rs sg δ) (gOf sg δ) rs.length ⟨"Language.__init__.<locals>.<lambda>", lamPar eLive ⟨[], [], none, [], [], none, []⟩, lamBody eLive, scLive, cl, c'⟩ ["least"] [some (.ref L)] := by
  refine ⟨"at", fun ws vs H Q _ => ws = [some (.ref L)] ∧ spLeads (LeAt L rs sg δ) (gOf sg δ) rs.length vs H Q, lok_ofC (N := ["at", "least"]) csLive (fun pm ctv us hl => match us, hl with | [_], _ => rfl) (fun ws vs H Q E h => ?_) (fun f A outer s H vs ws Q E hr hf hc hl h => ?_), fun vs H Q E h => ⟨rfl, h⟩⟩
  · obtain ⟨_, n, rfl, _⟩ := h
    rfl
  · obtain ⟨rfl, n, rfl, hn, ⟨h1, h2⟩, kk⟩ := h
    refine ⟨_, LiI.pe_listItems rfl (pe_ix ix_list (pe_var (i := 1) rfl (.inr (.inr rfl))) (pv 0) (fun _ _ => rfl)) (by rfl) zl (by decide +kernel), ?_⟩
    obtain ⟨r, hr⟩ : ∃ r, rs[n]? = some r := ⟨_, List.getElem?_eq_getElem hn⟩
    refine ⟨_, rfl, _, rfl, L, _, _, _, rfl, rfl, SqL.of h1, atI_nat (by rw [List.getElem?_map, hr]; rfl), r, _, rfl, h2 n r hr, fun H' p ts x np nt pt hp hts => ?_⟩
    exact kk H' p ts x np hp (leads_row hts)
end
theorem nodup_map_int {l : List Nat} (h : l.Nodup) : (l.map fun n : Nat => (n : Int)).Nodup := by
  unfold List.Nodup at h ⊢
  rw [List.pairwise_map]
  exact h.imp fun a b => a (by omega)
/-- what stood stands, but for p and for tables -/
def KeepN (p : Addr) (H H' : Hp) : Prop := ∀ b o, H b = some o → (∀ ps, o ≠ .tbl ps) → b ≠ p → H' b = some o
theorem tabs_ins {T : List (Addr × Str)} {H H' : Hp} {p C dx : Addr} {fs : List (Str × V)} (t : Tabs T H) (hp : H p = some (.ins C dx fs)) (k : ∀ b o, H b = some o → b ≠ p → H' b = some o) : Tabs T H' := fun q hq => by
  obtain ⟨ps, h1, h2, h3⟩ := t q hq
  refine ⟨ps, k _ _ h1 (ne_of h1 hp (by intro z; cases z)), h2, fun pos cv hc => ?_⟩
  obtain ⟨c, e, h4⟩ := h3 pos cv hc
  exact ⟨c, e, k _ _ h4 (ne_of h4 hp (by intro z; unfold CodeO at z; cases z))⟩
/-- a language stands at p -/
structure LangAt (C : Addr) (H : Hp) (p : Addr) (z : Str) (M : Nat) (δ : Nat → Str → Nat) (found live : List Nat) : Prop where
  ex : ∃ dx fs L rs Me Li, H p = some (.ins C dx fs) ∧ fs.lookup ("_signs" : Str) = some (.str z) ∧ fs.lookup ("_states" : Str) = some (.ref L) ∧ H L = some (.lst (rs.map V.ref)) ∧ rs.length = M ∧ RowsD H rs (sgL z) δ ∧
    fs.lookup ("_members" : Str) = some (.ref Me) ∧ H Me = some (.tup (found.map fun n => V.int (n : Nat))) ∧ fs.lookup ("_live" : Str) = some (.ref Li) ∧ H Li = some (.lst (live.map fun n => V.int (n : Nat))) ∧ ∀ f, f ∉ (["_signs", "_states", "_members", "_live"] : List Str) → fs.lookup f = none
/-- .. and all its parts are new, seen from H -/
structure LangNew (C : Addr) (H H' : Hp) (p : Addr) (z : Str) (M : Nat) (δ : Nat → Str → Nat) (found live : List Nat) : Prop where
  ex : ∃ dx fs L rs Me Li, (H' p = some (.ins C dx fs) ∧ fs.lookup ("_signs" : Str) = some (.str z) ∧ fs.lookup ("_states" : Str) = some (.ref L) ∧ H' L = some (.lst (rs.map V.ref)) ∧ rs.length = M ∧ RowsD H' rs (sgL z) δ ∧
    fs.lookup ("_members" : Str) = some (.ref Me) ∧ H' Me = some (.tup (found.map fun n => V.int (n : Nat))) ∧ fs.lookup ("_live" : Str) = some (.ref Li) ∧ H' Li = some (.lst (live.map fun n => V.int (n : Nat))) ∧ ∀ f, f ∉ (["_signs", "_states", "_members", "_live"] : List Str) → fs.lookup f = none) ∧
    H L = none ∧ (∀ r ∈ rs, H r = none) ∧ H Me = none ∧ H Li = none
theorem LangNew.at_ {C : Addr} {H H' : Hp} {p : Addr} {z : Str} {M : Nat} {δ : Nat → Str → Nat} {found live : List Nat} (N : LangNew C H H' p z M δ found live) : LangAt C H' p z M δ found live := by
  obtain ⟨dx, fs, L, rs, Me, Li, h, _⟩ := N.ex
  exact ⟨dx, fs, L, rs, Me, Li, h⟩
structure LgC (K : PySem.W.Frag) (C : Addr) : Prop where
  cl : Cls K C
  nG : NoAttr K C "_signs"
  nS : NoAttr K C "_states"
  nM : NoAttr K C "_members"
  nL : NoAttr K C "_live"
def spLInit (K : PySem.W.Frag) (C : Addr) (T : List (Addr × Str)) : Sp := fun vs H Q _ => ∃ (p dx : Addr) (kb km : Bool) (z : Str) (st ms : Addr) (rows : List Addr) (mem : List Nat) (δ : Nat → Str → Nat), vs = [.ref p, .str z, .ref st, .ref ms] ∧ H p = some (.ins C dx []) ∧ SgOk z ∧
  SqK K kb H st (rows.map V.ref) ∧ RowsAt H rows (sgL z) δ ∧ (∀ r ∈ rows, ∃ kvs, H r = some (.dK kvs) ∧ kvs.length = (sgL z).length) ∧ SqK K km H ms (mem.map fun n => V.int (n : Nat)) ∧ mem.Nodup ∧ (∀ n ∈ mem, n < rows.length) ∧ 0 < rows.length ∧ rows.length ≤ 40 ∧ Few (sgL z) δ mem rows.length 6 ∧ (∀ n, n < rows.length → ∀ c ∈ sgL z, δ n c < rows.length) ∧ Tabs T H ∧
  ∀ (H' : Hp) (M : Nat) (δ' : Nat → Str → Nat) (found live : List Nat), KeepN p H H' → (∀ b, H' b = none → H b = none) → Tabs T H' → LangNew C H H' p z M δ' found live → LeastOf (sgL z) δ mem rows.length M δ' found → (∀ n, n < M → (n ∈ live ↔ Leads (gOf (sgL z) δ') found n)) → Q .non H'
abbrev nLInit : List Str := ["self", "signs", "states", "member_states", "index", "state", "least", "found"]
section
variable {P : Program} {w : World} {K : PySem.W.Frag} {mg : Str → Option Value} {base : Heap}
theorem scLInit : FnScope nLInit ["self", "signs", "states", "member_states"] (defScope sLInit) := ⟨rfl, rfl, rfl, by decide +kernel, rfl, by decide +kernel, by decide +kernel⟩
theorem live_free : ∀ y ∈ scLive.names, y.2 = NameKind.free → (defScope sLInit).names.lookup y.1 = some .cell ∨ (defScope sLInit).names.lookup y.1 = some .free := by decide +kernel
theorem ok_linit {T : List (Addr × Str)} {f C fK fH fS fA fM fV : Addr} {fd fdK fdH fdS fdA fdM fdV : FuncData} (Fn : Fun K "__init__" "Language.__init__" sLInit f fd) (LM : Lams base mg T fd "Language.__init__.<locals>.<lambda>") (Tc : LgC K C)
    (aK : At K mg "_check_signs" fK fdK ["value"] []) (gK : FnOk P w K mg base CX0 3 fK fdK ["value"] spChkSg)
    (aH : At K mg "has_length" fH fdH ["value", "least", "most"] []) (gH : FnOk P w K mg base CX0 1 fH fdH ["value", "least", "most"] (spHasLenK K))
    (aS : At K mg "_is_language_state" fS fdS ["value", "signs", "many"] []) (gS : FnOk P w K mg base CX0 3 fS fdS ["value", "signs", "many"] spLangSt)
    (aA : At K mg "are_states" fA fdA ["value", "many"] []) (gA : FnOk P w K mg base CX0 3 fA fdA ["value", "many"] (spAreStatesK K))
    (aM : At K mg "least_machine" fM fdM ["signs", "states", "member_states", "limit"] []) (gM : FnOk P w K mg base CX0 5 fM fdM ["signs", "states", "member_states", "limit"] (spLeast P w K T))
    (aV : At K mg "leading_into" fV fdV ["goals", "many", "leads"] []) (gV : FnV P w K mg base CX0 2 fV fdV ["goals", "many", "leads"] (spLeading P w K mg 1 base))
    {u6 : Value} (c6 : Con K C "MAX_STATES" (.int 6) u6) {t40 : Tok} (z40 : mg "MAX_GIVEN_STATES" = some (.int 40 t40)) (zn : mg "len" = none) (ze : mg "enumerate" = none) (zt : mg "tuple" = none) (zl : mg "list" = none) :
    FnOk P w K mg base CX0 6 f fd ["self", "signs", "states", "member_states"] (spLInit K C T) := by
  obtain ⟨c, Tb, hcode, TB, hmT, hu⟩ := LM.ex
  refine Sl.Fun.okM Fn scLInit (fun vs H Q E h => ?_) (fun A0 outer s H vs Q E hr h => ?_)
  · obtain ⟨p, dx, kb, km, z, st, ms, rows, mem, δ, rfl, _⟩ := h
    rfl
  · obtain ⟨p, dx, kb, km, z, st, ms, rows, mem, δ, rfl, hp, sg, hst, hrows, hrl, hms, ndm, ltm, rpos, r6, few, δlt, hT, kk⟩ := h
    have hr3 := hr.mono (show 3 ≤ 5 by omega)
    have hr2 := hr.mono (show 2 ≤ 5 by omega)
    have hr1 := hr.mono (show 1 ≤ 5 by omega)
    refine ⟨_, pss_cons (ps_expr (pe_call gK hr3 (by rfl) aK.g aK.kp aK.b .nil pass0 (pa_cons (pv 1) pa_nil)))
      (pss_cons (ps_if (pt_not (pt_val (pe_call gH hr1 (by rfl) aH.g aH.kp aH.b .nil pass0 (pa_cons (pv 2) (pa_cons pe_int (pa_cons (pe_glob (v := .int 40) rfl z40 ⟨_, rfl⟩) pa_nil)))))) pss_dead pss_nil)
      (pss_cons (ps_for (passes_of rfl) rfl (pi_enumK (by rfl) ze (pa_cons (pv 2) pa_nil)) (pg_tup (by rfl) (pgs_cons (pg_name (i := 4) scLInit.nd rfl (.inl rfl)) (pgs_cons (pg_name (i := 5) scLInit.nd rfl (.inl rfl)) pgs_nil)))
        (pss_one (ps_if (pt_not (pt_val (pe_call gS hr3 (by rfl) aS.g aS.kp aS.b .nil pass0 (pa_cons (pv 5) (pa_cons (pv 1) (pa_cons (pe_callB call_len_seq (by rfl) zn PySem.boot_len (pa_cons (pv 2) pa_nil)) pa_nil)))))) pss_dead pss_nil)))
      (pss_cons (ps_if (pt_not (pt_val (pe_call gA hr3 (by rfl) aA.g aA.kp aA.b .nil pass0 (pa_cons (pv 3) (pa_cons (pe_callB call_len_seq (by rfl) zn PySem.boot_len (pa_cons (pv 2) pa_nil)) pa_nil))))) pss_dead pss_nil)
      (pss_cons (ps_asg (pe_call gM hr (by rfl) aM.g aM.kp aM.b .nil pass0 (pa_cons (pv 1) (pa_cons (pv 2) (pa_cons (pv 3) (pa_cons (pe_con (pv 0) rfl) pa_nil)))))
          (pg_tup (by rfl) (pgs_cons (pg_name (i := 6) scLInit.nd rfl (.inr rfl)) (pgs_cons (pg_name (i := 7) scLInit.nd rfl (.inl rfl)) pgs_nil))))
      (pss_cons (ps_fld (pv 0) (pv 1) rfl)
      (pss_cons (ps_fld (pv 0) (pe_var (i := 6) rfl (.inr (.inl rfl))) rfl)
      (pss_cons (ps_fld (pv 0) (pe_callTy call_tuple_of (by rfl) zt (by decide +kernel) (pa_cons (pv 7) pa_nil)) rfl)
      (pss_one (ps_fld (pv 0) (pe_callV (fr := ["least"]) (ws := fun σ => ([6] : List Nat).map (slotAt σ)) (E := fun _ _ _ => False) gV
          (fun pins σ H s I => cellsF_of I (Caps.made (scope := scLive) I.ok live_free (by decide +kernel) rfl) (fun _ => rfl) rfl rfl) hr2 (by rfl) aV.g aV.kp aV.b pass0
          (pa_cons (pv 7) (pa_cons (pe_callB call_len_seq (by rfl) zn PySem.boot_len (pa_cons (pe_var (i := 6) rfl (.inr (.inl rfl))) pa_nil)) (pa_cons (pe_lamV (T := T) TB hcode hmT hu rfl live_free) pa_nil)))) rfl))))))))), ?_⟩
    have zc : z.cps.size ≤ 4 := sg.le
    have lrw : (rows.map V.ref).length = rows.length := List.length_map ..
    have lmm : mem.length ≤ rows.length := nodup_len ndm ltm
    have hmi : ∀ {H' : Hp}, SqK K km H' ms (mem.map fun n => V.int (n : Nat)) → SqK K km H' ms ((mem.map fun n : Nat => (n : Int)).map V.int) := fun h => by
      rw [List.map_map]
      exact h
    refine ⟨_, rfl, z, rfl, sg, fun H1 x1 => ?_⟩
    refine ⟨_, rfl, kb, st, _, 1, 40, rfl, hst.ext x1, fun H2 x2 => ?_⟩
    rw [lrw, decide_eq_true (by omega), decide_eq_true (by omega)]
    refine ⟨true, rfl, iteF ?_⟩
    have x2 := x1.trans x2
    refine ⟨_, rfl, kb, st, _, rfl, hst.ext x2, ?_⟩
    refine for_it (walk_enumK (xs := rows.map V.ref)) (fun i σ H' => ∃ v4 v5, σ = [some (.ref p), some (.str z), some (.ref st), some (.ref ms), v4, v5, none, none] ∧ Ext H H') ⟨none, none, rfl, x2⟩ (fun i σ H' _ ⟨_, _, _, x⟩ => hst.ext x) ?_ ?_
    · rintro i x σ H3 H4 hi ⟨v4, v5, rfl, x3⟩ ⟨T1, x', y', rfl, nT, rfl, e1, e2⟩
      obtain ⟨r, hr, rfl⟩ := at_map e2
      cases e1
      have x4 := x3.trans (Ext.new nT (o := .tup [.int (i : Nat), .ref r]))
      obtain ⟨kvs, k1, k2⟩ := hrows i r hr
      obtain ⟨kvs', k1', k3⟩ := hrl r (List.mem_of_getElem? hr)
      rw [k1] at k1'
      obtain rfl : kvs = kvs' := by
        injection k1' with k1'
        injection k1'
      have iN := (List.getElem?_eq_some_iff.mp hr).1
      refine ⟨T1, _, rfl, SqT.of upd_same, rfl, _, _, rfl, _, _, rfl, rfl, ?_⟩
      refine ⟨_, rfl, _, rfl, _, rfl, st, _, rfl, (hst.ext x4).or, r, z, _, kvs, δ i, rfl, x4 _ _ k1, k3, by rw [sgL_len]; omega, fun c hc => ⟨k2 c hc, by rw [lrw]; exact δlt i iN c hc⟩, fun H5 x5 => ⟨true, rfl, iteF ⟨_, _, rfl, x4.trans x5⟩⟩⟩
    rintro σ H3 ⟨v4, v5, rfl, x3⟩
    refine ⟨_, rfl, _, rfl, st, _, rfl, (hst.ext x3).or, km, ms, mem.map (fun n : Nat => (n : Int)), _, rfl, hmi (hms.ext x3), by rw [List.length_map]; omega, nodup_map_int ndm, fun i hi => ?_, fun H4 x4 => ⟨true, rfl, iteF ?_⟩⟩
    · obtain ⟨n, hn, rfl⟩ := List.mem_map.mp hi
      have := ltm n hn
      rw [lrw]
      omega
    have x4 := x3.trans x4
    refine ⟨_, rfl, _, rfl, _, rfl, _, rfl, p, C, dx, [], _, _, rfl, x4 _ _ hp, Tc.cl, c6, rfl, kb, km, z, st, ms, 6, rows, mem, δ, rfl, hst.ext x4, hrows.ext x4, hms.ext x4, by omega, rpos, few, by omega, by omega, sg.nd, δlt, hT.ext x4, fun H5 t L F rs M δ' found xN nn5 T5 nt nL nF ht hL lrs hrn hrs hF LO ml => ?_⟩
    refine ⟨t, _, rfl, SqT.of ht, rfl, _, _, rfl, _, _, rfl, rfl, ?_⟩
    have x5 : ExtN H H5 := (ExtN.of x4).trans xN
    have hp5 := x5 _ _ hp (by intro ps q; cases q)
    have nn : ∀ b, H5 b = none → H b = none := fun b e => x4.free (nn5 b e)
    have fL : H L = none := x4.free nL
    have fr : ∀ r ∈ rs, H r = none := fun r h => x4.free (hrn r h)
    have K0 : ∀ f v, (putF f v ([] : List (Str × V))) = [(f, v)] := fun _ _ => rfl
    -- self._signs, self._states
    refine ⟨_, rfl, _, rfl, p, C, dx, [], rfl, hp5, Tc.cl, Tc.nG, by show 0 < 1000; decide, ?_⟩
    refine ⟨_, rfl, _, rfl, p, C, dx, _, rfl, upd_same, Tc.cl, Tc.nS, Nat.lt_of_le_of_lt (length_putF _ _ _) (by show 0 + 1 < 1000; decide), ?_⟩
    rw [upd_upd]
    have npF : p ≠ F := fun e => by
      rw [← e, x4 _ _ hp] at nF
      cases nF
    have npL : p ≠ L := fun e => by
      rw [← e, x4 _ _ hp] at nL
      cases nL
    have k6 : ∀ a o, H5 a = some o → a ≠ p → (upd H5 p (.ins C dx (putF "_states" (.ref L) (putF "_signs" (.str z) [])))) a = some o := fun a o e n => by
      rw [upd_ne n]
      exact e
    have hp6 : (upd H5 p (.ins C dx (putF "_states" (.ref L) (putF "_signs" (.str z) [])))) p = some (.ins C dx (putF "_states" (.ref L) (putF "_signs" (.str z) []))) := upd_same
    have hL6 := k6 _ _ hL npL.symm
    have hF6 := k6 _ _ hF npF.symm
    have hrs6 : RowsD (upd H5 p (.ins C dx (putF "_states" (.ref L) (putF "_signs" (.str z) [])))) rs (sgL z) δ' := fun i r e => k6 _ _ (hrs i r e) (ne_of (hrs i r e) hp5 (by intro z; cases z))
    have T6 : Tabs T (upd H5 p (.ins C dx (putF "_states" (.ref L) (putF "_signs" (.str z) [])))) := tabs_ins T5 hp5 k6
    have kn6 : KeepN p H (upd H5 p (.ins C dx (putF "_states" (.ref L) (putF "_signs" (.str z) [])))) := fun a o e n q => k6 _ _ (x5 _ _ e n) q
    have nn6 : ∀ b, (upd H5 p (.ins C dx (putF "_states" (.ref L) (putF "_signs" (.str z) [])))) b = none → H b = none := fun b e => by
      by_cases c : b = p
      · rw [c, hp6] at e
        cases e
      · rw [upd_ne c] at e
        exact nn b e
    generalize upd H5 p (.ins C dx (putF "_states" (.ref L) (putF "_signs" (.str z) []))) = H6 at hp6 hL6 hF6 hrs6 T6 kn6 nn6 ⊢
    -- self._members
    refine ⟨_, rfl, F, _, rfl, .inl ⟨SqL.of hF6, fun Me nMe => ?_⟩⟩
    have npMe : p ≠ Me := ne_of_none hp6 nMe
    have fMe : H Me = none := nn6 _ nMe
    have xMe := Ext.new nMe (o := .tup (found.map fun n => V.int (n : Nat)))
    have hMe : (upd H6 Me (.tup (found.map fun n => V.int (n : Nat)))) Me = some (.tup (found.map fun n => V.int (n : Nat))) := upd_same
    have hp7 := xMe _ _ hp6
    have hL7 := xMe _ _ hL6
    have hF7 := xMe _ _ hF6
    have hrs7 : RowsD (upd H6 Me (.tup (found.map fun n => V.int (n : Nat)))) rs (sgL z) δ' := fun i r e => xMe _ _ (hrs6 i r e)
    have T7 := T6.ext xMe
    have kn7 : KeepN p H (upd H6 Me (.tup (found.map fun n => V.int (n : Nat)))) := fun a o e n q => xMe _ _ (kn6 a o e n q)
    have nn7 : ∀ b, (upd H6 Me (.tup (found.map fun n => V.int (n : Nat)))) b = none → H b = none := fun b e => nn6 b (xMe.free e)
    generalize upd H6 Me (.tup (found.map fun n => V.int (n : Nat))) = H7 at hMe hp7 hL7 hF7 hrs7 T7 kn7 nn7 ⊢
    clear hp6 hL6 hF6 hrs6 T6 kn6 nn6 xMe nMe hp5 xN x5 nn hL hF hrs nn5 T5 ht
    refine ⟨_, rfl, p, C, dx, _, rfl, hp7, Tc.cl, Tc.nM, Nat.lt_of_le_of_lt (length_putF _ _ _) (Nat.lt_of_le_of_lt (Nat.succ_le_succ (length_putF _ _ _)) (by show 0 + 1 + 1 < 1000; decide)), ?_⟩
    have k8 : ∀ a o, H7 a = some o → a ≠ p → (upd H7 p (.ins C dx (putF "_members" (.ref Me) (putF "_states" (.ref L) (putF "_signs" (.str z) []))))) a = some o := fun a o e n => by
      rw [upd_ne n]
      exact e
    have hp8 : (upd H7 p (.ins C dx (putF "_members" (.ref Me) (putF "_states" (.ref L) (putF "_signs" (.str z) []))))) p = some (.ins C dx (putF "_members" (.ref Me) (putF "_states" (.ref L) (putF "_signs" (.str z) [])))) := upd_same
    have hL8 := k8 _ _ hL7 npL.symm
    have hF8 := k8 _ _ hF7 npF.symm
    have hMe8 := k8 _ _ hMe npMe.symm
    have hrs8 : RowsD (upd H7 p (.ins C dx (putF "_members" (.ref Me) (putF "_states" (.ref L) (putF "_signs" (.str z) []))))) rs (sgL z) δ' := fun i r e => k8 _ _ (hrs7 i r e) (ne_of (hrs7 i r e) hp7 (by intro z; cases z))
    have T8 : Tabs T (upd H7 p (.ins C dx (putF "_members" (.ref Me) (putF "_states" (.ref L) (putF "_signs" (.str z) []))))) := tabs_ins T7 hp7 k8
    have kn8 : KeepN p H (upd H7 p (.ins C dx (putF "_members" (.ref Me) (putF "_states" (.ref L) (putF "_signs" (.str z) []))))) := fun a o e n q => k8 _ _ (kn7 a o e n q) q
    have nn8 : ∀ b, (upd H7 p (.ins C dx (putF "_members" (.ref Me) (putF "_states" (.ref L) (putF "_signs" (.str z) []))))) b = none → H b = none := fun b e => by
      by_cases c : b = p
      · rw [c, hp8] at e
        cases e
      · rw [upd_ne c] at e
        exact nn7 b e
    generalize upd H7 p (.ins C dx (putF "_members" (.ref Me) (putF "_states" (.ref L) (putF "_signs" (.str z) [])))) = H8 at hp8 hL8 hF8 hMe8 hrs8 T8 kn8 nn8 ⊢
    clear hp7 hL7 hF7 hMe hrs7 T7 kn7 nn7 k8
    -- self._live
    have Mr : rs.length ≤ 6 := by omega
    refine ⟨_, rfl, _, rfl, L, _, rfl, .inl (SqL.of hL8), T8, fun f2 c2 H9 x9 nn9 T9 nf2 hf2 hc2 => ?_⟩
    have xl : ∀ a o, H8 a = some o → (∀ ps, o ≠ .tbl ps) → H9 a = some o := fun a o e n => x9 _ _ e n
    have hF9 := xl _ _ hF8 (by intro ps q; cases q)
    refine ⟨true, F, f2, found, _, rs.length, LeAt L rs (sgL z) δ', gOf (sgL z) δ', ?_, SqK.l hF9, LO.nd, fun x hx => by rw [lrs]; exact LO.fl x hx, by omega, hf2, hc2, rfl, fun b _ _ => lead_live zl, LeAt.extN x9 ⟨hL8, hrs8⟩, leGr (by omega) (by rw [sgL_len]; omega) (fun n hn c hc => by rw [lrs] at hn ⊢; exact LO.lt n hn c hc), fun ys H10 q x10 nq pm hq => ?_⟩
    · rw [List.length_map]
    have xa : ExtN H8 H10 := x9.trans (ExtN.of x10)
    have fq : H q = none := nn8 _ (nn9 _ nq)
    have hp10 := xa _ _ hp8 (by intro ps q; cases q)
    have nqp : q ≠ p := fun e => by
      rw [e, xl _ _ hp8 (by intro ps q; cases q)] at nq
      cases nq
    have k11 : ∀ a o, H10 a = some o → a ≠ p → (upd H10 p (.ins C dx (putF "_live" (.ref q) (putF "_members" (.ref Me) (putF "_states" (.ref L) (putF "_signs" (.str z) [])))))) a = some o := fun a o e n => by
      rw [upd_ne n]
      exact e
    refine ⟨_, rfl, p, C, dx, _, rfl, hp10, Tc.cl, Tc.nL, Nat.lt_of_le_of_lt (length_putF _ _ _) (Nat.lt_of_le_of_lt (Nat.succ_le_succ (length_putF _ _ _)) (Nat.lt_of_le_of_lt (Nat.succ_le_succ (Nat.succ_le_succ (length_putF _ _ _))) (by show 0 + 1 + 1 + 1 < 1000; decide))), ?_⟩
    have fu : ∀ f : Str, (putF "_live" (V.ref q) (putF "_members" (V.ref Me) (putF "_states" (V.ref L) (putF "_signs" (V.str z) [])))).lookup f = if f = "_live" then some (V.ref q) else if f = "_members" then some (V.ref Me) else if f = "_states" then some (V.ref L) else if f = "_signs" then some (V.str z) else none := fun f => by
      rw [lookup_putF, lookup_putF, lookup_putF, lookup_putF]
      rfl
    have tn : ∀ {o : HO}, (∀ ps, o ≠ .tbl ps) → ∀ a, H8 a = some o → a ≠ p → (upd H10 p (.ins C dx (putF "_live" (.ref q) (putF "_members" (.ref Me) (putF "_states" (.ref L) (putF "_signs" (.str z) [])))))) a = some o := fun n a e np => k11 _ _ (xa _ _ e n) np
    refine kk _ M δ' found ys (fun a o e n np => tn n a (kn8 a o e n np) np) (fun b e => ?_) (tabs_ins ((T9.ext x10)) hp10 k11) ⟨dx, _, L, rs, Me, q, ⟨upd_same, by rw [fu]; rfl, by rw [fu]; rfl, tn (by intro ps q; cases q) _ hL8 npL.symm, lrs, fun i r e => tn (by intro ps q; cases q) _ (hrs8 i r e) (ne_of (hrs8 i r e) hp8 (by intro z; cases z)), by rw [fu]; rfl, tn (by intro ps q; cases q) _ hMe8 npMe.symm, by rw [fu]; rfl, k11 _ _ hq nqp, fun f hf => ?_⟩, fL, fr, fMe, fq⟩ LO fun n hn => ?_
    · by_cases c : b = p
      · rw [c, upd_same] at e
        cases e
      · rw [upd_ne c] at e
        exact nn8 b (nn9 b (x10.free e))
    · rw [fu]
      simp only [List.mem_cons, List.not_mem_nil, or_false, not_or] at hf
      obtain ⟨a1, a2, a3, a4⟩ := hf
      rw [if_neg a4, if_neg a3, if_neg a2, if_neg a1]
    · have LOlt : ∀ n, n < rs.length → ∀ e ∈ gOf (sgL z) δ' n, e.2 < rs.length := fun n hn e he => by
        obtain ⟨c, hc, rfl⟩ := List.mem_map.mp he
        rw [lrs] at hn ⊢
        exact LO.lt n hn c hc
      rw [pm.mem_iff, closeL_iff LO.nd (fun x hx => by rw [lrs]; exact LO.fl x hx) (by rw [lrs]; exact hn) LOlt]
end
end Sl
/-! ## V16 -/
set_option Elab.async false
set_option linter.all false
set_option maxRecDepth 100000
set_option maxHeartbeats 4000000
set_option pp.maxSteps 1500
set_option pp.deepTerms false
/-! what a language tells: its signs, whether it is empty, what is in it -/
namespace Sl
open PySem PySem.Spec PyProof.Rows L2
abbrev sSigns : Stmt := inClass (top 37) 4
abbrev sEmpty : Stmt := inClass (top 37) 5
abbrev sHasL : Stmt := inClass (top 37) 10
theorem inV_nat (n : Nat) : ∀ l : List Nat, inV (.int n) (l.map fun n => V.int (n : Nat)) = decide (n ∈ l)
  | [] => rfl
  | a :: l => by
    have ih := inV_nat n l
    unfold inV at ih ⊢
    rw [List.map_cons, List.any_cons, ih]
    by_cases c : n = a
    · subst c
      have : eqV (.int (n : Nat)) (.int (n : Nat)) = true := by simp [eqV]
      rw [this]
      simp
    · have : eqV (.int (a : Nat)) (.int (n : Nat)) = false := by
        simp [eqV]
        omega
      rw [this]
      simp [c]
theorem flat_nats (l : List Nat) : (l.map fun n => V.int (n : Nat)).all flatV = true := by
  rw [List.all_map]
  exact List.all_eq_true.mpr fun _ _ => rfl
def spSigns (C : Addr) : Sp := fun vs H Q _ => ∃ (p : Addr) (z : Str) (M : Nat) (δ : Nat → Str → Nat) (found live : List Nat), vs = [.ref p] ∧ LangAt C H p z M δ found live ∧ Q (.str z) H
def spEmpty (C : Addr) : Sp := fun vs H Q _ => ∃ (p : Addr) (z : Str) (M : Nat) (δ : Nat → Str → Nat) (found live : List Nat), vs = [.ref p] ∧ LangAt C H p z M δ found live ∧ Q (.bl (!decide (0 ∈ live))) H
def spHasL (K : PySem.W.Frag) (C : Addr) : Sp := fun vs H Q _ => ∃ (p : Addr) (x : V) (z : Str) (M : Nat) (δ : Nat → Str → Nat) (found live : List Nat), vs = [.ref p, x] ∧ LangAt C H p z M δ found live ∧ 0 < M ∧ (∀ b, b < M → ∀ c ∈ sgL z, δ b c < M) ∧
  ((∃ y : Str, x = .str y ∧ y.length ≤ 1000 ∧ ∀ H', Ext H H' → Q (.bl (wordOf z y && decide (run δ 0 (sgL y) ∈ found))) H') ∨ (∃ k : Kd, Is K H x k ∧ k ≠ .str ∧ Q (.bl false) H))
theorem word_mem {z y : Str} (h : wordOf z y = true) {i c : Nat} (hc : y.cps[i]? = some c) : (⟨#[c]⟩ : Str) ∈ sgL z := by
  unfold wordOf at h
  rw [Bool.and_eq_true] at h
  have := List.all_eq_true.mp h.2 c (by
    have : y.cps.toList[i]? = some c := by rw [Array.getElem?_toList]; exact hc
    exact List.mem_of_getElem? this)
  unfold sgL
  exact List.mem_map.mpr ⟨c, of_decide_eq_true this, rfl⟩
theorem row_val {d : Str → Nat} {c : Str} : ∀ {sg : List Str}, c ∈ sg → valV (rowD sg d) (keyC c) = some (.int (d c : Nat))
  | [], h => nomatch h
  | a :: sg, h => by
    show valV ((keyC a, V.int (d a : Nat)) :: rowD sg d) (keyC c) = _
    by_cases e : a = c
    · subst e
      rw [valV_pos rfl]
    · rw [valV_neg (fun z => e (by unfold keyC at z; injection z))]
      exact row_val ((List.mem_cons.mp h).resolve_left fun z => e z.symm)
section
variable {P : Program} {w : World} {K : PySem.W.Frag} {mg : Str → Option Value} {base : Heap}
theorem scSigns : FnScope ["self"] ["self"] (defScope sSigns) := ⟨rfl, rfl, rfl, by decide +kernel, rfl, by decide +kernel, by decide +kernel⟩
theorem ok_signs {f C : Addr} {fd : FuncData} (F : Fun K "signs" "Language.signs" sSigns f fd) (T : LgC K C) : FnOk P w K mg base CX0 1 f fd ["self"] (spSigns C) := by
  refine F.ok scSigns (fun vs H Q E h => ?_) (fun cdv A0 outer s H vs Q E hr h => ?_)
  · obtain ⟨p, z, M, δ, found, live, rfl, _⟩ := h
    rfl
  · obtain ⟨p, z, M, δ, found, live, rfl, LA, k⟩ := h
    obtain ⟨dx, fs, L, rs, Me, Li, hp, h1, _⟩ := LA.ex
    refine ⟨_, pss_one (ps_ret (pe_fld (pv 0) rfl)), ?_⟩
    exact ⟨_, rfl, p, C, dx, _, _, rfl, hp, T.cl, T.nG, h1, k⟩
theorem scEmpty : FnScope ["self"] ["self"] (defScope sEmpty) := ⟨rfl, rfl, rfl, by decide +kernel, rfl, by decide +kernel, by decide +kernel⟩
theorem ok_empty {f C : Addr} {fd : FuncData} (F : Fun K "is_empty" "Language.is_empty" sEmpty f fd) (T : LgC K C) : FnOk P w K mg base CX0 1 f fd ["self"] (spEmpty C) := by
  refine F.ok scEmpty (fun vs H Q E h => ?_) (fun cdv A0 outer s H vs Q E hr h => ?_)
  · obtain ⟨p, z, M, δ, found, live, rfl, _⟩ := h
    rfl
  · obtain ⟨p, z, M, δ, found, live, rfl, LA, k⟩ := h
    obtain ⟨dx, fs, L, rs, Me, Li, hp, _, _, _, _, _, _, _, h1, h2, _⟩ := LA.ex
    refine ⟨_, pss_one (ps_ret (pe_cmpR op_notIn_seq pe_int (pe_fld (pv 0) rfl) (by rfl))), ?_⟩
    refine ⟨_, rfl, p, C, dx, _, _, rfl, hp, T.cl, T.nL, h1, Li, _, rfl, .inl (SqL.of h2), rfl, flat_nats _, ?_⟩
    have e := inV_nat 0 live
    rw [if_pos rfl]
    show Q (.bl (!inV (.int 0) _)) H
    rw [show (V.int 0) = V.int ((0 : Nat) : Int) from rfl, e]
    exact k
theorem scHasL : FnScope ["self", "value", "state", "sign"] ["self", "value"] (defScope sHasL) := ⟨rfl, rfl, rfl, by decide +kernel, rfl, by decide +kernel, by decide +kernel⟩
theorem ok_hasL {f C fW : Addr} {fd fdW : FuncData} (F : Fun K "__contains__" "Language.__contains__" sHasL f fd) (T : LgC K C) (aW : At K mg "is_word_of" fW fdW ["value", "signs"] []) (gW : FnOk P w K mg base CX0 2 fW fdW ["value", "signs"] (spWordOf K)) : FnOk P w K mg base CX0 3 f fd ["self", "value"] (spHasL K C) := by
  refine F.ok scHasL (fun vs H Q E h => ?_) (fun cdv A0 outer s H vs Q E hr h => ?_)
  · obtain ⟨p, x, z, M, δ, found, live, rfl, _⟩ := h
    rfl
  · obtain ⟨p, x, z, M, δ, found, live, rfl, LA, M0, lt, h⟩ := h
    obtain ⟨dx, fs, L, rs, Me, Li, hp, f1, f2, hL, lrs, hrs, f3, hMe, _⟩ := LA.ex
    have hu := hu_of hr
    refine ⟨_, pss_cons (ps_if (pt_not (pt_val (pe_call gW hr (by rfl) aW.g aW.kp aW.b .nil pass0 (pa_cons (pv 1) (pa_cons (pe_fld (pv 0) rfl) pa_nil))))) (pss_one (ps_ret pe_bl)) pss_nil)
      (pss_cons (ps_set (i := 2) scHasL.nd rfl (.inl rfl) pe_int)
      (pss_cons (ps_for PassesOwn.never rfl (pi_str (pv 1)) (pg_name (i := 3) scHasL.nd rfl (.inl rfl))
        (pss_one (ps_set (i := 2) scHasL.nd rfl (.inl rfl) (pe_dget hu (pe_ix ix_list (pe_fld (pv 0) rfl) (pv 2) (fun _ _ => rfl)) (pv 3) (fun _ _ => rfl)))))
      (pss_one (ps_ret (pe_cmpR op_in_seq (pv 2) (pe_fld (pv 0) rfl) (by rfl)))))), ?_⟩
    rcases h with ⟨y, rfl, hy, q⟩ | ⟨k, hk, ns, q⟩
    · refine ⟨_, rfl, _, rfl, p, C, dx, _, _, rfl, hp, T.cl, T.nG, f1, _, z, rfl, .inl ⟨y, rfl, hy, fun H1 x1 => ⟨_, rfl, ?_⟩⟩⟩
      have hw : ∀ i c, wordOf z y = true → y.cps[i]? = some c → (⟨#[c]⟩ : Str) ∈ sgL z := fun i c h hc => word_mem h hc
      generalize wordOf z y = bw at q hw ⊢
      cases bw with
      | false => exact q _ x1
      | true =>
        refine iteF ?_
        refine ⟨_, rfl, y, rfl, ?_⟩
        refine for_it (walk_str (z := y)) (fun i σ H' => ∃ v3, σ = [some (.ref p), some (.str y), some (.int (run δ 0 ((sgL y).take i) : Nat)), v3] ∧ H' = H1 ∧ run δ 0 ((sgL y).take i) < M) ⟨none, rfl, rfl, M0⟩ (fun _ _ _ _ _ => trivial) ?_ ?_
        · rintro i v σ H2 H3 hi ⟨v3, rfl, rfl, lM⟩ ⟨rfl, c, hc, rfl⟩
          have cm := hw i c rfl hc
          obtain ⟨r, hr⟩ : ∃ r, rs[run δ 0 ((sgL y).take i)]? = some r := ⟨_, List.getElem?_eq_getElem (by rw [lrs]; exact lM)⟩
          have hrow := x1 _ _ (hrs _ r hr)
          have g : DGet H3 r (.str ⟨#[c]⟩) (some (.int (δ (run δ 0 ((sgL y).take i)) ⟨#[c]⟩ : Nat))) := by
            have e : valV (rowD (sgL z) (δ (run δ 0 ((sgL y).take i)))) (keyC ⟨#[c]⟩) = some (.int (δ (run δ 0 ((sgL y).take i)) ⟨#[c]⟩ : Nat)) := row_val cm
            rw [← e]
            exact DGet.k (k := keyC ⟨#[c]⟩) hrow
          have er : run δ 0 ((sgL y).take (i + 1)) = δ (run δ 0 ((sgL y).take i)) ⟨#[c]⟩ := by
            rw [take_more (sgL_at hc)]
            unfold run
            rw [List.foldl_append]
            rfl
          refine ⟨_, rfl, p, C, dx, _, _, rfl, x1 _ _ hp, T.cl, T.nS, f2, _, rfl, L, _, _, _, rfl, rfl, SqL.of (x1 _ _ hL), atI_nat (by rw [List.getElem?_map, hr]; rfl), _, rfl, r, _, rfl, g, ?_⟩
          rw [← er]
          refine ⟨_, rfl, rfl, ?_⟩
          rw [er]
          exact lt _ lM _ cm
        · rintro σ H2 ⟨v3, rfl, rfl, lM⟩
          rw [← sgL_len, List.take_length]
          refine ⟨_, rfl, _, rfl, p, C, dx, _, _, rfl, x1 _ _ hp, T.cl, T.nM, f3, Me, _, rfl, .inr (SqT.of (x1 _ _ hMe)), rfl, flat_nats _, ?_⟩
          rw [if_neg Bool.false_ne_true, inV_nat]
          rw [Bool.true_and] at q
          exact q _ x1
    · refine ⟨_, rfl, _, rfl, p, C, dx, _, _, rfl, hp, T.cl, T.nG, f1, _, z, rfl, .inr ⟨k, hk, ns, _, rfl, ?_⟩⟩
      exact q
end
end Sl
/-! ## V17 -/
set_option Elab.async false
set_option linter.all false
set_option maxRecDepth 100000
set_option maxHeartbeats 4000000
set_option pp.maxSteps 1500
set_option pp.deepTerms false
/-! _law_abc: drawn signs -/
namespace Sl
open PySem PySem.Spec PyProof.Rows L2 TxS
open PySem.W TL in
theorem sgL_join : ∀ {ys : List Str}, (∀ z ∈ ys, ∃ c, z = ⟨#[c]⟩) → sgL (Txt.join "" ys) = ys := fun {ys} h => by
  have e : ∀ l : List (List Nat), joinL [] l = l.flatten := by
    intro l
    induction l with
    | nil => rfl
    | cons x l ih =>
      cases l with
      | nil => simp [joinL]
      | cons y r =>
        show x ++ ([] ++ joinL [] (y :: r)) = _
        rw [List.nil_append, ih]
        rfl
  have k : tl (Str.join ("" : Str) ys) = joinL (tl ("" : Str)) (ys.map tl) := tl_join "" ys
  have z : tl ("" : Str) = [] := rfl
  rw [join_eq]
  have k2 : (Str.join ("" : Str) ys).cps.toList = (ys.map tl).flatten := by
    have k : (Str.join ("" : Str) ys).cps.toList = joinL (tl ("" : Str)) (ys.map tl) := k
    rw [k, z, e]
  unfold sgL
  rw [k2]
  clear k k2
  induction ys with
  | nil => rfl
  | cons a ys ih =>
    obtain ⟨c, rfl⟩ := h a List.mem_cons_self
    rw [List.map_cons, List.flatten_cons, List.map_append, ih fun z hz => h z (List.mem_cons_of_mem _ hz)]
    rfl
theorem abc_sign {z : Str} (h : z ∈ abcL) : ∃ c, z = ⟨#[c]⟩ ∧ lowC c = true := by
  unfold abcL signsOf at h
  obtain ⟨c, hc, rfl⟩ := List.mem_map.mp h
  refine ⟨c, rfl, ?_⟩
  have : abc.cps.toList.all lowC = true := by decide +kernel
  exact List.all_eq_true.mp this c hc
theorem sg_of {ys : List Str} (h1 : 1 ≤ ys.length) (h4 : ys.length ≤ 4) (hs : sortedS ys = true) (nd : ys.Nodup) (ha : ∀ z ∈ ys, z ∈ abcL) : SgOk (Txt.join "" ys) ∧ sgL (Txt.join "" ys) = ys := by
  have e := sgL_join (ys := ys) fun z hz => let ⟨c, e, _⟩ := abc_sign (ha z hz); ⟨c, e⟩
  have l : (Txt.join "" ys).length = ys.length := by
    rw [← e, sgL_len]
    rw [e]
    rfl
  refine ⟨⟨?_, by omega, by omega, by rw [e]; exact hs, by rw [e]; exact nd⟩, e⟩
  unfold isWordS
  refine List.all_eq_true.mpr fun c hc => ?_
  have : (⟨#[c]⟩ : Str) ∈ sgL (Txt.join "" ys) := by
    unfold sgL
    exact List.mem_map.mpr ⟨c, hc, rfl⟩
  rw [e] at this
  obtain ⟨c', e', h'⟩ := abc_sign (ha _ this)
  injection e' with e'
  have : c = c' := by simpa using e'
  rw [this]
  exact h'
theorem sum_one : ∀ {ys : List Str}, (∀ z ∈ ys, z.length = 1) → (ys.map fun x => x.length).sum = ys.length
  | [], _ => rfl
  | y :: ys, h => by
    rw [List.map_cons, List.sum_cons, sum_one fun z hz => h z (List.mem_cons_of_mem _ hz), h y List.mem_cons_self, List.length_cons]
    omega
def spAbc : Sp := fun vs H Q _ => ∃ a : Addr, vs = [.ref a] ∧ Rng H a ∧ ∀ (H' : Hp) (z : Str), Rng H' a → Keep a H H' → SgOk z → (∀ c ∈ sgL z, c ∈ abcL) → Q (.str z) H'
end Sl
/-! ## V18 -/
set_option Elab.async false
set_option linter.all false
set_option maxRecDepth 100000
set_option maxHeartbeats 4000000
set_option pp.maxSteps 1500
set_option pp.deepTerms false
/-! _law_class: a drawn machine -/
namespace Sl
open PySem PySem.Spec PyProof.Rows L2 TxS
abbrev sClass : Stmt := top 48
abbrev scRow37 : Scope := lamSc (asgVal (nth (defBody sClass) 2)) (defScope sClass)
def rDictPr (K : PySem.W.Frag) : List V → Hp → VK → Prop := fun xs H Q => ∃ (a : Addr) (ps : List Addr) (kvs : List (Key × V)), xs = [.ref a] ∧ SqL K H a (ps.map V.ref) ∧ Paired (fun p kv => SqT K H p [kV kv.1, kv.2]) ps kvs ∧ ∀ p, H p = none → Q (.ref p) (upd H p (.dK (mergeK [] kvs)))
theorem cr_dictPr {X : Cx} (hc : X.calm = true) : CallR X (.type "dict") (rDictPr X.K) := call_dictP hc
/-- the law's machine at t -/
structure MacAt (H : Hp) (t : Addr) (z : Str) (R E : Addr) (rs : List Addr) (δ : Nat → Str → Nat) (mem : List Nat) : Prop where
  t : H t = some (.tup [.str z, .ref R, .ref E])
  r : H R = some (.lst (rs.map V.ref))
  rows : RowsD H rs (sgL z) δ
  e : H E = some (.lst (mem.map fun n => V.int (n : Nat)))
structure MacOk (sg : List Str) (N : Nat) (δ : Nat → Str → Nat) (mem : List Nat) (cap : Nat) : Prop where
  pos : 0 < N
  le : N ≤ cap
  lt : ∀ n, n < N → ∀ c ∈ sg, δ n c < N
  nd : mem.Nodup
  ml : ∀ n ∈ mem, n < N
def spClass : Sp := fun vs H Q _ => ∃ (a : Addr) (cap : Nat) (z : Str), vs = [.ref a, .int cap, .str z] ∧ Rng H a ∧ 0 < cap ∧ cap ≤ 100 ∧ (sgL z).Nodup ∧ (sgL z).length ≤ 100 ∧
  ∀ (H' : Hp) (t R E : Addr) (rs : List Addr) (δ : Nat → Str → Nat) (mem : List Nat), Rng H' a → Keep a H H' → H R = none → H E = none → H t = none → MacAt H' t z R E rs δ mem → MacOk (sgL z) rs.length δ mem cap → Q (.ref t) H'
theorem merge_row {d : Str → Nat} : ∀ {sg : List Str} {sg0 : List Str}, (sg0 ++ sg).Nodup → mergeK (rowD sg0 d) (rowD sg d) = rowD (sg0 ++ sg) d
  | [], sg0, _ => by rw [List.append_nil]; rfl
  | c :: sg, sg0, nd => by
    have nc : valV (rowD sg0 d) (keyC c) = none := by
      cases e : valV (rowD sg0 d) (keyC c) with
      | none => rfl
      | some v =>
        exfalso
        obtain ⟨kv, hm, hk⟩ := List.mem_map.mp (valV_in e)
        obtain ⟨c2, hm2, rfl⟩ := List.mem_map.mp hm
        have hk : keyC c2 = keyC c := hk
        unfold keyC at hk
        injection hk with hk
        exact (List.nodup_append.mp nd).2.2 c2 hm2 c (by simp) hk
    have e : mergeK (rowD sg0 d) (rowD (c :: sg) d) = mergeK (putK (rowD sg0 d) (keyC c) (.int (d c : Nat))) (rowD sg d) := rfl
    have e2 : rowD sg0 d ++ [(keyC c, V.int (d c : Nat))] = rowD (sg0 ++ [c]) d := by
      unfold rowD
      rw [List.map_append]
      rfl
    rw [e, putK_new _ nc, e2, merge_row (by rw [List.append_assoc]; exact nd), List.append_assoc]
    rfl
theorem merge_row0 {d : Str → Nat} {sg : List Str} (nd : sg.Nodup) : mergeK [] (rowD sg d) = rowD sg d := merge_row (sg0 := []) nd
theorem row_same {d e : Str → Nat} {sg : List Str} (h : ∀ c ∈ sg, d c = e c) : rowD sg d = rowD sg e := List.map_congr_left fun c hc => by rw [h c hc]
abbrev nClass : List Str := ["_law_rng_here", "_law_cap", "_law_abc", "_law_many", "_law_rows", "_law_letter", "_law_spot_here"]
section
variable {P : Program} {w : World} {K : PySem.W.Frag} {mg : Str → Option Value} {base : Heap}
theorem scClass : FnScope nClass ["_law_rng_here", "_law_cap", "_law_abc"] (defScope sClass) := ⟨rfl, rfl, rfl, by decide +kernel, rfl, by decide +kernel, by decide +kernel⟩
theorem ok_class {f fD : Addr} {fd fdD : FuncData} (F : Fun K "_law_class" "_law_class" sClass f fd) (aD : At K mg "_law_draw" fD fdD ["_law_rng_here", "_law_many"] []) (gD : FnOk P w K mg base CX0 1 fD fdD ["_law_rng_here", "_law_many"] spDraw)
    (zd : mg "dict" = none) (zr : mg "range" = none) : FnOk P w K mg base CX0 2 f fd ["_law_rng_here", "_law_cap", "_law_abc"] spClass := by
  refine F.ok scClass (fun vs H Q E h => ?_) (fun cdv A0 outer s H vs Q E hr h => ?_)
  · obtain ⟨a, cap, z, rfl, _⟩ := h
    rfl
  · obtain ⟨a, cap, z, rfl, hR, c0, c100, ndg, lg, k⟩ := h
    refine ⟨_, pss_cons (ps_if (pt_cmpR op_eq (pe_call gD hr (by rfl) aD.g aD.kp aD.b .nil pass0 (pa_cons (pe_var (i := 0) rfl (.inr (.inl rfl))) (pa_cons pe_int pa_nil))) pe_int (nomark _))
        (pss_one (ps_ret (pe_tup (pa_cons (pe_var (i := 2) rfl (.inr (.inl rfl))) (pa_cons (pe_lst (pa_cons (pe_callTy (T := "dict") (r := rDictPr K) (cr_dictPr rfl) (by rfl) zd (by decide +kernel) (pa_cons
          (pe_lc (own := [("_law_letter", 5)]) (g := gName 5) (tt := tYes) (te := tTup (tCons (tVar 5) (tCons (tC (.int 0)) tNil))) rfl scClass.nd (pi_str (pe_var (i := 2) rfl (.inr (.inl rfl)))) (blkOk_by (N := nClass) (sc := defScope sClass) (by decide +kernel))
            (fun _ _ _ _ _ => pg_name (i := 5) scClass.nd rfl (Or.inl rfl)) (fun _ _ _ _ _ => pts_nil) (fun _ _ _ _ _ => pe_tup (pa_cons (pv 5) (pa_cons pe_int pa_nil)))) pa_nil)) pa_nil)) (pa_cons (pe_lst (pa_cons pe_int pa_nil)) pa_nil)))))) pss_nil)
      (pss_cons (ps_set (i := 3) scClass.nd rfl (.inr rfl) (pe_op op_add pe_int (pe_call gD hr (by rfl) aD.g aD.kp aD.b .nil pass0 (pa_cons (pe_var (i := 0) rfl (.inr (.inl rfl))) (pa_cons (pv 1) pa_nil)))))
      (pss_cons (ps_setLc (i := 4) (own := [("_law_spot_here", 6)]) (g := gName 6) (tt := tYes) (te := tCB (rDictPr K) (tCons (tLc (iStr (tVar 2)) (gName 5) tYes (tTup (tCons (tVar 5) (tCons (tCall spDraw [] (fun _ _ _ => False) (tCons (tVar 0) (tCons (tVar 3) tNil))) tNil))) [5]) tNil)) rfl scClass.nd rfl rfl (sw_true rfl rfl rfl (by decide +kernel)) (pi_range1 rfl zr (pa_cons (pe_var (i := 3) rfl (.inr (.inl rfl))) pa_nil)) (blkOk_by (N := nClass) (sc := defScope sClass) (by decide +kernel))
          (fun _ _ _ _ _ => pg_name (i := 6) scClass.nd rfl (Or.inl rfl)) (fun _ _ _ _ _ => pts_nil)
          (fun _ _ _ _ _ => pe_callTy (T := "dict") (r := rDictPr K) (cr_dictPr rfl) (by rfl) zd (by decide +kernel) (pa_cons
            (pe_lc (own := [("_law_letter", 5)]) (g := gName 5) (tt := tYes) rfl scClass.nd (pi_str (pe_var (i := 2) rfl (.inr (.inl rfl)))) (blkOk_by (N := nClass) (sc := relS scRow37 (defScope sClass)) (by decide +kernel))
              (fun _ _ _ _ _ => pg_name (i := 5) scClass.nd rfl (Or.inl rfl)) (fun _ _ _ _ _ => pts_nil)
              (fun _ _ _ _ _ => pe_tup (pa_cons (pv 5) (pa_cons (pe_call gD hr (by rfl) aD.g aD.kp aD.b .nil pass0 (pa_cons (pe_var (i := 0) rfl (.inr (.inl rfl))) (pa_cons (pe_var (i := 3) rfl (.inr (.inl rfl))) pa_nil))) pa_nil)))) pa_nil)))
      (pss_one (ps_ret (pe_tup (pa_cons (pe_var (i := 2) rfl (.inr (.inl rfl))) (pa_cons (pv 4) (pa_cons (pe_lc (own := [("_law_spot_here", 6)]) (g := gName 6) (tt := tTest (tOp rEq (tCall spDraw [] (fun _ _ _ => False) (tCons (tVar 0) (tCons (tC (.int 2)) tNil))) (tC (.int 0)))) (te := tVar 6) rfl scClass.nd (pi_range1 rfl zr (pa_cons (pe_var (i := 3) rfl (.inr (.inl rfl))) pa_nil)) (blkOk_by (N := nClass) (sc := defScope sClass) (by decide +kernel))
          (fun _ _ _ _ _ => pg_name (i := 6) scClass.nd rfl (Or.inl rfl)) (fun _ _ _ _ _ => pts_one (pt_cmpR op_eq (pe_call gD hr (by rfl) aD.g aD.kp aD.b .nil pass0 (pa_cons (pe_var (i := 0) rfl (.inr (.inl rfl))) (pa_cons pe_int pa_nil))) pe_int (nomark _))) (fun _ _ _ _ _ => pv 6)) pa_nil)))))))), ?_⟩
    refine ⟨_, rfl, a, 3, rfl, hR, by decide, by decide, fun d H1 d0 d3 hR1 kp1 => ?_⟩
    have sz1 : (1 : Nat) ≤ sizeLine := by decide
    have sz2 : (2 : Nat) ≤ sizeLine := by decide
    have sz3 : (3 : Nat) ≤ sizeLine := by decide
    have zl : z.cps.size = (sgL z).length := (sgL_len z).symm
    refine ⟨rfl, _, rfl, ?_⟩
    by_cases hd : d = 0
    · rw [decide_eq_true (show V.int d = V.int 0 by rw [hd])]
      refine iteT ?_
      refine ⟨_, rfl, _, rfl, z, rfl, fun D nD => ?_⟩
      refine lc_it (walk_str (z := z)) (fun j H' => Ext H1 H' ∧ ∃ ts : List Addr, H' D = some (.lst (ts.map V.ref)) ∧ Paired (fun (t : Addr) (q : Key × V) => H' t = some (.tup [kV q.1, q.2])) ts (rowD ((sgL z).take j) fun _ => 0)) ⟨Ext.new nD, [], upd_same, .nil⟩ (fun _ _ _ _ => trivial) ?_ ?_
      · rintro j v H6 H7 hj ⟨x6, ts, hD, hts⟩ ⟨rfl, c, hc, rfl⟩
        have hsg := sgL_at hc
        have lt : ts.length ≤ 100 := by
          have := Paired.length hts
          unfold rowD at this
          rw [List.length_map, List.length_take] at this
          omega
        refine ⟨rfl, ?_⟩
        dsimp only [tYes]
        rw [if_pos rfl]
        refine ⟨_, rfl, sz2, fun t nt => ?_⟩
        have xt := Ext.new nt (o := .tup [V.str ⟨#[c]⟩, V.int 0])
        have ht : (upd H7 t (.tup [V.str ⟨#[c]⟩, V.int 0])) t = some (.tup [V.str ⟨#[c]⟩, V.int 0]) := upd_same
        generalize upd H7 t (.tup [V.str ⟨#[c]⟩, V.int 0]) = H8 at xt ht ⊢
        have hD8 := xt _ _ hD
        have kp : ∀ a xs, H8 a = some (.tup xs) → (upd H8 D (.lst (ts.map V.ref ++ [.ref t]))) a = some (.tup xs) := fun a xs h => by
          rw [upd_ne (ne_of h hD8 (by intro z; cases z))]
          exact h
        refine ⟨_, hD8, by rw [List.length_map]; exact small1000 (by omega), fun a o e => ?_, ts ++ [t], ?_, ?_⟩
        · rw [upd_ne (ne_of_none e nD)]
          exact xt _ _ (x6 _ _ e)
        · rw [upd_same, List.map_append]
          rfl
        · rw [take_more hsg]
          unfold rowD
          rw [List.map_append]
          exact Paired.snoc (Paired.mapP hts fun p q h => kp _ _ (xt _ _ h)) (kp _ _ ht)
      rintro H6 ⟨x6, ts, hD, hts⟩
      rw [zl, List.take_length] at hts
      refine ⟨D, ts, _, rfl, SqL.of hD, Paired.mapP hts fun p q h => SqT.of h, fun r nr => ?_⟩
      rw [merge_row0 ndg]
      refine ⟨sz1, fun R nR => ⟨sz1, fun E1 nE => ⟨sz3, fun t nt => ?_⟩⟩⟩
      have xr := Ext.new nr (o := .dK (rowD (sgL z) fun _ => 0))
      have xR := Ext.new nR (o := .lst [V.ref r])
      have xE := Ext.new nE (o := .lst [V.int 0])
      have xt := Ext.new nt (o := .tup [V.str z, V.ref R, V.ref E1])
      have x2 := ((xr.trans xR).trans xE).trans xt
      have xx : Ext H1 _ := x6.trans x2
      have f1 : ∀ b, H1 b = none → H b = none := fun b e => kp1.free (H' := H1) (a := a) (o := _) (hR1.ex.choose_spec.choose_spec.1) e
      refine k _ t R E1 [r] (fun _ _ => 0) [0] (hR1.ext xx) (kp1.trans (Keep.of xx)) (f1 _ (x6.free (xr.free nR))) (f1 _ (x6.free (xr.free (xR.free nE)))) (f1 _ (x6.free (xr.free (xR.free (xE.free nt))))) ⟨upd_same, ?_, fun i q e => ?_, ?_⟩ ⟨by show 0 < 1; decide, c0, fun _ _ _ _ => by show 0 < 1; decide, by simp, fun n hn => by rw [List.mem_singleton.mp hn]; show 0 < 1; decide⟩
      · exact xt _ _ (xE _ _ upd_same)
      · cases i with
        | zero =>
          obtain rfl := Option.some.inj e
          exact xt _ _ (xE _ _ (xR _ _ upd_same))
        | succ i => cases e
      · exact xt _ _ upd_same
    · rw [decide_eq_false (show ¬ V.int d = V.int 0 from fun e => hd (by injection e))]
      refine iteF ?_
      refine ⟨_, rfl, _, rfl, a, cap, rfl, hR1, by omega, by omega, fun d2 H2 d20 d2c hR2 kp2 => ?_⟩
      obtain ⟨m, rfl⟩ := Int.eq_ofNat_of_zero_le d20
      refine ⟨_, _, rfl, rfl, ?_⟩
      dsimp only
      rw [show (1 + (m : Int)) = ((m + 1 : Nat) : Int) by omega]
      have N0 : 0 < m + 1 := by omega
      have Nc : m + 1 ≤ cap := by omega
      generalize m + 1 = N at N0 Nc ⊢
      clear d20 d2c m d0 d3 hd
      have kp02 := kp1.trans kp2
      -- the rows
      refine ⟨_, rfl, (N : Int), rfl, by omega, by omega, fun R nR => ?_⟩
      rw [show ((N : Int)).toNat = N by omega]
      have nRa : a ≠ R := by
        obtain ⟨x, y, e, _⟩ := hR2.ex
        exact ne_of_none e nR
      refine lc_it (walk_range (lo := 0) (n := N)) (fun i H' => Rng H' a ∧ Keep a H2 H' ∧ ∃ (rs : List Addr) (δ : Nat → Str → Nat), rs.length = i ∧ H' R = some (.lst (rs.map V.ref)) ∧ RowsD H' rs (sgL z) δ ∧ ∀ n, n < i → ∀ c ∈ sgL z, δ n c < N)
        ⟨hR2.ext (Ext.new nR), Keep.of (Ext.new nR), [], fun _ _ => 0, rfl, upd_same, fun i r e => (by cases i <;> cases e), fun n hn => absurd hn (Nat.not_lt_zero _)⟩ (fun _ _ _ _ => trivial) ?_ ?_
      · rintro i v H3 H4 hi ⟨hR3, kp3, rs, δ, lrs, hRr, hrs, hlt⟩ ⟨rfl, rfl⟩
        refine ⟨rfl, ?_⟩
        dsimp only [tYes]
        rw [if_pos rfl]
        refine ⟨_, rfl, z, rfl, fun D nD => ?_⟩
        have nDa : a ≠ D := by
          obtain ⟨x, y, e, _⟩ := hR3.ex
          exact ne_of_none e nD
        refine lc_it (walk_str (z := z)) (fun j H' => Rng H' a ∧ Keep a H4 H' ∧ ∃ (ts : List Addr) (d : Str → Nat), H' D = some (.lst (ts.map V.ref)) ∧ Paired (fun (t : Addr) (q : Key × V) => H' t = some (.tup [kV q.1, q.2])) ts (rowD ((sgL z).take j) d) ∧ ∀ c ∈ (sgL z).take j, d c < N)
          ⟨hR3.ext (Ext.new nD), Keep.of (Ext.new nD), [], fun _ => 0, upd_same, .nil, fun c hc => absurd hc List.not_mem_nil⟩ (fun _ _ _ _ => trivial) ?_ ?_
        · rintro j v H6 H7 hj ⟨hR6, kp6, ts, d, hD, hts, hdl⟩ ⟨rfl, c, hc, rfl⟩
          have hsg := sgL_at hc
          have lt : ts.length ≤ 100 := by
            have := Paired.length hts
            unfold rowD at this
            rw [List.length_map, List.length_take] at this
            omega
          refine ⟨rfl, ?_⟩
          dsimp only [tYes]
          rw [if_pos rfl]
          refine ⟨_, rfl, _, rfl, _, rfl, a, N, rfl, hR6, by omega, by omega, fun d2 H8 d20 d2N hR8 kp8 => ?_⟩
          obtain ⟨m, rfl⟩ := Int.eq_ofNat_of_zero_le d20
          refine ⟨sz2, fun t nt => ?_⟩
          have xt := Ext.new nt (o := .tup [V.str ⟨#[c]⟩, V.int (m : Nat)])
          have ht : (upd H8 t (.tup [V.str ⟨#[c]⟩, V.int (m : Nat)])) t = some (.tup [V.str ⟨#[c]⟩, V.int (m : Nat)]) := upd_same
          have hD8 := xt _ _ (kp8 _ _ hD nDa.symm)
          have nta : ∀ t xs, H7 t = some (.tup xs) → t ≠ a := fun t xs h => by
            obtain ⟨x, y, e, _⟩ := hR6.ex
            exact ne_of h e (by intro z; cases z)
          show ∃ acc, (upd H8 t (.tup [V.str ⟨#[c]⟩, V.int (m : Nat)])) D = some (.lst acc) ∧ acc.length < sizeLine ∧ _
          have R9 := hR8.ext xt
          have k9 := (kp6.trans kp8).trans (Keep.of xt)
          have t9 : ∀ q xs, H7 q = some (.tup xs) → (upd H8 t (.tup [V.str ⟨#[c]⟩, V.int (m : Nat)])) q = some (.tup xs) := fun q xs h => xt _ _ (kp8 _ _ h (nta _ _ h))
          generalize upd H8 t (.tup [V.str ⟨#[c]⟩, V.int (m : Nat)]) = H9 at ht hD8 R9 k9 t9 ⊢
          have kp : ∀ a xs, H9 a = some (.tup xs) → (upd H9 D (.lst (ts.map V.ref ++ [.ref t]))) a = some (.tup xs) := fun a xs h => by
            rw [upd_ne (ne_of h hD8 (by intro z; cases z))]
            exact h
          have cnew : ∀ c' ∈ (sgL z).take j, c' ≠ ⟨#[c]⟩ := fun c' hc' e => by
            have h1 : ((sgL z).take (j + 1)).Nodup := ndg.sublist (List.take_sublist _ _)
            rw [take_more hsg] at h1
            exact (List.nodup_append.mp h1).2.2 c' hc' ⟨#[c]⟩ (by simp) e
          refine ⟨_, hD8, by rw [List.length_map]; exact small1000 (by omega), ?_, fun b o e n => ?_, ts ++ [t], fun x => if x = ⟨#[c]⟩ then m else d x, ?_, ?_, fun c' hc' => ?_⟩
          · obtain ⟨x, y, e, r⟩ := R9.ex
            exact ⟨x, y, by rw [upd_ne nDa]; exact e, r⟩
          · rw [upd_ne (ne_of_none e nD)]
            exact k9 _ _ e n
          · rw [upd_same, List.map_append]
            rfl
          · rw [take_more hsg]
            have e : rowD ((sgL z).take j ++ [⟨#[c]⟩]) (fun x => if x = ⟨#[c]⟩ then m else d x) = rowD ((sgL z).take j) d ++ [(keyC ⟨#[c]⟩, V.int (m : Nat))] := by
              have e1 := row_same (sg := (sgL z).take j) (d := fun x => if x = ⟨#[c]⟩ then m else d x) (e := d) fun c' hc' => if_neg (cnew c' hc')
              rw [← e1]
              unfold rowD
              rw [List.map_append]
              simp
            rw [e]
            exact Paired.snoc (Paired.mapP hts fun p q h => kp _ _ (t9 _ _ h)) (kp _ _ ht)
          · rw [take_more hsg] at hc'
            dsimp only
            by_cases e : c' = ⟨#[c]⟩
            · rw [if_pos e]
              omega
            · rw [if_neg e]
              rcases List.mem_append.mp hc' with h | h
              · exact hdl c' h
              · exact absurd (List.mem_singleton.mp h) e
        · rintro H6 ⟨hR6, kp6, ts, d, hD, hts, hdl⟩
          rw [zl, List.take_length] at hts hdl
          refine ⟨D, ts, _, rfl, SqL.of hD, Paired.mapP hts fun p q h => SqT.of h, fun r nr => ?_⟩
          rw [merge_row0 ndg]
          have xr := Ext.new nr (o := .dK (rowD (sgL z) d))
          have hr7 : (upd H6 r (.dK (rowD (sgL z) d))) r = some (.dK (rowD (sgL z) d)) := upd_same
          have hRr7 := xr _ _ (kp6 _ _ hRr nRa.symm)
          have R7 := hR6.ext xr
          have k7 := (kp3.trans kp6).trans (Keep.of xr)
          have row7 : ∀ q kvs, H4 q = some (.dK kvs) → (upd H6 r (.dK (rowD (sgL z) d))) q = some (.dK kvs) := fun q kvs h => xr _ _ (kp6 _ _ h (by
            obtain ⟨x, y, e, _⟩ := hR3.ex
            exact ne_of h e (by intro z; cases z)))
          generalize upd H6 r (.dK (rowD (sgL z) d)) = H7 at hr7 hRr7 R7 k7 row7 ⊢
          have kd : ∀ q kvs, H7 q = some (.dK kvs) → (upd H7 R (.lst (rs.map V.ref ++ [.ref r]))) q = some (.dK kvs) := fun q kvs h => by
            rw [upd_ne (ne_of h hRr7 (by intro z; cases z))]
            exact h
          refine ⟨_, hRr7, by rw [List.length_map]; exact small1000 (by omega), ?_, fun b o e n => ?_, rs ++ [r], fun n => if n = i then d else δ n, by rw [List.length_append, lrs]; rfl, ?_, fun n q e => ?_, fun n hn c hc => ?_⟩
          · obtain ⟨x, y, e, q⟩ := R7.ex
            exact ⟨x, y, by rw [upd_ne nRa]; exact e, q⟩
          · rw [upd_ne (ne_of_none e nR)]
            exact k7 _ _ e n
          · rw [upd_same, List.map_append]
            rfl
          · dsimp only
            by_cases cj : n < rs.length
            · rw [List.getElem?_append_left cj] at e
              rw [if_neg (by omega)]
              exact kd _ _ (row7 _ _ (hrs n q e))
            · have hlt := (List.getElem?_eq_some_iff.mp e).1
              rw [List.length_append] at hlt
              have hlt : n < rs.length + 1 := hlt
              obtain rfl : n = rs.length := by omega
              rw [List.getElem?_append_right (Nat.le_refl _), Nat.sub_self] at e
              obtain rfl := Option.some.inj e
              rw [if_pos lrs]
              exact kd _ _ hr7
          · dsimp only
            by_cases e : n = i
            · rw [if_pos e]
              exact hdl c hc
            · rw [if_neg e]
              exact hlt n (by omega) c hc
      rintro H3 ⟨hR3, kp3, rs, δ, lrs, hRr, hrs, hlt⟩
      refine ⟨_, rfl, _, rfl, _, rfl, (N : Int), rfl, by omega, by omega, fun Em nE => ?_⟩
      rw [show ((N : Int)).toNat = N by omega]
      have nEa : a ≠ Em := by
        obtain ⟨x, y, e, _⟩ := hR3.ex
        exact ne_of_none e nE
      refine lc_it (walk_range (lo := 0) (n := N)) (fun i H' => Rng H' a ∧ Keep a H3 H' ∧ ∃ mem : List Nat, H' Em = some (.lst (mem.map fun n => V.int (n : Nat))) ∧ mem.Nodup ∧ mem.length ≤ i ∧ ∀ n ∈ mem, n < i) ⟨hR3.ext (Ext.new nE), Keep.of (Ext.new nE), [], upd_same, List.nodup_nil, Nat.le_refl _, fun n hn => absurd hn List.not_mem_nil⟩ (fun _ _ _ _ => trivial) ?_ ?_
      · rintro i v H6 H7 hi ⟨hR6, kp6, mem, hE, nd, ml, mlt⟩ ⟨rfl, rfl⟩
        refine ⟨rfl, ?_⟩
        refine ⟨_, rfl, a, 2, rfl, hR6, by decide, by decide, fun d2 H8 d20 d22 hR8 kp8 => ⟨rfl, _, rfl, ?_⟩⟩
        have hE8 := kp8 _ _ hE nEa.symm
        by_cases h0 : d2 = 0
        · rw [decide_eq_true (show V.int d2 = V.int 0 by rw [h0])]
          dsimp only
          rw [if_pos rfl]
          refine ⟨_, rfl, _, hE8, by rw [List.length_map]; exact small1000 (by omega), ?_, fun b o e n => ?_, mem ++ [i], ?_, ?_, by rw [List.length_append]; show mem.length + 1 ≤ i + 1; omega, fun n hn => ?_⟩
          · obtain ⟨x, y, e, q⟩ := hR8.ex
            exact ⟨x, y, by rw [upd_ne nEa]; exact e, q⟩
          · rw [upd_ne (ne_of_none e nE)]
            exact kp8 _ _ (kp6 _ _ e n) n
          · rw [upd_same, List.map_append]
            show some (HO.lst (_ ++ [V.int (0 + (i : Int))])) = _
            rw [Int.zero_add]
            rfl
          · exact List.nodup_append.mpr ⟨nd, by simp, fun x hx y hy e => by
              rw [List.mem_singleton.mp hy] at e
              have := mlt x hx
              omega⟩
          · rcases List.mem_append.mp hn with h | h
            · have := mlt n h
              omega
            · rw [List.mem_singleton.mp h]
              omega
        · rw [decide_eq_false (show ¬ V.int d2 = V.int 0 from fun e => h0 (by injection e))]
          dsimp only
          rw [if_neg Bool.false_ne_true]
          exact ⟨hR8, kp6.trans kp8, mem, hE8, nd, by omega, fun n hn => by have := mlt n hn; omega⟩
      rintro H6 ⟨hR6, kp6, mem, hE, nd, ml, mlt⟩
      refine ⟨sz3, fun t nt => ?_⟩
      have xt := Ext.new nt (o := .tup [V.str z, V.ref R, V.ref Em])
      have fr : ∀ {G G' : Hp} {q : Addr}, Keep a G G' → Rng G' a → G' q = none → G q = none := fun kp r n => by
        obtain ⟨x, y, e, _⟩ := r.ex
        exact kp.free e n
      have hRa : ∀ q kvs, H3 q = some (.dK kvs) → H6 q = some (.dK kvs) := fun q kvs h => kp6 _ _ h (by
        obtain ⟨x, y, e, _⟩ := hR3.ex
        exact ne_of h e (by intro z; cases z))
      refine k _ t R Em rs δ mem (hR6.ext xt) (((kp02.trans kp3).trans kp6).trans (Keep.of xt)) (fr kp02 hR2 nR) (fr kp02 hR2 (fr kp3 hR3 nE)) (fr kp02 hR2 (fr kp3 hR3 (fr kp6 hR6 nt))) ⟨upd_same, xt _ _ (kp6 _ _ hRr nRa.symm), fun i q e => xt _ _ (hRa _ _ (hrs i q e)), xt _ _ hE⟩ ⟨by omega, by omega, fun n hn c hc => by rw [lrs] at hn ⊢; exact hlt n hn c hc, nd, fun n hn => by rw [lrs]; exact mlt n hn⟩
end
end Sl
/-! ## V20 -/
set_option Elab.async false
set_option linter.all false
set_option maxRecDepth 100000
set_option maxHeartbeats 4000000
set_option pp.maxSteps 1500
set_option pp.deepTerms false
/-! _law_texts, all texts told -/
namespace Sl
open PySem PySem.Spec PyProof.Rows L2 TxS
theorem Rng.new {H : Hp} {a p : Addr} (r : Rng H a) (n : H p = none) : p ≠ a := fun e => by
  obtain ⟨x, y, h, _⟩ := r.ex
  rw [e, h] at n
  cases n
abbrev sTexts : Stmt := top 51
/-- the words of k signs, those of at most k -/
def levW (sg : List Str) : Nat → List (List Str)
  | 0 => [[]]
  | k + 1 => (levW sg k).flatMap fun w => sg.map fun c => w ++ [c]
def allW (sg : List Str) : Nat → List (List Str)
  | 0 => [[]]
  | k + 1 => allW sg k ++ levW sg (k + 1)
theorem levW_mem {sg : List Str} : ∀ {k : Nat} {w : List Str}, w ∈ levW sg k ↔ w.length = k ∧ ∀ c ∈ w, c ∈ sg
  | 0, w => by
    unfold levW
    rw [List.mem_singleton]
    constructor
    · rintro rfl
      exact ⟨rfl, by simp⟩
    · rintro ⟨h, _⟩
      exact List.eq_nil_of_length_eq_zero h
  | k + 1, w => by
    unfold levW
    rw [List.mem_flatMap]
    constructor
    · rintro ⟨v, hv, hw⟩
      obtain ⟨c, hc, rfl⟩ := List.mem_map.mp hw
      obtain ⟨h1, h2⟩ := levW_mem.mp hv
      refine ⟨by rw [List.length_append, h1]; rfl, fun c' h' => ?_⟩
      rcases List.mem_append.mp h' with h | h
      · exact h2 c' h
      · rw [List.mem_singleton.mp h]
        exact hc
    · rintro ⟨h1, h2⟩
      rcases List.eq_nil_or_concat w with rfl | ⟨v, c, rfl⟩
      · cases h1
      · rw [List.concat_eq_append] at h1 h2 ⊢
        rw [List.length_append] at h1
        exact ⟨v, levW_mem.mpr ⟨Nat.succ.inj h1, fun c' h' => h2 c' (List.mem_append.mpr (.inl h'))⟩, List.mem_map.mpr ⟨c, h2 c (List.mem_append.mpr (.inr (List.mem_singleton.mpr rfl))), rfl⟩⟩
theorem allW_mem {sg : List Str} : ∀ {k : Nat} {w : List Str}, w ∈ allW sg k ↔ w.length ≤ k ∧ ∀ c ∈ w, c ∈ sg
  | 0, w => by
    have := levW_mem (sg := sg) (k := 0) (w := w)
    unfold levW at this
    unfold allW
    rw [this, Nat.le_zero]
  | k + 1, w => by
    unfold allW
    rw [List.mem_append, allW_mem, levW_mem]
    constructor
    · rintro (⟨h1, h2⟩ | ⟨h1, h2⟩)
      · exact ⟨by omega, h2⟩
      · exact ⟨by omega, h2⟩
    · rintro ⟨h1, h2⟩
      by_cases e : w.length = k + 1
      · exact .inr ⟨e, h2⟩
      · exact .inl ⟨by omega, h2⟩
def spTexts : Sp := fun vs H Q _ => ∃ (z : Str) (cap : Nat), vs = [.str z, .int cap] ∧ 1 ≤ z.length ∧ z.length ≤ 4 ∧ cap ≤ 8 ∧ ∀ (H' : Hp) (L : Addr) (zs : List Str), Ext H H' → H L = none → H' L = some (.lst (zs.map V.str)) → zs.map sgL = allW (sgL z) cap → zs.length ≤ 600000 → Q (.ref L) H'
theorem sgL_app (x y : Str) : sgL (x ++ y) = sgL x ++ sgL y := by
  have e : (x ++ y).cps.toList = x.cps.toList ++ y.cps.toList := by
    show (x.cps ++ y.cps).toList = _
    rw [Array.toList_append]
  unfold sgL
  rw [e, List.map_append]
theorem len_app (x y : Str) : (x ++ y).length = x.length + y.length := by
  show (x.cps ++ y.cps).size = _
  rw [Array.size_append]
  rfl
theorem big_size {n : Nat} (h : n ≤ 1000000) : n ≤ sizeLine := by
  rw [sizeLine_eq]
  omega
section
variable {P : Program} {w : World} {K : PySem.W.Frag} {mg : Str → Option Value} {base : Heap}
abbrev nTexts : List Str := ["_law_abc", "_law_cap", "_law_found", "_law_latest", "_law_turn", "_law_longer", "_law_note", "_law_letter"]
theorem scTexts : FnScope nTexts ["_law_abc", "_law_cap"] (defScope sTexts) := ⟨rfl, rfl, rfl, by decide +kernel, rfl, by decide +kernel, by decide +kernel⟩
theorem ok_texts {f : Addr} {fd : FuncData} (F : Fun K "_law_texts" "_law_texts" sTexts f fd) (zr : mg "range" = none) : FnOk P w K mg base CX0 1 f fd ["_law_abc", "_law_cap"] spTexts := by
  refine F.ok scTexts (fun vs H Q E h => ?_) (fun cdv A0 outer s H vs Q E hr h => ?_)
  · obtain ⟨z, cap, rfl, _⟩ := h
    rfl
  · obtain ⟨z, cap, rfl, z1, z4, c8, q⟩ := h
    refine ⟨_, pss_cons (ps_par (i := 2) (j := 3) (by rfl) scTexts.nd rfl rfl (by decide) rfl rfl (pa_cons (pe_lst (pa_cons pe_str pa_nil)) (pa_cons (pe_lst (pa_cons pe_str pa_nil)) pa_nil)) (by rfl))
      (pss_cons (ps_for PassesOwn.never rfl (pi_range1 rfl zr (pa_cons (pv 1) pa_nil)) (pg_name (i := 4) scTexts.nd rfl (.inl rfl))
        (pss_cons (ps_set (i := 5) scTexts.nd rfl (.inl rfl) (pe_lst pa_nil))
        (pss_cons (ps_for PassesOwn.never rfl (pi_list (pv 3)) (pg_name (i := 6) scTexts.nd rfl (.inr rfl))
          (pss_one (ps_set (i := 5) scTexts.nd rfl (.inl rfl) (pe_op op_cat (pv 5) (pe_lc (own := [("_law_letter", 7)]) (g := gName 7) (tt := tYes) rfl scTexts.nd (pi_str (pv 0)) (blkOk_by (N := nTexts) (sc := defScope sTexts) (by decide +kernel))
            (fun _ _ _ _ _ => pg_name (i := 7) scTexts.nd rfl (Or.inl rfl)) (fun _ _ _ _ _ => pts_nil) (fun _ _ _ _ _ => pe_op op_add_str (pe_var (i := 6) rfl (.inr (.inl rfl))) (pv 7)))))))
        (pss_cons (ps_set (i := 3) scTexts.nd rfl (.inl rfl) (pv 5))
        (pss_one (ps_set (i := 2) scTexts.nd rfl (.inl rfl) (pe_op op_cat (pv 2) (pv 3))))))))
      (pss_one (ps_ret (pv 2)))), ?_⟩
    have szz : (1 : Nat) ≤ sizeLine := by decide
    have zlen : z.cps.size = z.length := rfl
    refine ⟨szz, fun F0 nF => ⟨szz, fun L0 nL => ?_⟩⟩
    have x1 := (Ext.new nF (o := .lst [V.str (Str.ofString "")])).trans (Ext.new nL (o := .lst [V.str (Str.ofString "")]))
    have nF0 := nF
    have hF1 := Ext.new nL (o := .lst [V.str (Str.ofString "")]) _ _ (upd_same (H := H) (a := F0) (o := .lst [V.str (Str.ofString "")]))
    have hL1 : (upd (upd H F0 (.lst [V.str (Str.ofString "")])) L0 (.lst [V.str (Str.ofString "")])) L0 = some (.lst [V.str (Str.ofString "")]) := upd_same
    generalize upd (upd H F0 (.lst [V.str (Str.ofString "")])) L0 (.lst [V.str (Str.ofString "")]) = H1 at x1 hF1 hL1 ⊢
    have n0 : ([Str.ofString ""].map sgL) = [[]] := rfl
    refine ⟨_, _, rfl, ?_⟩
    refine ⟨_, rfl, (cap : Int), rfl, by omega, by omega, ?_⟩
    rw [show ((cap : Int)).toNat = cap by omega]
    refine for_it (walk_range (lo := 0) (n := cap)) (fun k σ H' => ∃ (F1 L1 : Addr) (zs ys : List Str) (v4 v5 v6 : Option V), σ = [some (.str z), some (.int cap), some (.ref F1), some (.ref L1), v4, v5, v6, none] ∧ Ext H H' ∧ H F1 = none ∧ H' F1 = some (.lst (zs.map V.str)) ∧ H' L1 = some (.lst (ys.map V.str)) ∧ zs.map sgL = allW (sgL z) k ∧ ys.map sgL = levW (sgL z) k ∧ ys.length ≤ 4 ^ k ∧ zs.length ≤ 1 + k * 65536)
      ⟨F0, L0, [Str.ofString ""], [Str.ofString ""], none, none, none, rfl, x1, nF0, hF1, hL1, n0, n0, Nat.le_refl _, Nat.le_refl _⟩ (fun _ _ _ _ _ => trivial) ?_ ?_
    · rintro k v σ H2 H3 hk ⟨F1, L1, zs, ys, v4, v5, v6, rfl, x3, nF1, hF, hL, nz, ny, ly, lz⟩ ⟨rfl, rfl⟩
      have k4 : 4 ^ k ≤ 4 ^ 7 := Nat.pow_le_pow_right (by decide) (by omega)
      have k47 : (4 : Nat) ^ 7 = 16384 := by decide
      refine ⟨by show 0 ≤ sizeLine; decide, fun G0 nG => ?_⟩
      have xG := Ext.new nG (o := .lst [])
      have hG : (upd H3 G0 (.lst [])) G0 = some (.lst (([] : List Str).map V.str)) := upd_same
      have x4 := x3.trans xG
      have hF4 := xG _ _ hF
      have hL4 := xG _ _ hL
      have nGH : H G0 = none := Ext.free x3 nG
      generalize upd H3 G0 (.lst []) = H4 at xG hG x4 hF4 hL4 ⊢
      refine ⟨_, rfl, L1, rfl, ⟨_, SqL.of hL4⟩, ?_⟩
      refine for_it (walk_list (xs := ys.map V.str)) (fun j σ H' => ∃ (G : Addr) (gs : List Str) (v6 : Option V), σ = [some (.str z), some (.int cap), some (.ref F1), some (.ref L1), some (.int (0 + (k : Int))), some (.ref G), v6, none] ∧ Ext H4 H' ∧ H' G = some (.lst (gs.map V.str)) ∧ gs.map sgL = ((levW (sgL z) k).take j).flatMap (fun w => (sgL z).map fun c => w ++ [c]) ∧ gs.length ≤ 4 * j)
        ⟨G0, [], v6, rfl, fun _ _ e => e, hG, rfl, Nat.le_refl _⟩ (fun j σ H' _ ⟨_, _, _, _, x, _⟩ => SqL.of (x _ _ hL4)) ?_ ?_
      · rintro j x σ H5 H6 hj ⟨G, gs, v6, rfl, x5, hG5, ng, lg⟩ ⟨rfl, hx⟩
        obtain ⟨y, hy, rfl⟩ := at_map hx
        have yP : (levW (sgL z) k)[j]? = some (sgL y) := by
          rw [← ny, List.getElem?_map, hy]
          rfl
        have yl : y.length ≤ 8 := by
          have := (levW_mem.mp (List.mem_of_getElem? yP)).1
          rw [sgL_len] at this
          have : y.length = k := this
          omega
        rw [List.length_map] at hj
        refine ⟨_, rfl, _, rfl, z, rfl, fun D nD => ?_⟩
        refine lc_it (walk_str (z := z)) (fun i H' => Ext H6 H' ∧ ∃ ds : List Str, H' D = some (.lst (ds.map V.str)) ∧ ds.map sgL = ((sgL z).take i).map (fun c => sgL y ++ [c]) ∧ ds.length ≤ i) ⟨Ext.new nD, [], upd_same, rfl, Nat.le_refl _⟩ (fun _ _ _ _ => trivial) ?_ ?_
        · rintro i v G1 G2 hi ⟨y1, ds, hD, nds, lds⟩ ⟨rfl, c, hc, rfl⟩
          have cm := List.mem_of_getElem? (sgL_at hc)
          have iz : i < z.length := hi
          refine ⟨rfl, ?_⟩
          dsimp only [tYes]
          rw [if_pos rfl]
          refine ⟨_, rfl, _, rfl, y, ⟨#[c]⟩, rfl, rfl, big_size (by have : (⟨#[c]⟩ : Str).length = 1 := rfl; omega), _, hD, ?_, fun a o e => ?_, ds ++ [y ++ ⟨#[c]⟩], ?_, ?_, ?_⟩
          · rw [List.length_map]
            exact small1000 (by omega)
          · rw [upd_ne (ne_of_none e nD)]
            exact y1 _ _ e
          · rw [upd_same, List.map_append]
            rfl
          · rw [take_more (sgL_at hc), List.map_append, List.map_append, nds, List.map_singleton, List.map_singleton, sgL_app]
            rfl
          · rw [List.length_append]
            show ds.length + 1 ≤ i + 1
            omega
        · rintro G1 ⟨y1, ds, hD, nds, lds⟩
          have hG7 := y1 _ _ hG5
          refine ⟨G, D, _, _, rfl, rfl, hG7, hD, big_size ?_, fun p np => ?_⟩
          · rw [List.length_map, List.length_map]
            omega
          refine ⟨p, gs ++ ds, _, rfl, (x5.trans y1).trans (Ext.new np), by rw [upd_same, List.map_append], ?_, ?_⟩
          · rw [← sgL_len, List.take_length] at nds
            rw [take_more yP, List.flatMap_append, List.flatMap_singleton, List.map_append, ng, nds]
          · rw [List.length_append]
            omega
      · rintro σ H5 ⟨G, gs, v6, rfl, x5, hG5, ng, lg⟩
        rw [List.length_map] at lg ng
        have ng : gs.map sgL = levW (sgL z) (k + 1) := by
          rw [ng, ← List.length_map (f := sgL), ny, List.take_length]
          rfl
        refine ⟨_, rfl, _, rfl, _, rfl, F1, G, _, _, rfl, rfl, x5 _ _ hF4, hG5, big_size ?_, fun p np => ?_⟩
        · rw [List.length_map, List.length_map]
          omega
        have hp : (upd H5 p (.lst (zs.map V.str ++ gs.map V.str))) p = some (.lst ((zs ++ gs).map V.str)) := by
          rw [upd_same, List.map_append]
        have e4 : 4 ^ (k + 1) = 4 * 4 ^ k := by rw [Nat.pow_succ, Nat.mul_comm]
        refine ⟨p, G, zs ++ gs, gs, _, _, _, rfl, (x4.trans x5).trans (Ext.new np), Ext.free x4 (Ext.free x5 np), hp, Ext.new np _ _ hG5, ?_, ng, by omega, ?_⟩
        · rw [List.map_append, nz, ng]
          rfl
        · rw [List.length_append]
          omega
    · rintro σ H2 ⟨F1, L1, zs, ys, v4, v5, v6, rfl, x3, nF1, hF, hL, nz, ny, ly, lz⟩
      exact ⟨_, rfl, q _ F1 zs x3 nF1 hF nz (by omega)⟩
end
end Sl
/-! ## N1 -/
set_option Elab.async false
set_option linter.all false
set_option maxRecDepth 100000
set_option maxHeartbeats 4000000
/-! texts of up to four signs tell five states apart; the law's own least machine -/
namespace Sl
open PySem PySem.Spec PyProof.Rows L2
section
variable {sg : List Str} {δ : Nat → Str → Nat} {mem : List Nat} {N : Nat}
/-- the words of at most k signs tell n and m not apart -/
def EqvK (sg : List Str) (δ : Nat → Str → Nat) (mem : List Nat) (k n m : Nat) : Prop := ∀ w : List Str, w.length ≤ k → (∀ c ∈ w, c ∈ sg) → (run δ n w ∈ mem ↔ run δ m w ∈ mem)
def EqvA (sg : List Str) (δ : Nat → Str → Nat) (mem : List Nat) (n m : Nat) : Prop := ∀ w : List Str, (∀ c ∈ w, c ∈ sg) → (run δ n w ∈ mem ↔ run δ m w ∈ mem)
theorem EqvK.symm {k n m : Nat} (h : EqvK sg δ mem k n m) : EqvK sg δ mem k m n := fun w l hw => (h w l hw).symm
theorem EqvK.trans {k n m o : Nat} (h : EqvK sg δ mem k n m) (i : EqvK sg δ mem k m o) : EqvK sg δ mem k n o := fun w l hw => (h w l hw).trans (i w l hw)
theorem EqvK.le {k j n m : Nat} (h : EqvK sg δ mem k n m) (i : j ≤ k) : EqvK sg δ mem j n m := fun w l hw => h w (Nat.le_trans l i) hw
theorem EqvK.step {k n m : Nat} {c : Str} (h : EqvK sg δ mem (k + 1) n m) (hc : c ∈ sg) : EqvK sg δ mem k (δ n c) (δ m c) := fun w l hw => by
  have := h (c :: w) (Nat.succ_le_succ l) fun c' h' => (List.mem_cons.mp h').elim (fun e => e ▸ hc) (hw c')
  rwa [run_cons, run_cons] at this
def StableK (sg : List Str) (δ : Nat → Str → Nat) (mem : List Nat) (N k : Nat) : Prop := ∀ n, n < N → ∀ m, m < N → EqvK sg δ mem k n m → EqvK sg δ mem (k + 1) n m
theorem StableK.next {k : Nat} (lt : ∀ n, n < N → ∀ c ∈ sg, δ n c < N) (h : StableK sg δ mem N k) : StableK sg δ mem N (k + 1) := fun n hn m hm e w l hw => by
  cases w with
  | nil => exact e [] (Nat.zero_le _) hw
  | cons c w =>
    have hc := hw c List.mem_cons_self
    rw [run_cons, run_cons]
    exact h _ (lt n hn c hc) _ (lt m hm c hc) (e.step hc) w (Nat.le_of_succ_le_succ l) fun c' h' => hw c' (List.mem_cons_of_mem _ h')
theorem StableK.all {k : Nat} (lt : ∀ n, n < N → ∀ c ∈ sg, δ n c < N) (h : StableK sg δ mem N k) {n m : Nat} (hn : n < N) (hm : m < N) (e : EqvK sg δ mem k n m) : EqvA sg δ mem n m := by
  have st : ∀ j, StableK sg δ mem N (k + j) := fun j => by
    induction j with
    | zero => exact h
    | succ j ih => exact ih.next lt
  have eq : ∀ j, EqvK sg δ mem (k + j) n m := fun j => by
    induction j with
    | zero => exact e
    | succ j ih => exact st j n hn m hm ih
  exact fun w hw => eq w.length w (by omega) hw
/-- as many as the length of the words, and one more, or they tell no more -/
theorem reps (N0 : 0 < N) : ∀ k, (∃ j, j < k ∧ StableK sg δ mem N j) ∨ ∃ l : List Nat, k + 1 ≤ l.length ∧ (∀ n ∈ l, n < N) ∧ l.Pairwise fun a b => ¬ EqvK sg δ mem k a b
  | 0 => .inr ⟨[0], Nat.le_refl _, fun n hn => by rw [List.mem_singleton.mp hn]; exact N0, List.pairwise_singleton _ _⟩
  | k + 1 => by
    rcases reps N0 k with ⟨j, hj, s⟩ | ⟨l, hl, lt, pw⟩
    · exact .inl ⟨j, by omega, s⟩
    · by_cases c : StableK sg δ mem N k
      · exact .inl ⟨k, by omega, c⟩
      · refine .inr ?_
        have : ∃ n m, n < N ∧ m < N ∧ EqvK sg δ mem k n m ∧ ¬ EqvK sg δ mem (k + 1) n m := Classical.byContradiction fun z => c fun n hn m hm e => Classical.byContradiction fun q => z ⟨n, m, hn, hm, e, q⟩
        obtain ⟨n, m, hn, hm, e, ne⟩ := this
        have pw1 : l.Pairwise fun a b => ¬ EqvK sg δ mem (k + 1) a b := pw.imp fun h q => h (q.le (Nat.le_succ _))
        have add : ∀ y, y < N → (∀ z ∈ l, ¬ EqvK sg δ mem (k + 1) y z) → ∃ l : List Nat, k + 1 + 1 ≤ l.length ∧ (∀ n ∈ l, n < N) ∧ l.Pairwise fun a b => ¬ EqvK sg δ mem (k + 1) a b := fun y hy hz =>
          ⟨y :: l, Nat.succ_le_succ hl, fun x hx => (List.mem_cons.mp hx).elim (fun e => e ▸ hy) (lt x), List.pairwise_cons.mpr ⟨hz, pw1⟩⟩
        by_cases q : ∃ x ∈ l, EqvK sg δ mem k x n
        · obtain ⟨x, hx, ex⟩ := q
          have other : ∀ z ∈ l, z ≠ x → ¬ EqvK sg δ mem k x z := fun z hz nz ee => by
            obtain ⟨i, hi⟩ := List.getElem?_of_mem hx
            obtain ⟨j, hj⟩ := List.getElem?_of_mem hz
            have li := (List.getElem?_eq_some_iff.mp hi)
            have lj := (List.getElem?_eq_some_iff.mp hj)
            obtain ⟨hi1, hi2⟩ := li
            obtain ⟨hj1, hj2⟩ := lj
            rcases Nat.lt_trichotomy i j with c | c | c
            · have := List.pairwise_iff_getElem.mp pw i j hi1 hj1 c
              rw [hi2, hj2] at this
              exact this ee
            · subst c
              exact nz (hj2.symm.trans hi2)
            · have := List.pairwise_iff_getElem.mp pw j i hj1 hi1 c
              rw [hi2, hj2] at this
              exact this ee.symm
          by_cases r : EqvK sg δ mem (k + 1) n x
          · refine add m hm fun z hz ez => ?_
            by_cases d : z = x
            · subst d
              exact ne (r.trans ez.symm)
            · exact other z hz d (ex.trans (e.trans (ez.le (Nat.le_succ _))))
          · refine add n hn fun z hz ez => ?_
            by_cases d : z = x
            · subst d
              exact r ez
            · exact other z hz d (ex.trans (ez.le (Nat.le_succ _)))
        · exact add n hn fun z hz ez => q ⟨z, hz, (ez.le (Nat.le_succ _)).symm⟩
theorem moore {k : Nat} (N0 : 0 < N) (N5 : N ≤ k + 1) (lt : ∀ n, n < N → ∀ c ∈ sg, δ n c < N) {n m : Nat} (hn : n < N) (hm : m < N) (e : EqvK sg δ mem k n m) : EqvA sg δ mem n m := by
  rcases reps (sg := sg) (δ := δ) (mem := mem) N0 k with ⟨j, hj, s⟩ | ⟨l, hl, lt', pw⟩
  · exact s.all lt hn hm (e.le (by omega))
  · have nd : l.Nodup := pw.imp fun h q => h (by subst q; exact fun _ _ _ => Iff.rfl)
    have all : ∀ x, x < N → x ∈ l := fun x hx => by
      refine Classical.byContradiction fun z => ?_
      have h1 := nodup_len (N := N) (q := x :: l) (List.nodup_cons.mpr ⟨z, nd⟩) fun y hy => (List.mem_cons.mp hy).elim (fun e => e ▸ hx) (lt' y)
      rw [List.length_cons] at h1
      omega
    by_cases d : n = m
    · subst d
      exact fun _ _ => Iff.rfl
    · exfalso
      obtain ⟨i, hi⟩ := List.getElem?_of_mem (all n hn)
      obtain ⟨j, hj⟩ := List.getElem?_of_mem (all m hm)
      obtain ⟨hi1, hi2⟩ := List.getElem?_eq_some_iff.mp hi
      obtain ⟨hj1, hj2⟩ := List.getElem?_eq_some_iff.mp hj
      rcases Nat.lt_trichotomy i j with c | c | c
      · have := List.pairwise_iff_getElem.mp pw i j hi1 hj1 c
        rw [hi2, hj2] at this
        exact this e
      · subst c
        exact d (hi2.symm.trans hj2)
      · have := List.pairwise_iff_getElem.mp pw j i hj1 hi1 c
        rw [hi2, hj2] at this
        exact this e.symm
/-- what the words of up to four signs tell of a state -/
def trL (sg : List Str) (δ : Nat → Str → Nat) (mem : List Nat) (n : Nat) : List Bool := (allW sg 4).map fun w => decide (run δ n w ∈ mem)
theorem tr_eqv {n m : Nat} : trL sg δ mem n = trL sg δ mem m ↔ EqvK sg δ mem 4 n m := by
  unfold trL
  rw [List.map_inj_left]
  constructor
  · exact fun h w l hw => decide_eq_decide.mp (h w (allW_mem.mpr ⟨l, hw⟩))
  · intro h w hw
    obtain ⟨l, q⟩ := allW_mem.mp hw
    exact decide_eq_decide.mpr (h w l q)
/-- where the law's search for the least machine stands: firsts F, the first k of them are done -/
structure LawSt (sg : List Str) (δ : Nat → Str → Nat) (mem : List Nat) (N : Nat) (F : List Nat) (k : Nat) : Prop where
  met : F.map (trL sg δ mem) = metL (trL sg δ mem 0 :: (F.take k).flatMap fun n => sg.map fun c => trL sg δ mem (δ n c))
  hd : ∃ t, F = 0 :: t
  lt : ∀ n ∈ F, n < N
  par : ∀ i n, F[i]? = some n → 0 < i → ∃ j m, j < i ∧ F[j]? = some m ∧ ∃ c ∈ sg, n = δ m c
def dLaw (sg : List Str) (δ : Nat → Str → Nat) (mem : List Nat) (F : List Nat) : Nat → Str → Nat := fun b c => ixL (F.map (trL sg δ mem)) (trL sg δ mem (δ (F.getD b 0) c))
def fLaw (mem F : List Nat) : List Nat := (List.range F.length).filter fun b => decide (F.getD b 0 ∈ mem)
theorem LawSt.len {F : List Nat} {k : Nat} (L : LawSt sg δ mem N F k) : F.length ≤ N := by
  have nd : F.Nodup := by
    have := metL_nodup (trL sg δ mem 0 :: (F.take k).flatMap fun n => sg.map fun c => trL sg δ mem (δ n c))
    rw [← L.met] at this
    unfold List.Nodup at this ⊢
    rw [List.pairwise_map] at this
    exact this.imp fun h e => h (by rw [e])
  exact nodup_len nd L.lt
theorem law_can {F : List Nat} (N0 : 0 < N) (N5 : N ≤ 5) (lt : ∀ n, n < N → ∀ c ∈ sg, δ n c < N) (L : LawSt sg δ mem N F F.length) :
    Can sg F.length (dLaw sg δ mem F) (fLaw mem F) ∧ ∀ w : List Str, (∀ c ∈ w, c ∈ sg) → (run (dLaw sg δ mem F) 0 w ∈ fLaw mem F ↔ run δ 0 w ∈ mem) := by
  have met := L.met
  rw [List.take_length] at met
  have ndT : (F.map (trL sg δ mem)).Nodup := by
    rw [met]
    exact metL_nodup _
  have inT : ∀ {n : Nat} {c : Str}, n ∈ F → c ∈ sg → trL sg δ mem (δ n c) ∈ F.map (trL sg δ mem) := fun {n c} hn hc => by
    rw [met]
    exact (metL_mem _).mpr (List.mem_cons_of_mem _ (List.mem_flatMap.mpr ⟨n, hn, List.mem_map.mpr ⟨c, hc, rfl⟩⟩))
  have getF : ∀ {b : Nat}, b < F.length → F.getD b 0 ∈ F ∧ F[b]? = some (F.getD b 0) := fun {b} hb => by
    rw [List.getD_eq_getElem?_getD, List.getElem?_eq_getElem hb]
    exact ⟨List.getElem_mem hb, rfl⟩
  have atT : ∀ {b : Nat}, b < F.length → (F.map (trL sg δ mem))[b]? = some (trL sg δ mem (F.getD b 0)) := fun {b} hb => by
    rw [List.getElem?_map, (getF hb).2]
    rfl
  have same : ∀ {n m : Nat}, n < N → m < N → trL sg δ mem n = trL sg δ mem m → EqvA sg δ mem n m := fun {n m} hn hm e => moore N0 (by omega) lt hn hm (tr_eqv.mp e)
  have ltF : ∀ b, b < F.length → ∀ c ∈ sg, dLaw sg δ mem F b c < F.length := fun b hb c hc => by
    have := ixL_lt (inT (getF hb).1 hc)
    rwa [List.length_map] at this
  have stp : ∀ {b : Nat} {c : Str}, b < F.length → c ∈ sg → trL sg δ mem (F.getD (dLaw sg δ mem F b c) 0) = trL sg δ mem (δ (F.getD b 0) c) := fun {b c} hb hc => by
    have h1 := ixL_at (inT (getF hb).1 hc)
    have h2 := atT (ltF b hb c hc)
    exact Option.some.inj (h2.symm.trans h1)
  have walk : ∀ (w : List Str) (b n : Nat), b < F.length → n < N → trL sg δ mem (F.getD b 0) = trL sg δ mem n → (∀ c ∈ w, c ∈ sg) → trL sg δ mem (F.getD (run (dLaw sg δ mem F) b w) 0) = trL sg δ mem (run δ n w) ∧ run (dLaw sg δ mem F) b w < F.length ∧ run δ n w < N := fun w => by
    induction w with
    | nil => exact fun b n hb hn e _ => ⟨e, hb, hn⟩
    | cons c w ih =>
      intro b n hb hn e hw
      have hc := hw c List.mem_cons_self
      rw [run_cons, run_cons]
      refine ih _ _ (ltF b hb c hc) (lt n hn c hc) ?_ fun c' h' => hw c' (List.mem_cons_of_mem _ h')
      rw [stp hb hc, tr_eqv]
      have ea := same (L.lt _ (getF hb).1) hn e
      exact fun v _ hv => by
        have := ea (c :: v) fun c' h' => (List.mem_cons.mp h').elim (fun e => e ▸ hc) (hv c')
        rwa [run_cons, run_cons] at this
  have inM : ∀ {b : Nat}, b < F.length → (b ∈ fLaw mem F ↔ F.getD b 0 ∈ mem) := fun {b} hb => by
    unfold fLaw
    rw [List.mem_filter, List.mem_range, decide_eq_true_eq]
    exact ⟨fun h => h.2, fun h => ⟨hb, h⟩⟩
  have trM : ∀ {n m : Nat}, trL sg δ mem n = trL sg δ mem m → (n ∈ mem ↔ m ∈ mem) := fun {n m} e => tr_eqv.mp e [] (Nat.zero_le _) (by simp)
  obtain ⟨t, eF⟩ := L.hd
  have pos : 0 < F.length := by
    rw [eF]
    exact Nat.succ_pos _
  have z0 : F.getD 0 0 = 0 := by
    rw [eF]
    rfl
  refine ⟨⟨pos, ltF, fun a ha b hb h => ?_, fun b => ?_, ?_, ?_⟩, fun w hw => ?_⟩
  · have e : trL sg δ mem (F.getD a 0) = trL sg δ mem (F.getD b 0) := tr_eqv.mpr fun w _ hw => by
      obtain ⟨a1, a2, _⟩ := walk w a _ ha (L.lt _ (getF ha).1) rfl hw
      obtain ⟨b1, b2, _⟩ := walk w b _ hb (L.lt _ (getF hb).1) rfl hw
      rw [← trM a1, ← trM b1, ← inM a2, ← inM b2]
      exact h w hw
    have h1 := ixL_nodup ndT (atT ha)
    rw [e, ixL_nodup ndT (atT hb)] at h1
    exact h1.symm
  · induction b using Nat.strongRecOn with
    | ind b ih =>
      intro hb
      by_cases c : b = 0
      · subst c
        exact ⟨[], by simp, rfl⟩
      · obtain ⟨j, m, hj, hm, x, hx, e⟩ := L.par b _ (getF hb).2 (by omega)
        obtain ⟨w, hw, q⟩ := ih j hj (by omega)
        refine ⟨w ++ [x], fun c' h' => ?_, ?_⟩
        · rcases List.mem_append.mp h' with h | h
          · exact hw c' h
          · rw [List.mem_singleton.mp h]
            exact hx
        · rw [run_app, q]
          show dLaw sg δ mem F j x = b
          unfold dLaw
          rw [List.getD_eq_getElem?_getD (l := F) (i := j), hm]
          show ixL _ (trL sg δ mem (δ m x)) = b
          rw [← e]
          exact ixL_nodup ndT (atT hb)
  · have e0 : ixL (F.map (trL sg δ mem)) (trL sg δ mem 0) = 0 := by
      have := ixL_nodup ndT (atT pos)
      rwa [z0] at this
    have ids : (F.map (trL sg δ mem)).map (ixL (F.map (trL sg δ mem))) = List.range F.length := by
      refine List.ext_getElem? fun i => ?_
      rw [List.getElem?_map]
      by_cases c : i < F.length
      · rw [atT c, List.getElem?_range c]
        exact congrArg some (ixL_nodup ndT (atT c))
      · rw [List.getElem?_eq_none (by rw [List.length_map]; omega), List.getElem?_eq_none (by rw [List.length_range]; omega)]
        rfl
    have h1 : metL ((metL (trL sg δ mem 0 :: F.flatMap fun n => sg.map fun c => trL sg δ mem (δ n c))).map (ixL (F.map (trL sg δ mem)))) = List.range F.length := by
      rw [← met, ids, metL_of_nodup _ List.nodup_range]
    rw [metL_map, List.map_cons, e0] at h1
    have h2 : (F.flatMap fun n => sg.map fun c => trL sg δ mem (δ n c)).map (ixL (F.map (trL sg δ mem))) = (List.range F.length).flatMap fun b => sg.map (dLaw sg δ mem F b) := by
      rw [List.map_flatMap, List.flatMap_def, List.flatMap_def]
      refine congrArg List.flatten (List.ext_getElem? fun i => ?_)
      rw [List.getElem?_map, List.getElem?_map]
      by_cases c : i < F.length
      · rw [(getF c).2, List.getElem?_range c]
        refine congrArg some ?_
        show List.map (ixL (F.map (trL sg δ mem))) (List.map (fun c => trL sg δ mem (δ (F.getD i 0) c)) sg) = List.map (dLaw sg δ mem F i) sg
        rw [List.map_map]
        rfl
      · rw [List.getElem?_eq_none (by omega), List.getElem?_eq_none (by rw [List.length_range]; omega)]
        rfl
    rw [h2] at h1
    exact h1
  · unfold fLaw
    refine List.filter_congr fun b hb => ?_
    rw [decide_eq_decide, List.mem_filter, decide_eq_true_eq]
    exact ⟨fun h => ⟨hb, h⟩, fun h => h.2⟩
  · obtain ⟨a1, a2, _⟩ := walk w 0 0 pos N0 (by rw [z0]) hw
    rw [inM a2]
    exact trM a1
/-- a member that is led to is led to by few signs -/
theorem short_leads {M : Nat} (lt : ∀ n, n < M → ∀ c ∈ sg, δ n c < M) {n : Nat} (hn : n < M) : ∀ (w : List Str), (∀ c ∈ w, c ∈ sg) → run δ n w ∈ mem → ∃ v : List Str, v.length + 1 ≤ M ∧ (∀ c ∈ v, c ∈ sg) ∧ run δ n v ∈ mem := fun w => by
  induction hl : w.length using Nat.strongRecOn generalizing w with
  | ind l ih =>
    intro hw hm
    by_cases c : l + 1 ≤ M
    · exact ⟨w, by omega, hw, hm⟩
    · have ex : ∃ i j, i < j ∧ j ≤ w.length ∧ run δ n (w.take i) = run δ n (w.take j) := Classical.byContradiction fun z => by
        have nd : ((List.range (w.length + 1)).map fun i => run δ n (w.take i)).Nodup := by
          rw [List.nodup_iff_pairwise_ne, List.pairwise_iff_getElem]
          intro i j hi hj hij e
          rw [List.length_map, List.length_range] at hi hj
          rw [List.getElem_map, List.getElem_map, List.getElem_range, List.getElem_range] at e
          exact z ⟨i, j, hij, by omega, e⟩
        have := nodup_len (N := M) nd fun x hx => by
          obtain ⟨i, _, rfl⟩ := List.mem_map.mp hx
          exact run_lt lt _ n hn fun c hc => hw c (List.mem_of_mem_take hc)
        rw [List.length_map, List.length_range] at this
        omega
      obtain ⟨i, j, hij, hj, e⟩ := ex
      refine ih (w.take i ++ w.drop j).length ?_ (w.take i ++ w.drop j) rfl (fun c hc => ?_) ?_
      · rw [List.length_append, List.length_take, List.length_drop]
        omega
      · rcases List.mem_append.mp hc with h | h
        · exact hw c (List.mem_of_mem_take h)
        · exact hw c (List.mem_of_mem_drop h)
      · rw [run_app, e, ← run_app, List.take_append_drop]
        exact hm
/-- every state stands twice -/
theorem twice_run {N : Nat} {ε : Nat → Str → Nat} (lt : ∀ n, n < N → ∀ c ∈ sg, δ n c < N) (h : ∀ n, n < 2 * N → ∀ c ∈ sg, ε n c % N = δ (n % N) c ∧ ε n c < 2 * N) : ∀ (w : List Str) (n : Nat), n < 2 * N → (∀ c ∈ w, c ∈ sg) → run ε n w % N = run δ (n % N) w ∧ run ε n w < 2 * N
  | [], n, hn, _ => ⟨rfl, hn⟩
  | c :: w, n, hn, hw => by
    obtain ⟨h1, h2⟩ := h n hn c (hw c List.mem_cons_self)
    rw [run_cons, run_cons, ← h1]
    exact twice_run lt h w _ h2 fun c' h' => hw c' (List.mem_cons_of_mem _ h')
end
end Sl
/-! ## L1 -/
set_option Elab.async false
set_option linter.all false
set_option maxRecDepth 100000
set_option maxHeartbeats 4000000
set_option pp.maxSteps 1500
set_option pp.deepTerms false
/-! check_state; a language's moves, members, live states, length -/
namespace Sl
open PySem PySem.Spec PyProof.Rows L2
abbrev sCheckState : Stmt := top 24
abbrev sMoveL : Stmt := inClass (top 37) 6
abbrev sMember : Stmt := inClass (top 37) 7
abbrev sIsLive : Stmt := inClass (top 37) 8
abbrev sLenL : Stmt := inClass (top 37) 9
def spCheckState : Sp := fun vs H Q _ => ∃ (i n : Int), vs = [.int i, .int n] ∧ 0 ≤ i ∧ i < n ∧ Q .non H
def spMoveL (C : Addr) : Sp := fun vs H Q _ => ∃ (p : Addr) (n : Nat) (c z : Str) (M : Nat) (δ : Nat → Str → Nat) (found live : List Nat), vs = [.ref p, .int (n : Nat), .str c] ∧ LangAt C H p z M δ found live ∧ n < M ∧ Q (if c ∈ sgL z then .int (δ n c : Nat) else .non) H
def spMember (C : Addr) : Sp := fun vs H Q _ => ∃ (p : Addr) (n : Nat) (z : Str) (M : Nat) (δ : Nat → Str → Nat) (found live : List Nat), vs = [.ref p, .int (n : Nat)] ∧ LangAt C H p z M δ found live ∧ n < M ∧ Q (.bl (decide (n ∈ found))) H
def spIsLive (C : Addr) : Sp := fun vs H Q _ => ∃ (p : Addr) (n : Nat) (z : Str) (M : Nat) (δ : Nat → Str → Nat) (found live : List Nat), vs = [.ref p, .int (n : Nat)] ∧ LangAt C H p z M δ found live ∧ n < M ∧ Q (.bl (decide (n ∈ live))) H
def spLenL (C : Addr) : Sp := fun vs H Q _ => ∃ (p : Addr) (z : Str) (M : Nat) (δ : Nat → Str → Nat) (found live : List Nat), vs = [.ref p] ∧ LangAt C H p z M δ found live ∧ Q (.int (M : Nat)) H
theorem row_no {d : Str → Nat} {c : Str} : ∀ {sg : List Str}, c ∉ sg → valV (rowD sg d) (keyC c) = none
  | [], _ => rfl
  | a :: sg, h => by
    show valV ((keyC a, V.int (d a : Nat)) :: rowD sg d) (keyC c) = _
    rw [valV_neg (fun z => h (by unfold keyC at z; injection z with z; rw [z]; exact List.mem_cons_self))]
    exact row_no fun z => h (List.mem_cons_of_mem _ z)
section
variable {P : Program} {w : World} {K : PySem.W.Frag} {mg : Str → Option Value} {base : Heap}
theorem scCheckState : FnScope ["value", "many"] ["value", "many"] (defScope sCheckState) := ⟨rfl, rfl, rfl, by decide +kernel, rfl, by decide +kernel, by decide +kernel⟩
theorem ok_checkstate {f fB : Addr} {fd fdB : FuncData} (F : Fun K "check_state" "check_state" sCheckState f fd) (aB : At K mg "is_below" fB fdB ["value", "limit"] []) (gB : FnOk P w K mg base CX0 2 fB fdB ["value", "limit"] (spBelow K)) :
    FnOk P w K mg base CX0 3 f fd ["value", "many"] spCheckState := by
  refine F.ok scCheckState (fun vs H Q E h => ?_) (fun cdv A0 outer s H vs Q E hr h => ?_)
  · obtain ⟨i, n, rfl, _⟩ := h
    rfl
  · obtain ⟨i, n, rfl, h0, h1, q⟩ := h
    refine ⟨_, pss_one (ps_if (pt_not (pt_val (pe_call gB hr (by rfl) aB.g aB.kp aB.b .nil pass0 (pa_cons (pv 0) (pa_cons (pv 1) pa_nil))))) pss_dead pss_nil), ?_⟩
    refine ⟨_, rfl, _, rfl, .int i, n, rfl, .inl ⟨i, rfl⟩, ?_⟩
    have e : below (.int i) n = true := by
      unfold below
      simp [h0, h1]
    rw [e]
    exact ⟨true, rfl, iteF q⟩
theorem scMoveL : FnScope ["self", "state", "sign"] ["self", "state", "sign"] (defScope sMoveL) := ⟨rfl, rfl, rfl, by decide +kernel, rfl, by decide +kernel, by decide +kernel⟩
theorem ok_moveL {f C fS : Addr} {fd fdS : FuncData} (F : Fun K "move" "Language.move" sMoveL f fd) (T : LgC K C) (aS : At K mg "check_state" fS fdS ["value", "many"] []) (gS : FnOk P w K mg base CX0 3 fS fdS ["value", "many"] spCheckState) (zn : mg "len" = none) :
    FnOk P w K mg base CX0 4 f fd ["self", "state", "sign"] (spMoveL C) := by
  refine F.ok scMoveL (fun vs H Q E h => ?_) (fun cdv A0 outer s H vs Q E hr h => ?_)
  · obtain ⟨p, n, c, z, M, δ, found, live, rfl, _⟩ := h
    rfl
  · obtain ⟨p, n, c, z, M, δ, found, live, rfl, LA, nM, q⟩ := h
    obtain ⟨dx, fs, L, rs, Me, Li, hp, f1, f2, hL, lrs, hrs, f3, hMe, _⟩ := LA.ex
    refine ⟨_, pss_cons (ps_expr (pe_call gS hr (by rfl) aS.g aS.kp aS.b .nil pass0 (pa_cons (pv 1) (pa_cons (pe_callB call_len_seq (by rfl) zn PySem.boot_len (pa_cons (pe_fld (pv 0) rfl) pa_nil)) pa_nil))))
      (pss_one (ps_ret (pe_dget1 (hu_of hr) (pe_ix ix_list (pe_fld (pv 0) rfl) (pv 1) (fun _ _ => rfl)) (pv 2) ⟨rfl, rfl, rfl, rfl⟩))), ?_⟩
    refine ⟨_, rfl, _, rfl, p, C, dx, _, _, rfl, hp, T.cl, T.nS, f2, L, _, rfl, .inl (SqL.of hL), (n : Int), _, rfl, by omega, by rw [List.length_map]; omega, ?_⟩
    obtain ⟨r, hr'⟩ : ∃ r, rs[n]? = some r := ⟨_, List.getElem?_eq_getElem (by omega)⟩
    have hrow := hrs n r hr'
    have g : DGet H r (.str c) (if c ∈ sgL z then some (.int (δ n c : Nat)) else none) := by
      have e : valV (rowD (sgL z) (δ n)) (keyC c) = if c ∈ sgL z then some (.int (δ n c : Nat)) else none := by
        by_cases h : c ∈ sgL z
        · rw [if_pos h, row_val h]
        · rw [if_neg h, row_no h]
      rw [← e]
      exact DGet.k (k := keyC c) hrow
    refine ⟨_, rfl, p, C, dx, _, _, rfl, hp, T.cl, T.nS, f2, _, rfl, L, _, _, _, rfl, rfl, SqL.of hL, atI_nat (by rw [List.getElem?_map, hr']; rfl), r, rfl, .inl ⟨_, Rd.of hrow⟩, _, rfl, _, g, ?_⟩
    by_cases h : c ∈ sgL z
    · rw [if_pos h] at q ⊢
      exact q
    · rw [if_neg h] at q ⊢
      exact q
theorem scMember : FnScope ["self", "state"] ["self", "state"] (defScope sMember) := ⟨rfl, rfl, rfl, by decide +kernel, rfl, by decide +kernel, by decide +kernel⟩
theorem ok_member {f C fS : Addr} {fd fdS : FuncData} (F : Fun K "is_member" "Language.is_member" sMember f fd) (T : LgC K C) (aS : At K mg "check_state" fS fdS ["value", "many"] []) (gS : FnOk P w K mg base CX0 3 fS fdS ["value", "many"] spCheckState) (zn : mg "len" = none) :
    FnOk P w K mg base CX0 4 f fd ["self", "state"] (spMember C) := by
  refine F.ok scMember (fun vs H Q E h => ?_) (fun cdv A0 outer s H vs Q E hr h => ?_)
  · obtain ⟨p, n, z, M, δ, found, live, rfl, _⟩ := h
    rfl
  · obtain ⟨p, n, z, M, δ, found, live, rfl, LA, nM, q⟩ := h
    obtain ⟨dx, fs, L, rs, Me, Li, hp, f1, f2, hL, lrs, hrs, f3, hMe, _⟩ := LA.ex
    refine ⟨_, pss_cons (ps_expr (pe_call gS hr (by rfl) aS.g aS.kp aS.b .nil pass0 (pa_cons (pv 1) (pa_cons (pe_callB call_len_seq (by rfl) zn PySem.boot_len (pa_cons (pe_fld (pv 0) rfl) pa_nil)) pa_nil))))
      (pss_one (ps_ret (pe_cmpR op_in_seq (pv 1) (pe_fld (pv 0) rfl) (by rfl)))), ?_⟩
    refine ⟨_, rfl, _, rfl, p, C, dx, _, _, rfl, hp, T.cl, T.nS, f2, L, _, rfl, .inl (SqL.of hL), (n : Int), _, rfl, by omega, by rw [List.length_map]; omega, ?_⟩
    refine ⟨_, rfl, _, rfl, p, C, dx, _, _, rfl, hp, T.cl, T.nM, f3, Me, _, rfl, .inr (SqT.of hMe), rfl, flat_nats _, ?_⟩
    rw [if_neg Bool.false_ne_true, inV_nat]
    exact q
theorem scIsLive : FnScope ["self", "state"] ["self", "state"] (defScope sIsLive) := ⟨rfl, rfl, rfl, by decide +kernel, rfl, by decide +kernel, by decide +kernel⟩
theorem ok_islive {f C fS : Addr} {fd fdS : FuncData} (F : Fun K "is_live" "Language.is_live" sIsLive f fd) (T : LgC K C) (aS : At K mg "check_state" fS fdS ["value", "many"] []) (gS : FnOk P w K mg base CX0 3 fS fdS ["value", "many"] spCheckState) (zn : mg "len" = none) :
    FnOk P w K mg base CX0 4 f fd ["self", "state"] (spIsLive C) := by
  refine F.ok scIsLive (fun vs H Q E h => ?_) (fun cdv A0 outer s H vs Q E hr h => ?_)
  · obtain ⟨p, n, z, M, δ, found, live, rfl, _⟩ := h
    rfl
  · obtain ⟨p, n, z, M, δ, found, live, rfl, LA, nM, q⟩ := h
    obtain ⟨dx, fs, L, rs, Me, Li, hp, f1, f2, hL, lrs, hrs, f3, hMe, f4, hLi, _⟩ := LA.ex
    refine ⟨_, pss_cons (ps_expr (pe_call gS hr (by rfl) aS.g aS.kp aS.b .nil pass0 (pa_cons (pv 1) (pa_cons (pe_callB call_len_seq (by rfl) zn PySem.boot_len (pa_cons (pe_fld (pv 0) rfl) pa_nil)) pa_nil))))
      (pss_one (ps_ret (pe_cmpR op_in_seq (pv 1) (pe_fld (pv 0) rfl) (by rfl)))), ?_⟩
    refine ⟨_, rfl, _, rfl, p, C, dx, _, _, rfl, hp, T.cl, T.nS, f2, L, _, rfl, .inl (SqL.of hL), (n : Int), _, rfl, by omega, by rw [List.length_map]; omega, ?_⟩
    refine ⟨_, rfl, _, rfl, p, C, dx, _, _, rfl, hp, T.cl, T.nL, f4, Li, _, rfl, .inl (SqL.of hLi), rfl, flat_nats _, ?_⟩
    rw [if_neg Bool.false_ne_true, inV_nat]
    exact q
theorem scLenL : FnScope ["self"] ["self"] (defScope sLenL) := ⟨rfl, rfl, rfl, by decide +kernel, rfl, by decide +kernel, by decide +kernel⟩
theorem ok_lenL {f C : Addr} {fd : FuncData} (F : Fun K "__len__" "Language.__len__" sLenL f fd) (T : LgC K C) (zn : mg "len" = none) : FnOk P w K mg base CX0 1 f fd ["self"] (spLenL C) := by
  refine F.ok scLenL (fun vs H Q E h => ?_) (fun cdv A0 outer s H vs Q E hr h => ?_)
  · obtain ⟨p, z, M, δ, found, live, rfl, _⟩ := h
    rfl
  · obtain ⟨p, z, M, δ, found, live, rfl, LA, q⟩ := h
    obtain ⟨dx, fs, L, rs, Me, Li, hp, f1, f2, hL, lrs, _⟩ := LA.ex
    refine ⟨_, pss_one (ps_ret (pe_callB call_len_seq (by rfl) zn PySem.boot_len (pa_cons (pe_fld (pv 0) rfl) pa_nil))), ?_⟩
    refine ⟨_, rfl, p, C, dx, _, _, rfl, hp, T.cl, T.nS, f2, L, _, rfl, .inl (SqL.of hL), ?_⟩
    rw [List.length_map, lrs]
    exact q
end
end Sl
/-! ## L2 -/
set_option Elab.async false
set_option linter.all false
set_option maxRecDepth 100000
set_option maxHeartbeats 4000000
set_option pp.maxSteps 1500
set_option pp.deepTerms false
/-! a language's own == -/
namespace Sl
open PySem PySem.Spec PyProof.Rows L2
abbrev sEqL : Stmt := inClass (top 37) 11
theorem nats_dp {K : PySem.W.Frag} {H : Hp} : ∀ l : List Nat, DpAll K H (l.map fun n => V.int (n : Nat)) (l.map fun n => PyData.int (n : Nat))
  | [] => .nil
  | n :: l => .cons (.int n) (nats_dp l)
theorem nats_can : ∀ l : List Nat, PyData.canLayAll0 (l.map fun n => PyData.int (n : Nat)) = true ∧ PyData.depthAll (l.map fun n => PyData.int (n : Nat)) ≤ 4
  | [] => ⟨rfl, by simp [PyData.depthAll]⟩
  | n :: l => by
    obtain ⟨k1, k2⟩ := nats_can l
    refine ⟨?_, ?_⟩
    · show (PyData.canLay0 (.int (n : Nat)) && PyData.canLayAll0 (l.map fun n => PyData.int (n : Nat))) = true
      rw [k1, Bool.and_true]
      simp [PyData.canLay0]
    · simp only [List.map_cons, PyData.depthAll, PyData.depth]
      omega
theorem nats_shaped (l : List Nat) : SeqAt.shaped (.tuple (l.map fun n => PyData.int (n : Nat))) = true := by
  obtain ⟨k1, k2⟩ := nats_can l
  have c0 : PyData.canLay0 (.tuple (l.map fun n => PyData.int (n : Nat))) = true := by
    rw [PyData.canLay0]
    exact k1
  show (PyData.canLay0 _ && decide _) = true
  rw [c0, Bool.true_and, decide_eq_true_eq]
  simp only [PyData.depth]
  omega
theorem nats_eqv : ∀ a : List Nat, PyData.eqvAll (a.map fun n => PyData.int (n : Nat)) (a.map fun n => PyData.int (n : Nat)) = true
  | [] => rfl
  | x :: a => by
    simp only [List.map_cons, PyData.eqvAll, nats_eqv a, Bool.and_true]
    simp [PyData.eqv]
theorem paired_get {α β : Type} {R : α → β → Prop} : ∀ {xs : List α} {ys : List β}, xs.length = ys.length → (∀ (i : Nat) (x : α) (y : β), xs[i]? = some x → ys[i]? = some y → R x y) → Paired R xs ys
  | [], [], _, _ => .nil
  | x :: xs, y :: ys, h, k => .cons (k 0 x y rfl rfl) (paired_get (Nat.succ.inj h) fun i a b ha hb => k (i + 1) a b ha hb)
  | [], _ :: _, h, _ => nomatch h
  | _ :: _, [], h, _ => nomatch h
theorem rows_eqV {K : PySem.W.Frag} {H : Hp} {rs rs' : List Addr} {sg : List Str} {δ δ' : Nat → Str → Nat} (l : rs.length = rs'.length) (a : RowsD H rs sg δ) (b : RowsD H rs' sg δ') (e : ∀ i, i < rs.length → ∀ c ∈ sg, δ i c = δ' i c) : Paired (EqV K H 2) (rs.map V.ref) (rs'.map V.ref) := by
  refine paired_get (by rw [List.length_map, List.length_map, l]) fun i x y hx hy => ?_
  obtain ⟨r, hr, rfl⟩ := at_map hx
  obtain ⟨r', hr', rfl⟩ := at_map hy
  have li := (List.getElem?_eq_some_iff.mp hr).1
  refine .inr (.inr (.inr ⟨r, r', _, _, rfl, rfl, a i r hr, b i r' hr', by unfold rowD; rw [List.length_map, List.length_map], fun p hp => ?_⟩))
  obtain ⟨c, hc, rfl⟩ := List.mem_map.mp hp
  refine ⟨_, row_val hc, .inl ⟨?_, rfl⟩⟩
  show V.int (δ i c : Nat) = V.int (δ' i c : Nat)
  rw [e i li c hc]
def spEqL (K : PySem.W.Frag) (C : Addr) : Sp := fun vs H Q _ => ∃ (p q : Addr) (z : Str) (M : Nat) (δ δ' : Nat → Str → Nat) (found live live' : List Nat), vs = [.ref p, .ref q] ∧ LangAt C H p z M δ found live ∧ LangAt C H q z M δ' found live' ∧ (∀ i, i < M → ∀ c ∈ sgL z, δ i c = δ' i c) ∧ Q (.bl true) H
section
variable {P : Program} {w : World} {K : PySem.W.Frag} {mg : Str → Option Value} {base : Heap}
theorem scEqL : FnScope ["self", "other"] ["self", "other"] (defScope sEqL) := ⟨rfl, rfl, rfl, by decide +kernel, rfl, by decide +kernel, by decide +kernel⟩
theorem ok_eqL {f C : Addr} {fd : FuncData} (F : Fun K "__eq__" "Language.__eq__" sEqL f fd) (T : LgC K C) (iC : C8.InsC K C) (gC : mg "Language" = some (.ref C)) (zz : mg "isinstance" = none) :
    FnOk P w K mg base CX0 1 f fd ["self", "other"] (spEqL K C) := by
  refine F.ok scEqL (fun vs H Q E h => ?_) (fun cdv A0 outer s H vs Q E hr h => ?_)
  · obtain ⟨p, q, z, M, δ, δ', found, live, live', rfl, _⟩ := h
    rfl
  · obtain ⟨p, q, z, M, δ, δ', found, live, live', rfl, LA, LB, ee, k⟩ := h
    have hu0 := hr.units
    obtain ⟨dx, fs, L, rs, Me, Li, hp, f1, f2, hL, lrs, hrs, f3, hMe, _⟩ := LA.ex
    obtain ⟨dy, gs, L', rs', Me', Li', hq, g1, g2, hL', lrs', hrs', g3, hMe', _⟩ := LB.ex
    refine ⟨_, pss_cons (ps_if (pt_not (pt_val (pe_callB call_isi (by rfl) zz (by decide +kernel) (pa_cons (pv 1) (pa_cons (pe_glob (v := .ref C) (by rfl) gC (show RelV (V.ref C) (Value.ref C) from rfl)) pa_nil))))) (pss_one (ps_ret pe_bl)) pss_nil)
      (pss_one (ps_ret (pe_and (pe_cmpR op_eq (pe_fld (pv 0) rfl) (pe_fld (pv 1) rfl) (nomark _))
        (pe_and (pe_cmpR (op_eqV hu0) (pe_fld (pv 0) rfl) (pe_fld (pv 1) rfl) (nomark _))
        (pe_one (pe_cmpR (op_eqD hu0) (pe_fld (pv 0) rfl) (pe_fld (pv 1) rfl) (nomark _))))))), ?_⟩
    refine ⟨_, rfl, .ref q, .ref C, .ref C, .ref C, true, rfl, .own C, .base (TyOf.ins hq iC.cl iC.ha iC.hn iC.htk iC.hm), iC.me, true, rfl, iteF ?_⟩
    refine ⟨_, rfl, p, C, dx, fs, _, rfl, hp, T.cl, T.nG, f1, _, rfl, q, C, dy, gs, _, rfl, hq, T.cl, T.nG, g1, rfl, ?_⟩
    have e1 : decide (V.str z = V.str z) = true := decide_eq_true rfl
    rw [e1]
    refine ⟨_, rfl, iteT ?_⟩
    refine ⟨_, rfl, p, C, dx, fs, _, rfl, hp, T.cl, T.nS, f2, _, rfl, q, C, dy, gs, _, rfl, hq, T.cl, T.nS, g2, 2, by decide, .inl ⟨L, L', _, _, rfl, rfl, SqL.of hL, SqL.of hL', rows_eqV (by rw [lrs, lrs']) hrs hrs' (by rw [lrs]; exact ee)⟩, ?_⟩
    refine ⟨_, rfl, iteT ?_⟩
    refine ⟨_, rfl, p, C, dx, fs, _, rfl, hp, T.cl, T.nM, f3, _, rfl, q, C, dy, gs, _, rfl, hq, T.cl, T.nM, g3, .tuple _, .tuple _, .tup (SqT.of hMe) (nats_dp found), .tup (SqT.of hMe') (nats_dp found), nats_shaped found, nats_shaped found, ?_⟩
    have e2 : PyData.eqv (.tuple (found.map fun n => PyData.int (n : Nat))) (.tuple (found.map fun n => PyData.int (n : Nat))) = true := by
      simp only [PyData.eqv, nats_eqv]
    rw [e2]
    exact k
end
end Sl
/-! ## Q7 -/
set_option Elab.async false
set_option linter.all false
set_option maxRecDepth 100000
set_option maxHeartbeats 4000000
/-! repr of what is nested; defs that call it: nothing is being shown around them -/
namespace Sl
open PySem PySem.Spec PyProof.Rows L2
/-- as FnOk, where nothing is being shown around the call -/
structure FnG (P : Program) (w : World) (K : PySem.W.Frag) (mg : Str → Option Value) (base : Heap) (CX : CXT) (k : Nat) (f : Addr) (fd : FuncData) (ps : List Str) (sp : Sp) : Prop where
  len : ∀ vs H Q E, sp vs H Q E → vs.length = ps.length
  run : ∀ (A : Around) (outer : List Env) (s : Shared) (H : Hp) (args : Args) (us : List Value) (vs : List V) (Q : VK) (E : XK), A.guards = some [] → Room k A → Env0 P w K mg base A outer s H → BindsTo s fd args (ps.zip us) → Vals vs us → sp vs H Q E →
    codeAny (model P w) A (.call (.ref f) args) (CR CX outer P w H s Q E) s
theorem deeper_guards {A : Around} (env : Env) (g : A.guards = some []) : (A.deeper env).guards = some [] := by
  show A.guards = some []
  exact g
section
variable {P : Program} {w : World} {K : PySem.W.Frag} {mg : Str → Option Value} {base : Heap}
theorem Fun.okG {CX : CXT} {x qual : Str} {st : Stmt} {f : Addr} {fd : FuncData} {N ps : List Str} {k : Nat} {sp : Sp} (F : Fun K x qual st f fd) (S : FnScope N ps (defScope st)) (len : ∀ vs H Q E, sp vs H Q E → vs.length = ps.length)
    (hbody : ∀ (cdv : Value) (A : Around) (outer : List Env) (s : Shared) (H : Hp) (vs : List V) (Q : VK) (E : XK), (A.deeper (envOfC qual (defScope st) s.heap.objs.size f cdv)).guards = some [] → Room k (A.deeper (envOfC qual (defScope st) s.heap.objs.size f cdv)) → sp vs H Q E →
      ∃ t, PSs (cxOf CX P w K mg base N qual (defScope st) f cdv A outer s H E) (defBody st) t ∧ t { nx := fun _ H' => Q .non H', rt := Q } (start N vs) H) : FnG P w K mg base CX (k + 1) f fd ps sp := by
  obtain ⟨oc, od, kV, doc, pm, an, cdv, ct, osl, rfl, lk, hcd⟩ := F.ex
  refine ⟨len, fun A outer s H args us vs Q E hg hr e0 hb r hsp => ?_⟩
  have hl := len _ _ _ _ hsp
  have kin : K.In s.heap := e0.mod.kin.keeps fun b o e => (e0.bs b o e).1
  have lim : s.heap.NoLimit := e0.mod.nolimit.keeps fun b o e => (e0.bs b o e).1
  refine codeAny_call_function hr.depth (kin _ _ lk) rfl S.co S.gen rfl (PySem.W.codeRec_of kin hcd) (hb _ _ _ _ ?_)
  refine wpAny_newFunctionEnv_cells S.kind (fun ⟨n, v⟩ hy => ?_) fun env he s1 x => ?_
  · rcases S.par n (List.of_mem_zip hy).1 with q | q
    · exact .inl q
    · exact .inr ⟨q, PySem.W.cellsFrom_some _ _ _ (.inl q)⟩
  subst he
  refine ⟨lim.keeps x.toInCall.keep, codeAny_func ?_⟩
  obtain ⟨t, ht, hq⟩ := hbody cdv A outer s H vs Q E (deeper_guards _ hg) (hr.deeper _) hsp
  have I : L2.Inv (cxOf CX P w K mg base N qual (defScope st) f cdv A outer s H E) [] (start N vs) H s1 := inv_start S hr.hd e0 hl r x
  refine wpAny_mono (ht.run [] s1 (start N vs) H _ I hq) (fun fl s' hs => ?_) fun e s' hs => hs
  have fin : ∀ {σ' : L2.St} {H' : Hp} {v : V} {u : Value}, L2.Inv (cxOf CX P w K mg base N qual (defScope st) f cdv A outer s H E) [] σ' H' s' → L2.RelV v u → Q v H' → CE outer P w H s Q u s' :=
    fun {σ' H' v u} J rv q => ⟨v, H', J.os, J.bare, J.base, J.hok, rv, q⟩
  cases fl with
  | ret u =>
    obtain ⟨v, σ', H', J, rv, q⟩ := hs
    exact fin J rv q
  | next =>
    obtain ⟨σ', H', J, q⟩ := hs
    exact fin (v := V.non) (u := Value.none) J rfl q
  | brk =>
    obtain ⟨_, _, _, q⟩ := hs
    exact q.elim
  | cont =>
    obtain ⟨_, _, _, q⟩ := hs
    exact q.elim
end
section
variable {X : Cx} {CX : CXT} {k : Nat} {f : Addr} {fd : FuncData} {ps : List Str} {sp : Sp} {E : XK} {x : Str} {p pos : Pos} {e : Expr} {es : List Expr} {t : TA}
theorem pe_callG (G : FnG X.prog X.w X.K X.mg X.base CX k f fd ps sp) (gd : X.A.guards = some []) (hr : Room k X.A) (hg : Gl X x) (hm : X.mg x = some (.ref f)) (hk : PySem.W.keepIn X.K (.ref f) = true) (hb : L2.Binds X.K fd ps []) (hx : Passes CX X E)
    (ha : PA X (e :: es) t) (hdb : (x == ("__debug__" : Str)) = false := by decide) (he : starEach (e :: es) X.env = (false, eval e X.env) :: starEach es X.env := by rfl) (hpl : (backTo pos (starEach es X.env)).any (·.1) = false := by rfl) :
    PE X (.Call (.Name x p) (e :: es) [] pos) (tCall sp [] E t) := by
  refine ⟨fun pins s σ H Q I h => ?_⟩
  refine wpAny_Call_Name_kw (ld_glob I hg hm ?_ hdb)
  refine PySem.W.callWith_K (h₀ := X.base) I.ok.mod.kin hk (thn (ha.run pos pins s σ H _ I h) fun us s1 ⟨vs, H1, I1, r, q⟩ => ⟨I1.kIn, ?_⟩) he hpl
  have q : sp (vs ++ []) H1 _ E := q
  rw [List.append_nil] at q
  have hl : us.length = ps.length := by rw [← r.length]; exact G.len _ _ _ _ q
  have b := hb s1 us I1.kIn (by rw [List.append_nil]; exact hl)
  rw [List.append_nil] at b
  refine wpAny_call (codeAny_mono (G.run X.A X.stack s1 H1 ⟨us, []⟩ us vs _ E gd hr I1.env0 b r q) fun c s' hq => ?_)
  cases c with
  | error er => exact hx pins σ H1 s1 er s' I1 hq
  | ok fl =>
    cases fl with
    | ret u => exact I1.after hq
    | next => exact hq.elim
    | brk => exact hq.elim
    | cont => exact hq.elim
/-- repr of a list or tuple, however nested, without dicts -/
def rShown (K : PySem.W.Frag) : List V → Hp → VK → Prop := fun xs H Q => ∃ (a : Addr) (d : PyData), xs = [.ref a] ∧ Dp K H (.ref a) d ∧ d.showable = true ∧ d.hasDict = false ∧ d.depth ≤ 60 ∧ d.shown.length ≤ sizeLine ∧ Q (.str d.shown) H
theorem cr_shown (gd : X.A.guards = some []) (hu : X.A.units + 64 < cLine) : CallR X (.builtin "repr") (rShown X.K) := by
  intro pins s σ H xs us Q I r h
  obtain ⟨a, d, rfl, hd, sh, nd, dp, sz, q⟩ := h
  cases r with
  | cons ru rn =>
    cases rn
    obtain ⟨as, rd⟩ := Dp.reads I d _ _ hd ru
    cases ru
    exact repr_of_reads' rd sh (PyData.noDict_hsm nd) gd (by omega) (fun _ _ z => z) (fun h' u tk kk => ⟨.str d.shown, H, I.kept (t' := tk) kk, ⟨_, rfl⟩, q⟩) sz
end
end Sl
/-! ## L3 -/
set_option Elab.async false
set_option linter.all false
set_option maxRecDepth 100000
set_option maxHeartbeats 4000000
set_option pp.maxSteps 1500
set_option pp.deepTerms false
/-! rows of numbers as data; a language's own repr -/
namespace Sl
open PySem PySem.Spec PyProof.Rows L2
abbrev sReprL : Stmt := inClass (top 37) 12
def rowPD (sg : List Str) (d : Str → Nat) : PyData := .dict (sg.map fun c => (PyData.str c, PyData.int (d c : Nat)))
def rowsPD (sg : List Str) (δ : Nat → Str → Nat) (M : Nat) : PyData := .list ((List.range M).map fun b => rowPD sg (δ b))
def endsPD (l : List Nat) : PyData := .tuple (l.map fun n => PyData.int (n : Nat))
section
variable {X : Cx} {pins : List (Addr × Obj)} {σ : L2.St} {H : Hp} {s : Shared}
theorem rowkv_reads (I : Inv X pins σ H s) {d : Str → Nat} : ∀ {sg : List Str} {es : List DictEntry} {vs : List (Key × Value)}, Pairs (mixKind X.prog X.w) es vs → KV (rowD sg d) vs →
    ReadsAll s.heap (es.map (·.key)) ((sg.map fun c => (PyData.str c, PyData.int (d c : Nat))).map (·.1)) [] ∧ ReadsAll s.heap (es.map (·.val)) ((sg.map fun c => (PyData.str c, PyData.int (d c : Nat))).map (·.2)) []
  | [], es, vs, p, kv => by
    cases kv
    cases p
    exact ⟨.nil, .nil⟩
  | z :: sg, es, vs, p, kv => by
    cases kv with
    | @cons _ b _ vs' h1 kv =>
      obtain ⟨k, v⟩ := b
      obtain ⟨k1, k2⟩ := h1
      have k1 : (Sum.inr z : Key) = k := k1
      obtain ⟨t2, k2⟩ : ∃ t, v = Value.int (d z : Nat) t := k2
      subst k1
      subst k2
      cases p with
      | @cons e0 _ es' _ h2 h3 p =>
        obtain ⟨i1, i2⟩ := rowkv_reads I p kv
        have h3 : e0.val = Value.int (d z : Nat) t2 := h3
        rcases keyIs_shape (show keyIs (Sum.inr z) e0.key = true from h2) with ⟨i, tk, e1, e2⟩ | ⟨x, tk, e1, e2⟩
        · cases e1
        · have e1 : z = x := Sum.inr.inj e1
          subst e1
          refine ⟨?_, ?_⟩
          · show ReadsAll s.heap (e0.key :: es'.map (·.key)) (PyData.str z :: (sg.map fun c => (PyData.str c, PyData.int (d c : Nat))).map (·.1)) ([] ++ [])
            rw [e2]
            exact .cons (.str z tk) i1
          · show ReadsAll s.heap (e0.val :: es'.map (·.val)) (PyData.int (d z : Nat) :: (sg.map fun c => (PyData.str c, PyData.int (d c : Nat))).map (·.2)) ([] ++ [])
            rw [h3]
            exact .cons (.int _ t2) i2
theorem rowPD_reads (I : Inv X pins σ H s) {r : Addr} {sg : List Str} {d : Str → Nat} (e : H r = some (.dK (rowD sg d))) : Reads s.heap (.ref r) (rowPD sg d) [r] := by
  obtain ⟨_, _, vs, kv, o, es, ep, ho, ⟨hc, _⟩, hdat, _, hp, _⟩ := dk_of I.hok e
  obtain ⟨h1, h2⟩ := rowkv_reads I hp kv
  exact .dict ho hc hdat h1 h2
theorem rowsPD_all (I : Inv X pins σ H s) {sg : List Str} {δ : Nat → Str → Nat} : ∀ (rs : List Addr) (k : Nat), (∀ (i : Nat) (r : Addr), rs[i]? = some r → H r = some (.dK (rowD sg (δ (k + i))))) → ReadsAll s.heap (rs.map Value.ref) ((List.range' k rs.length).map fun b => rowPD sg (δ b)) rs
  | [], _, _ => .nil
  | r :: rs, k, h => by
    have a := rowPD_reads I (h 0 r rfl)
    have b := rowsPD_all I rs (k + 1) fun i r' e => by
      have := h (i + 1) r' e
      rwa [show k + (i + 1) = k + 1 + i by omega] at this
    exact .cons a b
theorem rowsPD_reads (I : Inv X pins σ H s) {L : Addr} {rs : List Addr} {sg : List Str} {δ : Nat → Str → Nat} (hL : SqL X.K H L (rs.map V.ref)) (a : RowsD H rs sg δ) : Reads s.heap (.ref L) (rowsPD sg δ rs.length) (L :: rs) := by
  obtain ⟨us, r, ⟨o, n, e, hc, _, hd⟩, _⟩ := I.list hL
  have k : us = rs.map Value.ref := by
    have go : ∀ {rs : List Addr} {us : List Value}, Vals (rs.map V.ref) us → us = rs.map Value.ref := fun {rs} => by
      induction rs with
      | nil => intro us r; cases r; rfl
      | cons a l ih =>
        intro us r
        cases r with
        | cons r1 r2 =>
          cases r1
          rw [ih r2]
          rfl
    exact go r
  subst k
  refine .list e hc hd ?_
  rw [List.range_eq_range']
  exact rowsPD_all I rs 0 fun i r h => by
    rw [Nat.zero_add]
    exact a i r h
theorem rowsD_sys (sys : ∃ o, X.base.get? sysModules = some o) (I : Inv X pins σ H s) {L : Addr} {rs : List Addr} {sg : List Str} {δ : Nat → Str → Nat} (hL : H L ≠ none) (a : RowsD H rs sg δ) : sysModules ∉ L :: rs := by
  obtain ⟨o0, ls⟩ := sys
  have hs : H sysModules = none := (I.bs _ _ ls).2
  intro hm
  rcases List.mem_cons.mp hm with c | c
  · rw [← c] at hL
    exact hL hs
  · obtain ⟨i, hi⟩ := List.getElem?_of_mem c
    have := a i _ hi
    rw [hs] at this
    cases this
/-- {x!r} of a list of rows; of a tuple of numbers -/
def tRowsR (te : TE) : TE := fun σ H Q => te σ H fun x H1 => ∃ (L : Addr) (rs : List Addr) (sg : List Str) (δ : Nat → Str → Nat), x = .ref L ∧ H1 L = some (.lst (rs.map V.ref)) ∧ RowsD H1 rs sg δ ∧ (rowsPD sg δ rs.length).showable = true ∧ (rowsPD sg δ rs.length).depth ≤ 60 ∧ (rowsPD sg δ rs.length).shown.length ≤ sizeLine ∧ Q (.str (rowsPD sg δ rs.length).shown) H1
theorem pe_rowsR {e : Expr} {te : TE} {pos : Pos} (gd : X.A.guards = some []) (hu : X.A.units + 64 < cLine) (sys : ∃ o, X.base.get? sysModules = some o) (he : PE X e te) : PE X (.FormattedValue e 114 none pos) (tRowsR te) := by
  refine ⟨fun pins s σ H Q I h => ?_⟩
  refine wpAny_FormattedValue_repr (thn (he.run pins s σ H _ I h) fun v s1 hv => ?_)
  obtain ⟨x, H1, I1, r1, L, rs, sg, δ, rfl, hL, a, sh, dp, sz, q⟩ := hv
  cases (show v = Value.ref L from r1)
  refine pyReprObj_of_reads (rowsPD_reads I1 (SqL.of (K := X.K) hL) a) sh (fun _ => rowsD_sys sys I1 (by rw [hL]; exact Option.some_ne_none _) a) gd (by omega) (fun _ _ z => z) (fun h' u tk kk => ?_) sz
  have I2 : Inv X pins σ H1 { s1 with heap := h', toks := tk } := I1.kept (t' := tk) kk
  exact wpAny_formatField_str ⟨.str _, H1, I2, ⟨u, rfl⟩, q⟩ ⟨.str _, H1, I2.tok _, ⟨_, rfl⟩, q⟩ sz
def rShowRows : List V → Hp → VK → Prop := fun xs H Q => ∃ (L : Addr) (rs : List Addr) (sg : List Str) (δ : Nat → Str → Nat), xs = [.ref L] ∧ H L = some (.lst (rs.map V.ref)) ∧ RowsD H rs sg δ ∧ (rowsPD sg δ rs.length).showable = true ∧ (rowsPD sg δ rs.length).depth ≤ 60 ∧ (rowsPD sg δ rs.length).shown.length ≤ sizeLine ∧ Q (.str (rowsPD sg δ rs.length).shown) H
theorem cr_showRows (gd : X.A.guards = some []) (hu : X.A.units + 64 < cLine) (sys : ∃ o, X.base.get? sysModules = some o) : CallR X (.builtin "repr") rShowRows := by
  intro pins s σ H xs us Q I r h
  obtain ⟨L, rs, sg, δ, rfl, hL, a, sh, dp, sz, q⟩ := h
  obtain rfl := Vals.ref1 r
  exact repr_of_reads' (rowsPD_reads I (SqL.of (K := X.K) hL) a) sh (fun _ => rowsD_sys sys I (by rw [hL]; exact Option.some_ne_none _) a) gd (by omega) (fun _ _ z => z) (fun h' u tk kk => ⟨.str _, H, I.kept (t' := tk) kk, ⟨_, rfl⟩, q⟩) sz
def tNatsR (te : TE) : TE := fun σ H Q => te σ H fun x H1 => ∃ (T : Addr) (ns : List Nat), x = .ref T ∧ H1 T = some (.tup (ns.map fun n => V.int (n : Nat))) ∧ (endsPD ns).showable = true ∧ (endsPD ns).shown.length ≤ sizeLine ∧ Q (.str (endsPD ns).shown) H1
theorem natsA_reads {h : Heap} : ∀ {ns : List Nat} {us : List Value}, Vals (ns.map fun n => V.int (n : Nat)) us → ReadsAll h us (ns.map fun n => PyData.int (n : Nat)) []
  | [], _, r => by cases r; exact .nil
  | n :: ns, _, r => by
    cases r with
    | cons r1 r =>
      obtain ⟨t, rfl⟩ := r1
      exact .cons (as := []) (bs := []) (.int (n : Nat) t) (natsA_reads r)
theorem pe_natsR {e : Expr} {te : TE} {pos : Pos} (gd : X.A.guards = some []) (hu : X.A.units + 64 < cLine) (he : PE X e te) : PE X (.FormattedValue e 114 none pos) (tNatsR te) := by
  refine ⟨fun pins s σ H Q I h => ?_⟩
  refine wpAny_FormattedValue_repr (thn (he.run pins s σ H _ I h) fun v s1 hv => ?_)
  obtain ⟨x, H1, I1, r1, T, ns, rfl, hT, sh, sz, q⟩ := hv
  cases (show v = Value.ref T from r1)
  obtain ⟨us, r, ⟨o, e, hc, n, hd⟩, _⟩ := I1.tuple (SqT.of (K := X.K) hT)
  have dp : (PyData.tuple (ns.map fun n => PyData.int (n : Nat))).depth ≤ 60 := by
    have := (nats_can ns).2
    simp only [PyData.depth]
    omega
  refine pyReprObj_of_reads (.tuple e hc hd (natsA_reads r)) sh (fun _ => by simp) gd (by omega) (fun _ _ z => z) (fun h' u tk kk => ?_) sz
  have I2 : Inv X pins σ H1 { s1 with heap := h', toks := tk } := I1.kept (t' := tk) kk
  exact wpAny_formatField_str ⟨.str _, H1, I2, ⟨u, rfl⟩, q⟩ ⟨.str _, H1, I2.tok _, ⟨_, rfl⟩, q⟩ sz
end
theorem env0_in1 {P : Program} {w : World} {K : PySem.W.Frag} {mg : Str → Option Value} {base : Heap} {A : Around} {outer : List Env} {s : Shared} {H : Hp} (e : Env0 P w K mg base A outer s H) : Env0 P w K mg base A.in1 outer s H :=
  ⟨e.frames, e.mod, e.bs, e.bsz, e.funs, e.frf, e.hok, e.bare⟩
def rReprO (C : Addr) (sp : Sp) : List V → Hp → VK → Prop := fun xs H Q => ∃ (a dx : Addr) (fs : List (Str × V)), xs = [.ref a] ∧ H a = some (.ins C dx fs) ∧ sp [.ref a] H (fun v H' => ∃ z : Str, v = .str z ∧ Q (.str z) H') (fun _ _ _ => False)
theorem call_reprO {X : Cx} {C g : Addr} {k : Nat} {fd : FuncData} {sp : Sp} (m : L2.Meth X.K C "__repr__" g) (F : FnG X.prog X.w X.K X.mg X.base CX0 k g fd ["self"] sp) (gd : X.A.guards = some []) (hr : Room (k + 1) X.A) (hb : L2.Binds X.K fd ["self"] []) : CallR X (.builtin "repr") (rReprO C sp) := by
  intro pins s σ H xs us Q I r h
  obtain ⟨a, dx, fs, rfl, e, q⟩ := h
  obtain rfl := Vals.ref1 r
  obtain ⟨mA, O, rr, _, _, _⟩ := ins_get I.hok e
  obtain ⟨od, J, hl⟩ := O.look
  refine Calls.call_function_entry PySem.F.kind_repr PySem.F.plain_repr PySem.F.entry_repr (PySem.F.args_repr1 _) ?_
  unfold Builtin.«repr»
  refine wpAny_bind (m := oneArg "repr" _) (wpAny_pure ?_)
  refine wpAny_bind (wpAny_cRoomFor (Nat.lt_of_le_of_lt (Nat.le_add_right _ 64) hr.in1.units) ?_)
  unfold specialOf
  refine wpAny_bind (wpAny_bind (J.type.here ((PySem.W.looks_findIn I.kIn m.at_).here ?_)))
  show wpAny _ _ (if (some (Value.ref g)).isNone = true then _ else _) _ _ _
  rw [if_neg (by simp)]
  refine wpAny_bind (m := callSpecialIfBound? (.ref a) (Str.ofString "__repr__") _) (PySem.W.ifBound_K I.kIn J m.at_ m.fn (wpAny_call (codeAny_mono (F.run X.A.in1 X.stack s H ⟨[.ref a], []⟩ [.ref a] [.ref a] _ _ gd hr.in1 (env0_in1 I.env0) (hb s [.ref a] I.kIn rfl) (.cons rfl .nil) q) fun c s' hq => ?_)))
  cases c with
  | error er => exact (show False from hq).elim
  | ok fl =>
    cases fl with
    | ret u =>
      obtain ⟨v, H', I', rv, z, rfl, q'⟩ := I.after hq
      obtain ⟨t, rfl⟩ := rv
      refine wpAny_bind (wpAny_isInstance (typeIs_str _ _ _) isSubtype_str_str ?_)
      first
        | exact wpAny_pure ⟨_, rfl, V.str z, H', I', ⟨_, rfl⟩, q'⟩
        | (rw [if_pos rfl]; exact wpAny_pure ⟨_, rfl, V.str z, H', I', ⟨_, rfl⟩, q'⟩)
        | (simp only [if_true]; exact wpAny_pure ⟨_, rfl, V.str z, H', I', ⟨_, rfl⟩, q'⟩)
    | next => exact hq.elim
    | brk => exact hq.elim
    | cont => exact hq.elim
/-! ### sizes -/
/-- a sign -/
def OneC (c : Str) : Prop := c.cps.size ≤ 1 ∧ ∀ x ∈ c.cps.toList, x < 16 ^ 8
theorem log_nat {n : Nat} (h : n < 10) : (n : Int).natAbs.log2 < 1920 ∧ (if (n : Int) == 0 then 0 else (n : Int).natAbs.log2 + 1) ≤ 11 ∧ ((PyData.int (n : Nat)).shown.length ≤ 13) := by
  have e : (n : Int).natAbs = n := Int.natAbs_natCast n
  have k := Nat.log2_le_self n
  refine ⟨by rw [e]; omega, ?_, PyData.shown_int_le (by rw [e]; omega)⟩
  split
  · omega
  · rw [e]
    omega
theorem str_short {z : Str} (h : ∀ x ∈ z.cps.toList, x < 16 ^ 8) : PyData.leavesShort 13 (.str z) = true := by
  simp only [PyData.leavesShort, List.all_eq_true, decide_eq_true_eq]
  exact h
theorem kv_ok {d : Str → Nat} : ∀ {sg : List Str}, (∀ c ∈ sg, OneC c) → (∀ c ∈ sg, d c < 10) →
    PyData.showableKv (sg.map fun c => (PyData.str c, PyData.int (d c : Nat))) = true ∧ PyData.depthKv (sg.map fun c => (PyData.str c, PyData.int (d c : Nat))) ≤ 3 ∧ PyData.leavesShortKv 13 (sg.map fun c => (PyData.str c, PyData.int (d c : Nat))) = true ∧ PyData.weightKv (sg.map fun c => (PyData.str c, PyData.int (d c : Nat))) ≤ sg.length * 14
  | [], _, _ => ⟨rfl, by simp [PyData.depthKv], rfl, by simp [PyData.weightKv]⟩
  | c :: sg, h, hd => by
    obtain ⟨i1, i2, i3, i4⟩ := kv_ok (d := d) (sg := sg) (fun c hc => h c (List.mem_cons_of_mem _ hc)) fun c hc => hd c (List.mem_cons_of_mem _ hc)
    obtain ⟨l1, l2, l3⟩ := log_nat (hd c List.mem_cons_self)
    obtain ⟨s1, s2⟩ := h c List.mem_cons_self
    refine ⟨?_, ?_, ?_, ?_⟩
    · simp only [List.map_cons, PyData.showableKv, PyData.showable]
      rw [i1, decide_eq_true l1]
      rfl
    · simp only [List.map_cons, PyData.depthKv, PyData.depth]
      omega
    · simp only [List.map_cons, PyData.leavesShortKv]
      rw [i3, str_short s2]
      simp only [PyData.leavesShort]
      rw [decide_eq_true l3]
      rfl
    · simp only [List.map_cons, PyData.weightKv, PyData.weight, List.length_cons]
      omega
theorem rows_ok {sg : List Str} {δ : Nat → Str → Nat} (h : ∀ c ∈ sg, OneC c) (ls : sg.length ≤ 4) : ∀ (l : List Nat), (∀ b ∈ l, ∀ c ∈ sg, δ b c < 10) →
    PyData.showableAll (l.map fun b => rowPD sg (δ b)) = true ∧ PyData.depthAll (l.map fun b => rowPD sg (δ b)) ≤ 6 ∧ PyData.leavesShortAll 13 (l.map fun b => rowPD sg (δ b)) = true ∧ PyData.weightAll (l.map fun b => rowPD sg (δ b)) ≤ l.length * 57
  | [], _ => ⟨rfl, by simp [PyData.depthAll], rfl, by simp [PyData.weightAll]⟩
  | b :: l, hb => by
    obtain ⟨i1, i2, i3, i4⟩ := rows_ok h ls l fun b hb' => hb b (List.mem_cons_of_mem _ hb')
    obtain ⟨k1, k2, k3, k4⟩ := kv_ok (d := δ b) h (hb b List.mem_cons_self)
    refine ⟨?_, ?_, ?_, ?_⟩
    · simp only [List.map_cons, rowPD, PyData.showableAll, PyData.showable]
      rw [k1]
      exact i1
    · simp only [List.map_cons, rowPD, PyData.depthAll, PyData.depth]
      simp only [rowPD] at i2
      omega
    · simp only [List.map_cons, rowPD, PyData.leavesShortAll, PyData.leavesShort]
      rw [k3]
      exact i3
    · simp only [List.map_cons, rowPD, PyData.weightAll, PyData.weight, List.length_cons]
      simp only [rowPD] at i4
      omega
theorem ends_ok : ∀ (l : List Nat), (∀ b ∈ l, b < 10) → PyData.showableAll (l.map fun n => PyData.int (n : Nat)) = true ∧ PyData.leavesShortAll 13 (l.map fun n => PyData.int (n : Nat)) = true ∧ PyData.weightAll (l.map fun n => PyData.int (n : Nat)) ≤ l.length * 12
  | [], _ => ⟨rfl, rfl, by simp [PyData.weightAll]⟩
  | b :: l, hb => by
    obtain ⟨i1, i3, i4⟩ := ends_ok l fun b hb' => hb b (List.mem_cons_of_mem _ hb')
    obtain ⟨l1, l2, l3⟩ := log_nat (hb b List.mem_cons_self)
    refine ⟨?_, ?_, ?_⟩
    · simp only [List.map_cons, PyData.showableAll, PyData.showable]
      rw [i1, decide_eq_true l1]
      rfl
    · simp only [List.map_cons, PyData.leavesShortAll, PyData.leavesShort]
      rw [i3, decide_eq_true l3]
      rfl
    · simp only [List.map_cons, PyData.weightAll, PyData.weight, List.length_cons]
      omega
def shownLg (z : Str) (δ : Nat → Str → Nat) (M : Nat) (found : List Nat) : Str := ((Str.empty ++ ("Language(" : Str)) ++ reprText z ++ (", " : Str) ++ (rowsPD (sgL z) δ M).shown ++ (", " : Str) ++ (endsPD found).shown) ++ (")" : Str)
structure LgShow (z : Str) (δ : Nat → Str → Nat) (M : Nat) (found : List Nat) : Prop where
  rs : (rowsPD (sgL z) δ M).showable = true
  rd : (rowsPD (sgL z) δ M).depth ≤ 60
  rl : (rowsPD (sgL z) δ M).shown.length ≤ 6000
  es : (endsPD found).showable = true
  el : (endsPD found).shown.length ≤ 1400
  zl : (reprText z).length ≤ 100
theorem sgOne {z : Str} (hw : isWordS z = true) : (∀ c ∈ sgL z, OneC c) ∧ ∀ x ∈ z.cps.toList, x < 16 ^ 8 := by
  have lt : ∀ x ∈ z.cps.toList, x < 16 ^ 8 := fun x hx => by
    have h := List.all_eq_true.mp hw x hx
    have e : (16 : Nat) ^ 8 = 4294967296 := by decide
    unfold lowC at h
    simp only [Bool.and_eq_true, decide_eq_true_eq] at h
    omega
  refine ⟨fun c hc => ?_, lt⟩
  unfold sgL at hc
  obtain ⟨x, hx, rfl⟩ := List.mem_map.mp hc
  refine ⟨Nat.le_refl 1, fun y hy => ?_⟩
  rw [List.mem_singleton.mp (show y ∈ [x] from hy)]
  exact lt x hx
theorem lg_show {z : Str} {δ : Nat → Str → Nat} {M : Nat} {found : List Nat} (sg : SgOk z) (m6 : M ≤ 6) (lt : ∀ b, b < M → ∀ c ∈ sgL z, δ b c < M) (fl : ∀ b ∈ found, b < M) (nd : found.Nodup) : LgShow z δ M found := by
  obtain ⟨h1, h2⟩ := sgOne sg.word
  have ls : (sgL z).length ≤ 4 := by
    rw [sgL_len]
    exact sg.le
  obtain ⟨a1, a2, a3, a4⟩ := rows_ok (δ := δ) h1 ls (List.range M) fun b hb c hc => by
    have := lt b (List.mem_range.mp hb) c hc
    omega
  obtain ⟨b1, b3, b4⟩ := ends_ok found fun b hb => by
    have := fl b hb
    omega
  have lf : found.length ≤ M := nodup_len nd fl
  rw [List.length_range] at a4
  have k1 := PyData.shown_le 13 (by decide) (rowsPD (sgL z) δ M) (by simp only [rowsPD, PyData.leavesShort]; exact a3)
  have k2 := PyData.shown_le 13 (by decide) (endsPD found) (by simp only [endsPD, PyData.leavesShort]; exact b3)
  have k3 := PyData.shown_le 13 (by decide) (.str z) (str_short h2)
  simp only [rowsPD, PyData.weight] at k1
  simp only [endsPD, PyData.weight] at k2
  simp only [PyData.weight, PyData.shown] at k3
  have zl : z.cps.size ≤ 4 := sg.le
  refine ⟨?_, ?_, ?_, ?_, ?_, ?_⟩
  · simp only [rowsPD, PyData.showable]
    exact a1
  · simp only [rowsPD, PyData.depth]
    omega
  · simp only [rowsPD]
    omega
  · simp only [endsPD, PyData.showable]
    exact b1
  · simp only [endsPD]
    omega
  · omega
theorem LgShow.len {z : Str} {δ : Nat → Str → Nat} {M : Nat} {found : List Nat} (h : LgShow z δ M found) : (shownLg z δ M found).length ≤ 8000 := by
  have h1 := h.rl
  have h2 := h.el
  have h3 := h.zl
  unfold shownLg
  simp only [strLen_append]
  have e1 : (Str.empty).length = 0 := rfl
  have e2 : (("Language(" : String) : Str).length = 9 := rfl
  have e3 : ((", " : String) : Str).length = 2 := rfl
  have e4 : ((")" : String) : Str).length = 1 := rfl
  omega
def spReprL (C : Addr) : Sp := fun vs H Q _ => ∃ (p : Addr) (z : Str) (M : Nat) (δ : Nat → Str → Nat) (found live : List Nat), vs = [.ref p] ∧ LangAt C H p z M δ found live ∧ LgShow z δ M found ∧ Q (.str (shownLg z δ M found)) H
section
variable {P : Program} {w : World} {K : PySem.W.Frag} {mg : Str → Option Value} {base : Heap}
theorem scReprL : FnScope ["self"] ["self"] (defScope sReprL) := ⟨rfl, rfl, rfl, by decide +kernel, rfl, by decide +kernel, by decide +kernel⟩
theorem ok_reprL {f C : Addr} {fd : FuncData} (F : Fun K "__repr__" "Language.__repr__" sReprL f fd) (T : LgC K C) (sys : ∃ o, base.get? sysModules = some o) :
    FnG P w K mg base CX0 1 f fd ["self"] (spReprL C) := by
  refine Sl.Fun.okG F scReprL (fun vs H Q E h => ?_) (fun cdv A0 outer s H vs Q E gd hr h => ?_)
  · obtain ⟨p, z, M, δ, found, live, rfl, _⟩ := h
    rfl
  · obtain ⟨p, z, M, δ, found, live, rfl, LA, sh, k⟩ := h
    have hu0 := hr.units
    obtain ⟨dx, fs, L, rs, Me, Li, hp, f1, f2, hL, lrs, hrs, f3, hMe, _⟩ := LA.ex
    subst lrs
    refine ⟨_, pss_one (ps_ret (pe_joined (.cons pe_str (.cons (pe_fmtR (pe_fld (pv 0) rfl)) (.cons pe_str (.cons (pe_rowsR gd hu0 sys (pe_fld (pv 0) rfl)) (.cons pe_str (.cons (pe_natsR gd hu0 (pe_fld (pv 0) rfl)) (.cons pe_str .nil))))))))), ?_⟩
    have s5 := sh.len
    have s6 : (8000 : Nat) ≤ sizeLine := by rw [sizeLine_eq]; decide
    have q1 := sh.rl
    have q2 := sh.el
    have q3 := sh.zl
    unfold shownLg at s5 k
    simp only [strLen_append] at s5
    refine ⟨_, rfl, by simp only [strLen_append]; omega, ?_⟩
    refine ⟨_, rfl, p, C, dx, fs, _, rfl, hp, T.cl, T.nG, f1, .inl ⟨z, rfl, by omega, _, rfl, by simp only [strLen_append]; omega, ?_⟩⟩
    refine ⟨_, rfl, by simp only [strLen_append]; omega, ?_⟩
    refine ⟨_, rfl, p, C, dx, fs, _, rfl, hp, T.cl, T.nS, f2, L, rs, sgL z, δ, rfl, hL, hrs, sh.rs, sh.rd, by omega, _, rfl, by simp only [strLen_append]; omega, ?_⟩
    refine ⟨_, rfl, by simp only [strLen_append]; omega, ?_⟩
    refine ⟨_, rfl, p, C, dx, fs, _, rfl, hp, T.cl, T.nM, f3, Me, found, rfl, hMe, sh.es, by omega, _, rfl, by simp only [strLen_append]; omega, ?_⟩
    refine ⟨_, rfl, by simp only [strLen_append]; omega, ?_⟩
    exact k
end
end Sl
/-! ## M4 -/
set_option Elab.async false
set_option linter.all false
set_option maxRecDepth 100000
set_option maxHeartbeats 4000000
/-! the states from which a member is reached, round by round -/
namespace Sl
open PySem PySem.Spec PyProof.Rows L2
def hitG (g : Gr) (found : List Nat) (n : Nat) : Bool := (g n).any fun e => decide (e.2 ∈ found)
def stepL (g : Gr) (found : List Nat) (n : Nat) : List Nat := if n ∈ found then found else if hitG g found n = true then found ++ [n] else found
def roundL (g : Gr) (N : Nat) (found : List Nat) : List Nat := (List.range N).foldl (stepL g) found
def liveL (g : Gr) (N : Nat) (mem : List Nat) : Nat → List Nat
  | 0 => mem
  | k + 1 => roundL g N (liveL g N mem k)
theorem step_pre (g : Gr) (found : List Nat) (n : Nat) : found <+: stepL g found n := by
  unfold stepL
  by_cases c : n ∈ found
  · rw [if_pos c]
    exact List.prefix_refl _
  · rw [if_neg c]
    by_cases h : hitG g found n = true
    · rw [if_pos h]
      exact List.prefix_append _ _
    · rw [if_neg h]
      exact List.prefix_refl _
theorem fold_pre (g : Gr) : ∀ (l : List Nat) (found : List Nat), found <+: l.foldl (stepL g) found
  | [], _ => List.prefix_refl _
  | n :: l, found => (step_pre g found n).trans (fold_pre g l _)
theorem pre_eq {l m : List Nat} (h : l <+: m) (e : m.length ≤ l.length) : l = m := h.eq_of_length (Nat.le_antisymm h.length_le e)
theorem hit_iff {g : Gr} {found : List Nat} {n : Nat} : hitG g found n = true ↔ ∃ e ∈ g n, e.2 ∈ found := by
  unfold hitG
  rw [List.any_eq_true]
  exact ⟨fun ⟨e, he, h⟩ => ⟨e, he, of_decide_eq_true h⟩, fun ⟨e, he, h⟩ => ⟨e, he, decide_eq_true h⟩⟩
/-- nothing is added: nothing is missing -/
theorem fold_closed {g : Gr} : ∀ {l : List Nat} {found : List Nat}, (l.foldl (stepL g) found).length ≤ found.length → ∀ n ∈ l, (∃ e ∈ g n, e.2 ∈ found) → n ∈ found
  | [], _, _, _, h, _ => nomatch h
  | m :: l, found, hl, n, hn, hh => by
    have p1 := step_pre g found m
    have p2 := fold_pre g l (stepL g found m)
    have hl : (l.foldl (stepL g) (stepL g found m)).length ≤ found.length := hl
    have e1 : found = stepL g found m := pre_eq p1 (Nat.le_trans p2.length_le hl)
    rcases List.mem_cons.mp hn with rfl | hn
    · by_cases c : n ∈ found
      · exact c
      · exfalso
        unfold stepL at e1
        rw [if_neg c, if_pos (hit_iff.mpr hh)] at e1
        have := congrArg List.length e1
        rw [List.length_append] at this
        simp at this
    · rw [← e1] at hl
      exact fold_closed hl n hn hh
structure LiveOk (g : Gr) (N : Nat) (mem found : List Nat) : Prop where
  nd : found.Nodup
  lt : ∀ n ∈ found, n < N
  sub : ∀ n ∈ mem, n ∈ found
  le : ∀ n ∈ found, Leads g mem n
theorem step_ok {g : Gr} {N n : Nat} {mem found : List Nat} (L : LiveOk g N mem found) (hn : n < N) : LiveOk g N mem (stepL g found n) := by
  unfold stepL
  by_cases c : n ∈ found
  · rwa [if_pos c]
  · rw [if_neg c]
    by_cases h : hitG g found n = true
    · rw [if_pos h]
      obtain ⟨e, he, hf⟩ := hit_iff.mp h
      refine ⟨List.nodup_append.mpr ⟨L.nd, by simp, fun x hx y hy z => c (by rw [← List.mem_singleton.mp hy, ← z]; exact hx)⟩, fun x hx => ?_, fun x hx => List.mem_append.mpr (.inl (L.sub x hx)), fun x hx => ?_⟩
      · rcases List.mem_append.mp hx with h | h
        · exact L.lt x h
        · rw [List.mem_singleton.mp h]
          exact hn
      · rcases List.mem_append.mp hx with h | h
        · exact L.le x h
        · rw [List.mem_singleton.mp h]
          exact .step he (L.le _ hf)
    · rwa [if_neg h]
theorem fold_ok {g : Gr} {N : Nat} {mem : List Nat} : ∀ {l : List Nat} {found : List Nat}, (∀ n ∈ l, n < N) → LiveOk g N mem found → LiveOk g N mem (l.foldl (stepL g) found)
  | [], _, _, L => L
  | n :: l, found, h, L => fold_ok (l := l) (fun m hm => h m (List.mem_cons_of_mem _ hm)) (step_ok L (h n List.mem_cons_self))
theorem live_ok {g : Gr} {N : Nat} {mem : List Nat} (nd : mem.Nodup) (lt : ∀ n ∈ mem, n < N) : ∀ k, LiveOk g N mem (liveL g N mem k)
  | 0 => ⟨nd, lt, fun _ h => h, fun _ h => .base h⟩
  | k + 1 => fold_ok (fun n hn => List.mem_range.mp hn) (live_ok nd lt k)
/-- closed, or longer each round -/
theorem live_long {g : Gr} {N : Nat} {mem : List Nat} : ∀ k, (∀ n, n < N → (∃ e ∈ g n, e.2 ∈ liveL g N mem k) → n ∈ liveL g N mem k) ∨ k ≤ (liveL g N mem k).length
  | 0 => .inr (Nat.zero_le _)
  | k + 1 => by
    have pre : liveL g N mem k <+: liveL g N mem (k + 1) := fold_pre g (List.range N) _
    by_cases c : (liveL g N mem (k + 1)).length ≤ (liveL g N mem k).length
    · have e := pre_eq pre c
      have cl := fold_closed (g := g) (l := List.range N) (found := liveL g N mem k) c
      rw [← e]
      exact .inl fun n hn h => cl n (List.mem_range.mpr hn) h
    · rcases live_long (g := g) (N := N) (mem := mem) k with h | h
      · -- closed already: nothing is added
        exfalso
        apply c
        have : ∀ l : List Nat, (∀ n ∈ l, n < N) → l.foldl (stepL g) (liveL g N mem k) = liveL g N mem k := fun l => by
          induction l with
          | nil => exact fun _ => rfl
          | cons n l ih =>
            intro hl
            have e1 : stepL g (liveL g N mem k) n = liveL g N mem k := by
              unfold stepL
              by_cases c : n ∈ liveL g N mem k
              · rw [if_pos c]
              · rw [if_neg c, if_neg fun hh => c (h n (hl n List.mem_cons_self) (hit_iff.mp hh))]
            rw [List.foldl_cons, e1]
            exact ih fun m hm => hl m (List.mem_cons_of_mem _ hm)
        show (roundL g N (liveL g N mem k)).length ≤ _
        unfold roundL
        rw [this _ fun n hn => List.mem_range.mp hn]
        exact Nat.le_refl _
      · exact .inr (by omega)
theorem full_all {l : List Nat} {N : Nat} (nd : l.Nodup) (lt : ∀ n ∈ l, n < N) (hl : N ≤ l.length) : ∀ n, n < N → n ∈ l := fun n hn => by
  by_cases c : n ∈ l
  · exact c
  · exfalso
    have : (n :: l).length ≤ N := nodup_len (List.nodup_cons.mpr ⟨c, nd⟩) fun x hx => by
      rcases List.mem_cons.mp hx with rfl | h
      · exact hn
      · exact lt x h
    rw [List.length_cons] at this
    omega
theorem liveL_iff {g : Gr} {N : Nat} {mem : List Nat} (nd : mem.Nodup) (lt : ∀ n ∈ mem, n < N) (glt : ∀ n, n < N → ∀ e ∈ g n, e.2 < N) {n : Nat} (hn : n < N) : n ∈ liveL g N mem N ↔ Leads g mem n := by
  have L := live_ok (g := g) nd lt N
  refine ⟨L.le n, fun h => ?_⟩
  have cl : ∀ n, n < N → (∃ e ∈ g n, e.2 ∈ liveL g N mem N) → n ∈ liveL g N mem N := by
    rcases live_long (g := g) (N := N) (mem := mem) N with h | h
    · exact h
    · exact fun n hn _ => full_all L.nd L.lt h n hn
  induction h with
  | base m => exact L.sub _ m
  | step m _ ih => exact cl _ hn ⟨_, m, ih (glt _ hn _ m)⟩
/-- leading to a member is a text that leads to one -/
theorem leads_run {sg : List Str} {δ : Nat → Str → Nat} {mem : List Nat} {n : Nat} : Leads (gOf sg δ) mem n ↔ ∃ w : List Str, (∀ c ∈ w, c ∈ sg) ∧ run δ n w ∈ mem := by
  constructor
  · intro h
    induction h with
    | base m => exact ⟨[], fun _ h => (nomatch h), m⟩
    | @step x e m _ ih =>
      obtain ⟨c, hc, rfl⟩ := List.mem_map.mp m
      obtain ⟨w, h1, h2⟩ := ih
      refine ⟨c :: w, fun c' hc' => ?_, h2⟩
      rcases List.mem_cons.mp hc' with rfl | h
      · exact hc
      · exact h1 _ h
  · rintro ⟨w, h1, h2⟩
    induction w generalizing n with
    | nil => exact .base h2
    | cons c w ih => exact .step (List.mem_map.mpr ⟨c, h1 c List.mem_cons_self, rfl⟩) (ih (fun c' h => h1 c' (List.mem_cons_of_mem _ h)) h2)
end Sl
/-! ## V21 -/
set_option Elab.async false
set_option linter.all false
set_option maxRecDepth 100000
set_option maxHeartbeats 4000000
set_option pp.maxSteps 1500
set_option pp.deepTerms false
/-! _law_made: a language of a drawn machine -/
namespace Sl
open PySem PySem.Spec PyProof.Rows L2 TxS LamX
theorem rowsD_at {H : Hp} {rs : List Addr} {sg : List Str} {δ : Nat → Str → Nat} (h : RowsD H rs sg δ) : RowsAt H rs sg δ := fun i r e => ⟨_, h i r e, fun _ hc => row_val hc⟩
theorem rowsD_len {H : Hp} {rs : List Addr} {sg : List Str} {δ : Nat → Str → Nat} (h : RowsD H rs sg δ) : ∀ r ∈ rs, ∃ kvs, H r = some (.dK kvs) ∧ kvs.length = sg.length := fun r hr => by
  obtain ⟨i, hi⟩ := List.getElem?_of_mem hr
  exact ⟨_, h i r hi, by simp [rowD]⟩
theorem RowsD.ext {H H' : Hp} (x : Ext H H') {rs : List Addr} {sg : List Str} {δ : Nat → Str → Nat} (h : RowsD H rs sg δ) : RowsD H' rs sg δ := fun i r e => x _ _ (h i r e)
/-- what stood stands, but for tables -/
def StayN (H H' : Hp) : Prop := ∀ b o, H b = some o → (∀ ps, o ≠ .tbl ps) → H' b = some o
/-- right arguments -/
structure MkL (K : PySem.W.Frag) (T : List (Addr × Str)) (H : Hp) (kb km : Bool) (st ms : Addr) (z : Str) (rows : List Addr) (mem : List Nat) (δ : Nat → Str → Nat) : Prop where
  sg : SgOk z
  st_ : SqK K kb H st (rows.map V.ref)
  rw_ : RowsD H rows (sgL z) δ
  ms_ : SqK K km H ms (mem.map fun n => V.int (n : Nat))
  ok : MacOk (sgL z) rows.length δ mem 40
  few : Few (sgL z) δ mem rows.length 6
  tb : Tabs T H
/-- what comes of it -/
def OutL (C : Addr) (T : List (Addr × Str)) (H : Hp) (z : Str) (N : Nat) (mem : List Nat) (δ : Nat → Str → Nat) (Q : VK) : Prop := ∀ (H' : Hp) (x : Addr) (M : Nat) (δ' : Nat → Str → Nat) (found live : List Nat), StayN H H' → (∀ b, H' b = none → H b = none) → Tabs T H' → H x = none → LangNew C H H' x z M δ' found live →
  LeastOf (sgL z) δ mem N M δ' found → (∀ n, n < M → (n ∈ live ↔ Leads (gOf (sgL z) δ') found n)) → Q (.ref x) H'
theorem made_lang {K : PySem.W.Frag} {C : Addr} {T : List (Addr × Str)} {H : Hp} {kb km : Bool} {st ms : Addr} {z : Str} {rows : List Addr} {mem : List Nat} {δ : Nat → Str → Nat} {Q : VK} {E : XK} (m : MkL K T H kb km st ms z rows mem δ) (o : OutL C T H z rows.length mem δ Q) :
    ∀ x dx, H x = none → H dx = none → dx ≠ x → spLInit K C T [.ref x, .str z, .ref st, .ref ms] (upd (upd H dx (.own x)) x (.ins C dx [])) (fun v H3 => v = .non ∧ Q (.ref x) H3) E := by
  intro x dx nx ndx ne
  have e1 : Ext H (upd (upd H dx (.own x)) x (.ins C dx [])) := (Ext.new ndx).trans (Ext.new (by rw [upd_ne (Ne.symm ne)]; exact nx))
  have i1 : (upd (upd H dx (.own x)) x (.ins C dx [])) x = some (.ins C dx []) := upd_same
  generalize upd (upd H dx (.own x)) x (.ins C dx []) = H1 at e1 i1 ⊢
  refine ⟨x, dx, kb, km, z, st, ms, rows, mem, δ, rfl, i1, m.sg, m.st_.ext e1, rowsD_at (m.rw_.ext e1), rowsD_len (m.rw_.ext e1), m.ms_.ext e1, m.ok.nd, m.ok.ml, m.ok.pos, m.ok.le, m.few, m.ok.lt, m.tb.ext e1, fun H' M δ' found live kn nn T' LN LO lv => ⟨rfl, ?_⟩⟩
  refine o H' x M δ' found live (fun b u e n => kn b u (e1 _ _ e) n (ne_of_none e nx)) (fun b e => e1.free (nn b e)) T' nx ?_ LO lv
  obtain ⟨dx', fs, L, rs, Me, Li, h, f1, f2, f3, f4⟩ := LN.ex
  exact ⟨dx', fs, L, rs, Me, Li, h, e1.free f1, fun r hr => e1.free (f2 r hr), e1.free f3, e1.free f4⟩
def rDictC : List V → Hp → VK → Prop := fun xs H Q => ∃ (a : Addr) (kvs : List (Key × V)), xs = [V.ref a] ∧ Rd H a (.dK kvs) ∧ ∀ p, H p = none → Q (.ref p) (upd H p (.dK kvs))
/-- [ms, st, sg] as the parameters stand -/
def rotL (vs zs : List V) : List V := vs ++ zs.reverse
theorem tabs_put {T : List (Addr × Str)} {H : Hp} {p : Addr} {o o' : HO} (t : Tabs T H) (hp : H p = some o) (h1 : ∀ ps, o ≠ .tbl ps) (h2 : ∀ c q, o ≠ CodeO c q) : Tabs T (upd H p o') := fun q hq => by
  obtain ⟨ps, a1, a2, a3⟩ := t q hq
  refine ⟨ps, by rw [upd_ne (ne_of a1 hp (fun z => h1 ps z.symm))]; exact a1, a2, fun pos cv hc => ?_⟩
  obtain ⟨c, e, a4⟩ := a3 pos cv hc
  exact ⟨c, e, by rw [upd_ne (ne_of a4 hp (fun z => h2 _ _ z.symm))]; exact a4⟩
theorem perm_vals {ys : List V} {mem : List Nat} (h : ys.Perm (mem.map fun n => V.int (n : Nat))) : ∃ ms : List Nat, ms.Perm mem ∧ ys = ms.map fun n => V.int (n : Nat) := by
  have g : ∀ n : Nat, (match V.int (n : Nat) with | .int i => i.toNat | _ => 0) = n := fun n => by simp
  refine ⟨ys.map fun v => match v with | .int i => i.toNat | _ => 0, ?_, ?_⟩
  · have := h.map fun v => match v with | .int i => i.toNat | _ => 0
    rw [List.map_map] at this
    have e : ((fun v => match v with | .int i => i.toNat | _ => 0) ∘ fun n : Nat => V.int (n : Nat)) = id := by
      funext n
      exact g n
    rwa [e, List.map_id] at this
  · rw [List.map_map]
    have : ∀ y ∈ ys, ((fun n : Nat => V.int (n : Nat)) ∘ fun v => match v with | .int i => i.toNat | _ => 0) y = id y := fun y hy => by
      obtain ⟨n, _, e⟩ := List.mem_map.mp (h.mem_iff.mp hy)
      subst e
      simp
    rw [List.map_congr_left this, List.map_id]
section
variable {P : Program} {w : World} {K : PySem.W.Frag} {mg : Str → Option Value} {base : Heap}
end
end Sl
/-! ## R2 -/
set_option Elab.async false
set_option linter.all false
set_option maxRecDepth 100000
set_option maxHeartbeats 4000000
/-! len of an own object; methods called all by names (k11) -/
namespace Sl
open PySem PySem.Spec PyProof.Rows L2 TxS
def rLenO (C : Addr) (sp : Sp) : List V → Hp → VK → Prop := fun xs H Q => ∃ (a dx : Addr) (fs : List (Str × V)), xs = [.ref a] ∧ H a = some (.ins C dx fs) ∧ sp [.ref a] H (fun v H' => ∃ n : Nat, v = .int (n : Nat) ∧ n < 2 ^ 62 ∧ Q (.int (n : Nat)) H') (fun _ _ _ => False)
theorem env0_in1' {P : Program} {w : World} {K : PySem.W.Frag} {mg : Str → Option Value} {base : Heap} {A : Around} {outer : List Env} {s : Shared} {H : Hp} (e : Env0 P w K mg base A outer s H) : Env0 P w K mg base A.in1 outer s H :=
  ⟨e.frames, e.mod, e.bs, e.bsz, e.funs, e.frf, e.hok, e.bare⟩
theorem call_lenO {X : Cx} {C g : Addr} {k : Nat} {fd : FuncData} {sp : Sp} (m : L2.Meth X.K C "__len__" g) (F : FnOk X.prog X.w X.K X.mg X.base CX0 k g fd ["self"] sp) (hr : Room (k + 1) X.A) (hb : L2.Binds X.K fd ["self"] []) : CallR X (.builtin "len") (rLenO C sp) := by
  intro pins s σ H xs us Q I r h
  obtain ⟨a, dx, fs, rfl, e, q⟩ := h
  obtain rfl := Vals.ref1 r
  obtain ⟨mA, O, rr, _, _, _⟩ := ins_get I.hok e
  obtain ⟨od, J, hl⟩ := O.look
  refine Calls.call_function_entry kind_len plain_len entry_len (args_len1 _) ?_
  unfold Builtin.«len»
  refine wpAny_bind (m := oneArg "len" _) (wpAny_pure ?_)
  refine wpAny_bind (m := callSpecial? (.ref a) (Str.ofString "__len__")) ?_
  unfold callSpecial? specialOf
  refine wpAny_bind (wpAny_bind (J.type.here ((PySem.W.looks_findIn I.kIn m.at_).here ?_)))
  refine wpAny_holding (wpAny_bind ?_)
  unfold bindSpecial
  refine wpAny_bind ((PySem.W.looks_typeIn I.kIn (beq_iff_eq.mp m.fn)).here ?_)
  rw [if_pos (by decide)]
  refine wpAny_pure (wpAny_bind ?_)
  refine wpAny_call (codeAny_mono (F.run X.A.in1 X.stack s H ⟨[.ref a], []⟩ [.ref a] [.ref a] _ _ hr.in1 (env0_in1' I.env0) (hb s [.ref a] I.kIn rfl) (.cons rfl .nil) q) fun c s' hq => ?_)
  cases c with
  | error er => exact (show False from hq).elim
  | ok fl =>
    cases fl with
    | ret u =>
      obtain ⟨v, H', I', rv, n, rfl, hn, q'⟩ := I.after hq
      obtain ⟨t, rfl⟩ := rv
      refine wpAny_pure ?_
      refine wpAny_bind (wpAny_holding (wpAny_pure ?_))
      refine wpAny_bind (wpAny_letGo ?_)
      show wpAny _ _ (if ((n : Nat) : Int) < 0 then _ else _) _ _ _
      rw [if_neg (by omega)]
      show wpAny _ _ (if ((n : Nat) : Int) ≥ 2 ^ 63 then _ else _) _ _ _
      rw [if_neg (by omega)]
      exact wpAny_bind (wpAny_mkInt (wpAny_pure ⟨_, rfl, .int (n : Nat), H', I'.tok _, ⟨_, rfl⟩, q'⟩))
    | next => exact hq.elim
    | brk => exact hq.elim
    | cont => exact hq.elim
section
variable {X : Cx} {CX : CXT} {k : Nat} {C f : Addr} {fd : FuncData} {ps ks : List Str} {m : Str} {o : Expr} {kws : List Keyword} {ta : TE} {tk : TA} {g : List Value → List Value → List Value} {gV : List V → List V → List V} {E : XK} {pl : Sem Bool} {apos pos : Pos}
def tMethK (C : Addr) (m : Str) (n : Nat) (sp : Sp) (gV : List V → List V → List V) (E : XK) (ta : TE) (tk : TA) : TE := fun σ H Q => ta σ H fun x H1 => ∃ a dx fs, x = .ref a ∧ H1 a = some (.ins C dx fs) ∧ fs.lookup m = none ∧ tk σ H1 fun zs H2 => zs.length = n ∧ sp (gV [.ref a] zs) H2 Q E
theorem pe_methKw {sp : Sp} (he : PE X o ta) (c : Cls X.K C) (hm : Meth X.K C m f) (F : FnOk X.prog X.w X.K X.mg X.base CX k f fd ps sp) (hr : Room k X.A) (hb : KBn X.K fd ps 1 ks g gV) (hx : Passes CX X E) (hkw : PK X kws tk)
    (hall : (backToKw pos (keywordEach kws X.env)).all (·.1.isSome) = true := by rfl) (hks : (backToKw pos (keywordEach kws X.env)).filterMap (·.1) = ks := by rfl)
    (hpl : ((backTo pos (starEach [] X.env)).any (·.1) || (backToKw pos (keywordEach kws X.env)).any (·.1.isNone)) = false := by rfl)
    (ht : eval (.Call (.Attribute o m apos) [] kws pos) X.env = (do
      let ov ← eval o X.env
      standAt apos.atName
      let (f, first) ← holding [ov] (getMethod ov m pl)
      callWith pos f first (backTo pos (starEach [] X.env)) (backToKw pos (keywordEach kws X.env))) := by rfl) :
    PE X (.Call (.Attribute o m apos) [] kws pos) (tMethK C m ks.length sp gV E ta tk) := by
  refine ⟨fun pins s σ H Q I h => PySem.W.methodCall_KW (pl := pl) (thn (he.run pins s σ H _ I h) fun u s1 ⟨x, H1, I1, rx, a, dx, fs, ex, ea, l, q⟩ => ?_) ht⟩
  subst ex
  obtain rfl : u = Value.ref a := rx
  refine getmeth_ok I1 ea c hm l (PySem.W.callWith_KW0 (first := [.ref a]) (h₀ := X.base) I1.ok.mod.kin hm.kp hall ?_ hpl)
  refine thn (hkw.run pos pins s1 σ H1 _ I1 q) fun ws s2 ⟨zs, H2, I2, rz, l2, q2⟩ => ⟨I2.kIn, ?_⟩
  rw [hks]
  have r1 : Vals [V.ref a] [Value.ref a] := .cons rfl .nil
  refine wpAny_call (codeAny_mono (F.run X.A X.stack s2 H2 ⟨[.ref a], ks.zip ws⟩ (g [.ref a] ws) (gV [.ref a] zs) Q E hr I2.env0 (hb.to s2 [.ref a] ws I2.kIn rfl (rz.length.symm.trans l2)) (hb.rel r1 rz) q2) fun r s' hq => ?_)
  cases r with
  | error e => exact hx pins σ _ _ e s' I2 hq
  | ok fl =>
    cases fl with
    | ret u => exact I2.after hq
    | next => exact hq.elim
    | brk => exact hq.elim
    | cont => exact hq.elim
end
end Sl
/-! ## X5 -/
set_option Elab.async false
set_option linter.all false
set_option maxRecDepth 100000
set_option maxHeartbeats 4000000
/-! x == y by x's own ==, whatever it answers -/
namespace Sl
open PySem PySem.Spec PyProof.Rows L2 TxS
section
variable {X : Cx}
/-- x == y, x an instance of the class at C whose own == keeps S, y of a type that has no say -/
def rEqO (K : PySem.W.Frag) (C : Addr) (S : Sp) (E : XK) : R2 := fun x y H Q => ∃ (a dx : Addr) (fs : List (Str × V)) (t : Value), x = .ref a ∧ H a = some (.ins C dx fs) ∧ TyX K H y t ∧ PySem.W.notFirst K C t = true ∧ S [.ref a, y] H (fun v H' => (∃ b, v = .bl b) ∧ Q v H') E
theorem op_eqO {CX : CXT} {n : Nat} {C f : Addr} {fd : FuncData} {ps : List Str} {S : Sp} {E : XK} (F : FnOk X.prog X.w X.K X.mg X.base CX n f fd ps S) (hr : Room n X.A)
    (hs : PySem.W.findIn X.K (.ref C) "__eq__" = some (some (.ref f))) (hf : PySem.W.isFn X.K (.ref f) = true) (hb : Binds X.K fd ps []) (hx : Passes CX X E) : OpR X (compareOp .Eq) (rEqO X.K C S E) := by
  intro pins s σ H x y v u Q I rx ry h
  obtain ⟨a, dx, fs, t, rfl, ha, ty, hn, hsp⟩ := h
  cases (show v = Value.ref a from rx)
  obtain ⟨mA, J, _⟩ := ins_get I.hok ha
  obtain ⟨od, J, _⟩ := J.look
  obtain ⟨m, hF⟩ := I.fr
  obtain ⟨Z, KX, z, _⟩ := kit_of I ry ty
  have sb : Sub X n X.A := ⟨hr, rfl⟩
  refine PySem.W.cmp_K (op := .Eq) sb.room.units0 hF I.ok.mod.kin J (KX.ty _ _ I.kIn z) hn hs hf ?_
  have e0 : Env0 X.prog X.w X.K X.mg X.base X.A X.stack s H := by
    have e := I.env0
    exact ⟨by rw [sb.fr]; exact e.frames, e.mod, e.bs, e.bsz, e.funs, e.frf, e.hok, e.bare⟩
  have hl := F.len _ _ _ _ hsp
  have r2 : Vals [V.ref a, y] [Value.ref a, u] := .cons rfl (.cons ry .nil)
  refine wpAny_call (codeAny_mono (F.run X.A X.stack s H ⟨[Value.ref a, u], []⟩ [Value.ref a, u] [V.ref a, y] _ E sb.room e0 (by
    have := hb s [Value.ref a, u] I.kIn (by simpa using hl)
    simpa using this) r2 hsp) fun r s' hq => ?_)
  cases r with
  | error e => exact hx pins σ H s e s' I hq
  | ok fl =>
    cases fl with
    | ret w =>
      obtain ⟨z, H', I', rz, ⟨b, ez⟩, q⟩ := I.after hq
      subst ez
      cases rz
      exact ⟨.bl b, H', I', rfl, q⟩
    | next => exact False.elim hq
    | brk => exact False.elim hq
    | cont => exact False.elim hq
end
end Sl
/-! ## X6 -/
set_option Elab.async false
set_option linter.all false
set_option maxRecDepth 100000
set_option maxHeartbeats 4000000
/-! x != y by x's own == -/
namespace Sl
open PySem PySem.Spec PyProof.Rows PySem.SeqAt Builtin
section
variable {M : Model} {prog : Program} {w : World} {A : Around} {E : Value → Shared → Prop} {s : Shared} {K : PySem.W.Frag} {x C f : Addr} {ox : Obj} {od : Option Obj} {b tb : Value}
theorem ifBound_ne {args : List Value} {Q : Option Value → Shared → Prop} (X : K.In s.heap) (I : PySem.W.InstAt s.heap x ox C od) (hs : PySem.W.findIn K (.ref C) "__ne__" = some (some (.builtin "object.__ne__")))
    (h : wpAny M A (call (.builtin "object.__ne__") (.ref x :: args)) (fun v => Q (some v)) E s) : wpAny M A (callSpecialIfBound? (.ref x) "__ne__" args) Q E s := by
  simp only [callSpecialIfBound?, bindSpecialIfBound?]
  refine wpAny_holding (wpAny_bind (wpAny_bind (wpAny_bind (I.type.here ((PySem.W.looks_findIn X hs).here ?_)))))
  refine wpAny_bind (wpAny_askSetting (wpAny_ite ?_))
  have fin : wpAny M A (call (.builtin "object.__ne__") ([.ref x] ++ args) >>= fun v => pure (some v)) Q E s := wpAny_bind (wpAny_mono h (fun v s' h' => wpAny_pure h') fun _ _ h' => h')
  split
  · exact wpAny_bind (wpAny_of_eq (F.cmp_object.ne.bind _) (wpAny_pure (by exact fin)))
  · exact wpAny_tryCatch (wpAny_bind (wpAny_of_eq (F.cmp_object.ne.bind _) (wpAny_pure (by exact fin))))
theorem ne_entry {Q : Fin → Shared → Prop} (X : K.In s.heap) (I : PySem.W.InstAt s.heap x ox C od) (hu : A.units < cLine) (hs : PySem.W.findIn K (.ref C) "__eq__" = some (some (.ref f))) (hf : PySem.W.isFn K (.ref f) = true)
    (h : wpAny (model prog w) A (call (.ref f) [.ref x, b]) (fun v s' => ∃ c, v = .bool c ∧ Q (.done (.ret (.bool (!c)))) s') E s) : wpAny (model prog w) A (Builtin.«object.__ne__» ⟨[.ref x, b], []⟩) Q E s := by
  unfold Builtin.«object.__ne__»
  repeat (first
    | with_reducible refine wpAny_cRoomFor hu ?_
    | (refine wpAny_bind (m := callSpecialIfBound? (.ref x) (Str.ofString "__eq__") [b])
        (PySem.W.ifBound_K X I hs hf (wpAny_mono h (fun r s' hr => by
          obtain ⟨c, rfl, hq⟩ := hr
          repeat (first | exact hq | exact wpAny_pure hq | exact wpAny_truthy_bool hq | (refine wpAny_bind (m := truthy (.bool _)) (wpAny_truthy_bool ?_)) | wp_step)) fun _ _ e => e)))
    | wp_step)
theorem ne_own {Q : Value → Shared → Prop} (hu : A.units + 1 < cLine) (X : K.In s.heap) (I : PySem.W.InstAt s.heap x ox C od) (hm : PySem.W.mroIn K C (.type "object") = some true)
    (hne : PySem.W.findIn K (.ref C) "__ne__" = some (some (.builtin "object.__ne__"))) (hs : PySem.W.findIn K (.ref C) "__eq__" = some (some (.ref f))) (hf : PySem.W.isFn K (.ref f) = true)
    (hb : PySem.W.Looks (model prog w) s.heap (typeOf b) tb) (hn : PySem.W.notFirst K C tb = true)
    (h : wpAny (model prog w) A.in1 (call (.ref f) [.ref x, b]) (fun v s' => ∃ c, v = .bool c ∧ Q (.bool (!c)) s') E s) : wpAny (model prog w) A (richCompare .NotEq (.ref x) b) Q E s := by
  have one : wpAny (model prog w) A (tryCompare (.ref x) "__ne__" b) (fun r s' => ∃ v, r = some v ∧ Q v s') E s := by
    unfold tryCompare
    refine wpAny_bind (ifBound_ne X I hne ?_)
    refine wpAny_call (codeAny_call_builtin F.cmp_object.ne.plain F.cmpEntry_ne (PySem.W.check_slot F.cmpKind_ne F.cmpSplit_ne (I.type.andThen (PySem.W.looks_mroIn X hm)) (F.cmpArgs_ne _ _) (ne_entry (A := A.in1) X I (by show A.units + 1 < cLine; exact hu) hs hf (wpAny_mono h (fun v s' hv => ?_) fun _ _ e => e))))
    obtain ⟨c, rfl, hq⟩ := hv
    exact ⟨c, rfl, wpAny_pure ⟨_, rfl, hq⟩⟩
  unfold richCompare
  simp only [oneThing_ref, cmpInfo_NotEq]
  refine wpAny_holding (wpAny_bind (wpAny_cRoomFor (by omega) ?_))
  refine wpAny_bind (I.type.here (wpAny_bind (hb.here ?_)))
  split
  · rename_i q
    have e : PySem.W.subIn K tb (.ref C) = some false := by
      rcases Bool.or_eq_true_iff.mp hn with e | e
      · rw [beq_iff_eq.mp e] at q; simp at q
      · exact beq_iff_eq.mp e
    refine wpAny_bind ((PySem.W.looks_subIn X e).here ?_)
    simp only [Bool.false_eq_true, if_false]
    refine wpAny_bind (wpAny_mono one (fun r s' z => ?_) fun _ _ e => e)
    obtain ⟨v, rfl, hq⟩ := z
    exact wpAny_pure hq
  · refine wpAny_bind (wpAny_pure ?_)
    simp only [Bool.false_eq_true, if_false]
    refine wpAny_bind (wpAny_mono one (fun r s' z => ?_) fun _ _ e => e)
    obtain ⟨v, rfl, hq⟩ := z
    exact wpAny_pure hq
end
end Sl
/-! ## X7 -/
set_option Elab.async false
set_option linter.all false
set_option maxRecDepth 100000
set_option maxHeartbeats 4000000
/-! x != y by x's own == -/
namespace Sl
open PySem PySem.Spec PyProof.Rows L2 TxS
section
variable {X : Cx}
def rNeO (K : PySem.W.Frag) (C : Addr) (S : Sp) (E : XK) : R2 := fun x y H Q => ∃ (a dx : Addr) (fs : List (Str × V)) (t : Value), x = .ref a ∧ H a = some (.ins C dx fs) ∧ TyX K H y t ∧ PySem.W.notFirst K C t = true ∧ S [.ref a, y] H (fun v H' => ∃ b, v = .bl b ∧ Q (.bl (!b)) H') E
theorem op_neO {CX : CXT} {n : Nat} {C f : Addr} {fd : FuncData} {ps : List Str} {S : Sp} {E : XK} (F : FnOk X.prog X.w X.K X.mg X.base CX n f fd ps S) (hr : Room (n + 1) X.A)
    (hm : PySem.W.mroIn X.K C (.type "object") = some true) (hne : PySem.W.findIn X.K (.ref C) "__ne__" = some (some (.builtin "object.__ne__")))
    (hs : PySem.W.findIn X.K (.ref C) "__eq__" = some (some (.ref f))) (hf : PySem.W.isFn X.K (.ref f) = true) (hb : Binds X.K fd ps []) (hx : Passes CX X E) : OpR X (compareOp .NotEq) (rNeO X.K C S E) := by
  intro pins s σ H x y v u Q I rx ry h
  obtain ⟨a, dx, fs, t, rfl, ha, ty, hn, hsp⟩ := h
  cases (show v = Value.ref a from rx)
  obtain ⟨mA, J, _⟩ := ins_get I.hok ha
  obtain ⟨od, J, _⟩ := J.look
  obtain ⟨m, hF⟩ := I.fr
  obtain ⟨Z, KX, z, _⟩ := kit_of I ry ty
  have sb0 : Sub X (n + 1) X.A := ⟨hr, rfl⟩
  have sb : Sub X n X.A.in1 := sb0.in1
  refine ne_own (Nat.lt_of_succ_lt (by have := hr.units; show X.A.units + 1 + 1 < cLine; omega)) I.kIn J hm hne hs hf (KX.ty _ _ I.kIn z) hn ?_
  have e0 : Env0 X.prog X.w X.K X.mg X.base X.A.in1 X.stack s H := by
    have e := I.env0
    exact ⟨by rw [sb.fr]; exact e.frames, e.mod, e.bs, e.bsz, e.funs, e.frf, e.hok, e.bare⟩
  have hl := F.len _ _ _ _ hsp
  have r2 : Vals [V.ref a, y] [Value.ref a, u] := .cons rfl (.cons ry .nil)
  refine wpAny_call (codeAny_mono (F.run X.A.in1 X.stack s H ⟨[Value.ref a, u], []⟩ [Value.ref a, u] [V.ref a, y] _ E sb.room e0 (by
    have := hb s [Value.ref a, u] I.kIn (by simpa using hl)
    simpa using this) r2 hsp) fun r s' hq => ?_)
  cases r with
  | error e => exact hx pins σ H s e s' I hq
  | ok fl =>
    cases fl with
    | ret w =>
      obtain ⟨z, H', I', rz, b, ez, q⟩ := I.after hq
      subst ez
      cases rz
      exact ⟨b, rfl, .bl (!b), H', I', rfl, q⟩
    | next => exact False.elim hq
    | brk => exact False.elim hq
    | cont => exact False.elim hq
end
end Sl
/-! ## A1 -/
set_option Elab.async false
set_option linter.all false
set_option maxRecDepth 100000
set_option maxHeartbeats 4000000
set_option pp.maxSteps 1500
set_option pp.deepTerms false
/-! explored with a goal, its nodes numbers; the words on the way -/
namespace Sl
open PySem PySem.Spec PyProof.Rows L2 LamX NdefX
/-- nodes met, with the words that led there -/
abbrev Wd := List (Nat × List Str)
def addW (q : Wd) (w : List Str) (l : List (Str × Nat)) : Wd := l.foldl (fun q e => if e.2 ∈ q.map (·.1) then q else q ++ [(e.2, w ++ [e.1])]) q
def bfsW (g : Gr) (m : Nat → Bool) : Nat → Wd → Nat → Wd × Option (Nat × List Str)
  | 0, q, _ => (q, none)
  | n + 1, q, i => match q[i]? with
    | none => (q, none)
    | some x => if m x.1 = true then (q, some x) else bfsW g m n (addW q x.2 (g x.1)) (i + 1)
def searchW (g : Gr) (m : Nat → Bool) (N first : Nat) : Wd × Option (Nat × List Str) := bfsW g m (N + 1) [(first, [])] 0
theorem addW_append (q : Wd) (w : List Str) (l k : List (Str × Nat)) : addW q w (l ++ k) = addW (addW q w l) w k := List.foldl_append
theorem addW_one (q : Wd) (w : List Str) (e : Str × Nat) : addW q w [e] = if e.2 ∈ q.map (·.1) then q else q ++ [(e.2, w ++ [e.1])] := rfl
theorem bfsW_end {g : Gr} {m : Nat → Bool} {q : Wd} {i : Nat} (h : q.length ≤ i) : ∀ n, bfsW g m n q i = (q, none)
  | 0 => rfl
  | n + 1 => by
    unfold bfsW
    rw [List.getElem?_eq_none h]
theorem bfsW_go {g : Gr} {m : Nat → Bool} {q : Wd} {i n : Nat} {x : Nat × List Str} (h : q[i]? = some x) : bfsW g m (n + 1) q i = if m x.1 = true then (q, some x) else bfsW g m n (addW q x.2 (g x.1)) (i + 1) := by
  rw [bfsW, h]
theorem addW_ok {N : Nat} {w : List Str} : ∀ {l : List (Str × Nat)} {q : Wd}, (q.map (·.1)).Nodup → (∀ x ∈ q, x.1 < N) → (∀ e ∈ l, e.2 < N) → ((addW q w l).map (·.1)).Nodup ∧ (∀ x ∈ addW q w l, x.1 < N) ∧ q.length ≤ (addW q w l).length
  | [], q, nd, h, _ => ⟨nd, h, Nat.le_refl _⟩
  | e :: l, q, nd, h, hl => by
    have hl' := fun e' he => hl e' (List.mem_cons_of_mem _ he)
    show ((addW (if e.2 ∈ q.map (·.1) then q else q ++ [(e.2, w ++ [e.1])]) w l).map (·.1)).Nodup ∧ _
    by_cases c : e.2 ∈ q.map (·.1)
    · rw [if_pos c]
      have z := addW_ok (w := w) nd h hl'
      refine ⟨z.1, ?_, ?_⟩
      · show ∀ x ∈ addW (if e.2 ∈ q.map (·.1) then q else _) w l, x.1 < N
        rw [if_pos c]
        exact z.2.1
      · show q.length ≤ (addW (if e.2 ∈ q.map (·.1) then q else _) w l).length
        rw [if_pos c]
        exact z.2.2
    · rw [if_neg c]
      have z := addW_ok (w := w) (l := l) (q := q ++ [(e.2, w ++ [e.1])]) (by
        rw [List.map_append]
        exact List.nodup_append.mpr ⟨nd, by simp, fun a ha b hb q => c (by
          rw [List.map_cons, List.map_nil, List.mem_singleton] at hb
          have hb : b = e.2 := hb
          rw [← hb, ← q]
          exact ha)⟩) (fun x hx => (List.mem_append.mp hx).elim (h x) fun hx => by
          rw [List.mem_singleton.mp hx]
          exact hl e List.mem_cons_self) hl'
      refine ⟨z.1, ?_, ?_⟩
      · show ∀ x ∈ addW (if e.2 ∈ q.map (·.1) then q else _) w l, x.1 < N
        rw [if_neg c]
        exact z.2.1
      · show q.length ≤ (addW (if e.2 ∈ q.map (·.1) then q else _) w l).length
        rw [if_neg c]
        have := z.2.2
        rw [List.length_append] at this
        omega
/-- what the dict tells of a node: none at the first, else the node before and the sign -/
def PredI (H : Hp) (q : Wd) (w : List Str) (v : V) : Prop := (w = [] ∧ v = .non) ∨ ∃ (T : Addr) (x : Nat) (sg : Str) (u : List Str), w = u ++ [sg] ∧ (x, u) ∈ q ∧ v = .ref T ∧ H T = some (.tup [.int x, .str sg])
structure TraceI (H : Hp) (q : Wd) (kvs : List (Key × V)) : Prop where
  keys : kvs.map (·.1) = q.map fun x => keyI x.1
  pred : ∀ x ∈ q, ∃ v, valV kvs (keyI x.1) = some v ∧ PredI H q x.2 v
theorem PredI.ext {H H' : Hp} {q q' : Wd} {w : List Str} {v : V} (x : ∀ t xs, H t = some (.tup xs) → H' t = some (.tup xs)) (s : ∀ y ∈ q, y ∈ q') (h : PredI H q w v) : PredI H' q' w v := by
  rcases h with h | ⟨T, n, sg, u, h1, h2, h3, h4⟩
  · exact .inl h
  · exact .inr ⟨T, n, sg, u, h1, s _ h2, h3, x _ _ h4⟩
theorem TraceI.ext {H H' : Hp} {q : Wd} {kvs : List (Key × V)} (x : ∀ t xs, H t = some (.tup xs) → H' t = some (.tup xs)) (h : TraceI H q kvs) : TraceI H' q kvs :=
  ⟨h.keys, fun y hy => let ⟨v, h1, h2⟩ := h.pred y hy; ⟨v, h1, h2.ext x fun _ z => z⟩⟩
/-- whether a node is a goal, wherever G holds -/
def spGoalI (G : Hp → Prop) (m : Nat → Bool) (N : Nat) : List V → Hp → VK → Prop := fun vs H Q => ∃ n : Nat, vs = [.int n] ∧ n < N ∧ G H ∧ Q (.bl (m n)) H
structure GoalL (P : Program) (w : World) (K : PySem.W.Frag) (mg : Str → Option Value) (base : Heap) (k : Nat) (G : Hp → Prop) (m : Nat → Bool) (N : Nat) (F : LF) (fr : List Str) (ws : List (Option V)) : Prop where
  ok : ∃ y sp, LOk P w K mg base CX0 k F [y] fr sp ∧ ∀ vs H Q E, spGoalI G m N vs H Q → sp ws vs H Q E
def spExploredI (P : Program) (w : World) (K : PySem.W.Frag) (mg : Str → Option Value) (base : Heap) (k : Nat) : List (Str × Addr) → List Str → List (Option V) → Sp := fun cl fr ws vs H Q _ => ∃ (f f2 : Addr) (F F2 : LF) (first N : Nat) (G : Hp → Prop) (g : Gr) (m : Nat → Bool), vs = [.int first, .ref f, .ref f2] ∧
  H f = some (LamO f F) ∧ H F.c = some (CodeO F.c F.qual) ∧ F.cl = cl ∧ LeadL P w K mg base k G g N F fr ws ∧ H f2 = some (LamO f2 F2) ∧ H F2.c = some (CodeO F2.c F2.qual) ∧ F2.cl = cl ∧ GoalL P w K mg base k G m N F2 fr ws ∧ G H ∧ GrOk G g N ∧ first < N ∧
  ∀ (H' : Hp) (t b : Addr) (kvs : List (Key × V)) (v : V), Ext H H' → H t = none → H' t = some (.tup [.ref b, v]) → H b = none → H' b = some (.dK kvs) → TraceI H' (searchW g m N first).1 kvs →
    (match (searchW g m N first).2 with | none => v = .non | some x => x ∈ (searchW g m N first).1 ∧ v = .int x.1) → Q (.ref t) H'
/-- where the search stands -/
def ExpWI (H : Hp) (fl f2 b q : Addr) (first N : Nat) (g : Gr) (m : Nat → Bool) : Nat → L2.St → Hp → Prop := fun n σ H' => ∃ (v6 v7 v8 : Option V) (i : Nat) (Lq : Wd) (kvs : List (Key × V)), n = N + 1 - i ∧
  σ = [some (.int first), some (.ref fl), some (.ref f2), some (.ref b), some (.ref q), some (.int i), v6, v7, v8] ∧ Ext H H' ∧ H' q = some (.lst (Lq.map fun x => V.int (x.1 : Nat))) ∧ H' b = some (.dK kvs) ∧ TraceI H' Lq kvs ∧
  (Lq.map (·.1)).Nodup ∧ (∀ x ∈ Lq, x.1 < N) ∧ i ≤ Lq.length ∧ bfsW g m (N + 1 - i) Lq i = searchW g m N first
theorem keyWI_mem {a : Nat} {l : Wd} : keyI a ∈ (l.map fun x => keyI x.1) ↔ a ∈ l.map (·.1) := by
  have e : (l.map fun x => keyI x.1) = (l.map (·.1)).map keyI := by rw [List.map_map]; rfl
  rw [e, keyI_mem]
theorem val_keyWI {H : Hp} {kvs : List (Key × V)} {l : Wd} (h : TraceI H l kvs) (a : Nat) : (valV kvs (keyI a)).isSome = decide (a ∈ l.map (·.1)) :=
  val_key (l := l.map (·.1)) (by rw [h.keys, List.map_map]; rfl) a
section
variable {P : Program} {w : World} {K : PySem.W.Frag} {mg : Str → Option Value} {base : Heap}
theorem ok_exploredI {k : Nat} {f : Addr} {fd : FuncData} (Fn : Fun K "explored" "explored" sExplored f fd) (zn : mg "len" = none) : FnV P w K mg base CX0 (k + 1) f fd ["first", "leads", "is_goal"] (spExploredI P w K mg base k) := by
  refine Sl.Fun.okV Fn scExplored (fun cl fr ws vs H Q E h => ?_) (fun A0 outer s H vs cl fr ws Q E hr C h => ?_)
  · obtain ⟨f, f2, F, F2, first, N, G, g, m, rfl, _⟩ := h
    rfl
  · obtain ⟨fl, f2, F, F2, first, N, G, g, m, rfl, hf, hc, ecl, LL, hf2, hc2, ecl2, LI, hG, gk, fN, kk⟩ := h
    obtain ⟨y, spF, LF, imp⟩ := LL.ok
    obtain ⟨y2, spF2, LF2, imp2⟩ := LI.ok
    have hu := hu_of hr
    have C1 : CellsAt F.cl fr ws (cxOf CX0 P w K mg base nExplored "explored" (defScope sExplored) f fd.code A0 outer s H E).s_0.heap (cxOf CX0 P w K mg base nExplored "explored" (defScope sExplored) f fd.code A0 outer s H E).H_0 := by
      rw [ecl]
      exact C.at_
    have C2 : CellsAt F2.cl fr ws (cxOf CX0 P w K mg base nExplored "explored" (defScope sExplored) f fd.code A0 outer s H E).s_0.heap (cxOf CX0 P w K mg base nExplored "explored" (defScope sExplored) f fd.code A0 outer s H E).H_0 := by
      rw [ecl2]
      exact C.at_
    refine ⟨_, pss_cons (ps_set (i := 3) scExplored.nd rfl (.inl rfl) (pe_disp (pps_cons (pv 0) pe_non pps_nil) (by rfl) (by rfl) (fun z => by cases z) (by decide)))
      (pss_cons (ps_set (i := 4) scExplored.nd rfl (.inl rfl) (pe_lst (pa_cons (pv 0) pa_nil)))
      (pss_cons (ps_set (i := 5) scExplored.nd rfl (.inl rfl) pe_int)
      (pss_cons (ps_while (passes_of rfl) (pt_cmpR op_lt (pv 5) (pe_callB call_len_seq (by rfl) zn PySem.boot_len (pa_cons (pv 4) pa_nil)) (nomark _))
        (pss_cons (ps_set (i := 6) scExplored.nd rfl (.inl rfl) (pe_ix ix_list (pv 4) (pv 5) (fun _ _ => rfl)))
        (pss_cons (ps_if (pt_val (pe_callL (E := fun _ _ _ => False) (i := 2) LF2 (fun pins σ H s I => cells_later C2 rfl I) hr (Nat.le_refl _) pass0 rfl (.inl rfl) (pa_cons (pv 6) pa_nil))) (pss_one (ps_ret (pe_tup (pa_cons (pv 3) (pa_cons (pv 6) pa_nil))))) pss_nil)
        (pss_cons (ps_for (passes_of rfl) rfl (pi_list (pe_callL (E := fun _ _ _ => False) (i := 1) LF (fun pins σ H s I => cells_later C1 rfl I) hr (Nat.le_refl _) pass0 rfl (.inl rfl) (pa_cons (pv 6) pa_nil))) (pg_tup (by rfl) (pgs_cons (pg_name (i := 7) scExplored.nd rfl (.inl rfl)) (pgs_cons (pg_name (i := 8) scExplored.nd rfl (.inl rfl)) pgs_nil)))
          (pss_one (ps_if (pt_cmp (pc_dnotin hu (pv 8) (pv 3))) (pss_cons (ps_dput hu (pv 3) (pv 8) (pe_tup (pa_cons (pv 6) (pa_cons (pv 7) pa_nil))) rfl) (pss_one (ps_expr (pe_bm PySem.F.plainAttrs_list PySem.F.slot_list_append PySem.F.type_list_append mt_append (pv 4) (pa_cons (pv 8) pa_nil))))) pss_nil)))
        (pss_one (ps_aug (i := 5) scExplored.nd rfl (.inl rfl) pe_int ip_add))))))
      (pss_one (ps_ret (pe_tup (pa_cons (pv 3) (pa_cons pe_non pa_nil)))))))), ?_⟩
    have sz1 : (1 : Nat) ≤ sizeLine := by decide
    have sz2 : (2 : Nat) ≤ sizeLine := by decide
    refine fun b nb => ⟨_, rfl, upd_same, [(keyI first, V.non)], rfl, by show 1 ≤ 15; decide, ?_⟩
    have x1 : Ext H (upd (upd H b (.dK [])) b (.dK (mergeK [] [(keyI first, V.non)]))) := fun a o e => by
      rw [upd_ne (ne_of_none e nb), upd_ne (ne_of_none e nb)]
      exact e
    have h1 : (upd (upd H b (.dK [])) b (.dK (mergeK [] [(keyI first, V.non)]))) b = some (.dK [(keyI first, V.non)]) := upd_same
    generalize upd (upd H b (.dK [])) b (.dK (mergeK [] [(keyI first, V.non)])) = H1 at x1 h1 ⊢
    refine ⟨_, rfl, sz1, fun q nq => ?_⟩
    have x2 := Ext.new nq (o := .lst [V.int first])
    have h2 : (upd H1 q (.lst [V.int first])) q = some (.lst (([(first, [])] : Wd).map fun x => V.int (x.1 : Nat))) := upd_same
    have nqH := x1.free nq
    have nbq : b ≠ q := ne_of_none h1 nq
    have hb2 := x2 _ _ h1
    have x02 := x1.trans x2
    generalize upd H1 q (.lst [V.int first]) = H2 at x02 h2 hb2 ⊢
    have tr0 : TraceI H2 [(first, [])] [(keyI first, V.non)] := ⟨rfl, fun x hx => by
      rw [List.mem_singleton.mp hx]
      exact ⟨_, valV_pos rfl, .inl ⟨rfl, rfl⟩⟩⟩
    refine ⟨ExpWI H fl f2 b q first N g m, ⟨_, none, none, none, 0, [(first, [])], _, rfl, rfl, x02, h2, hb2, tr0, by simp, by simpa using fN, by simp, rfl⟩, ?_⟩
    rintro n σ H3 ⟨v6, v7, v8, i, Lq, kvs, rfl, rfl, x3, hq, hb, tr, nd, lt, le, run⟩
    have lN : Lq.length ≤ N := by
      have := nodup_len (N := N) nd fun x hx => by
        obtain ⟨y, hy, rfl⟩ := List.mem_map.mp hx
        exact lt y hy
      rwa [List.length_map] at this
    have n100 := gk.n
    refine ⟨_, rfl, _, rfl, q, _, rfl, .inl (SqL.of hq), _, _, rfl, rfl, _, rfl, ?_⟩
    rw [List.length_map]
    refine ite2 (fun c => ?_) (fun c => ?_)
    · have c : i < Lq.length := by have := of_decide_eq_true c; omega
      obtain ⟨x, hx⟩ : ∃ x, Lq[i]? = some x := ⟨Lq[i], List.getElem?_eq_getElem c⟩
      have hxm := List.mem_of_getElem? hx
      have xN := lt x hxm
      rw [show N + 1 - i = (N - i) + 1 by omega, bfsW_go hx] at run
      refine ⟨ExpWI H fl f2 b q first N g m (N - i), fun σ' H' h => ⟨_, by omega, h⟩, ?_⟩
      refine ⟨_, rfl, _, rfl, q, _, _, .int x.1, rfl, rfl, SqL.of hq, atI_nat (by rw [List.getElem?_map, hx]; rfl), ?_⟩
      refine ⟨f2, rfl, x3 _ _ hf2, _, rfl, x3 _ _ hf2, x3 _ _ hc2, imp2 _ _ _ _ ⟨x.1, rfl, xN, gk.st _ _ (ExtN.of x3) hG, m x.1, rfl, ?_⟩⟩
      cases hm : m x.1 with
      | true =>
        rw [hm, if_pos rfl] at run
        refine iteT ⟨_, rfl, _, rfl, sz2, fun t nt => ?_⟩
        have y := Ext.new nt (o := .tup [V.ref b, V.int x.1])
        refine kk _ t b kvs (.int x.1) (x3.trans y) (x3.free nt) upd_same nb (y _ _ hb) ?_ ?_
        · rw [← run]
          exact tr.ext fun t xs h => y _ _ h
        · rw [← run]
          exact ⟨hxm, rfl⟩
      | false =>
        rw [hm, if_neg Bool.false_ne_true] at run
        refine iteF ?_
        refine ⟨fl, rfl, x3 _ _ hf, _, rfl, x3 _ _ hf, x3 _ _ hc, imp _ _ _ _ ⟨x.1, rfl, xN, gk.st _ _ (ExtN.of x3) hG, fun H4 p ts x4 np hp hts => ?_⟩⟩
        have x04 := x3.trans x4
        have gl := gk.lt x.1 xN
        have g100 := gk.le x.1
        refine ⟨p, rfl, ⟨_, SqL.of hp⟩, ?_⟩
        refine for_it (walk_list (xs := ts.map V.ref)) (fun j σ H' => ∃ v7 v8 kvs, σ = [some (.int first), some (.ref fl), some (.ref f2), some (.ref b), some (.ref q), some (.int i), some (.int x.1), v7, v8] ∧ Ext H H' ∧ H' p = some (.lst (ts.map V.ref)) ∧ LeadsAt H' ts (g x.1) ∧
            H' q = some (.lst ((addW Lq x.2 ((g x.1).take j)).map fun y => V.int (y.1 : Nat))) ∧ H' b = some (.dK kvs) ∧ TraceI H' (addW Lq x.2 ((g x.1).take j)) kvs ∧ x ∈ addW Lq x.2 ((g x.1).take j))
          ⟨v7, v8, kvs, rfl, x04, hp, hts, x4 _ _ hq, x4 _ _ hb, tr.ext fun t xs h => x4 _ _ h, hxm⟩ (fun j σ H' _ ⟨_, _, _, _, _, h, _⟩ => SqL.of h) ?_ ?_
        · rintro j y σ H5 H6 hj ⟨v7, v8, kvs, rfl, x5, hp5, ht5, hq5, hb5, tr5, xm5⟩ ⟨rfl, hy⟩
          obtain ⟨t, htj, rfl⟩ := at_map hy
          obtain ⟨e, he, hte⟩ := ht5.at_ htj
          have ha := gl e (List.mem_of_getElem? he)
          have ok5 := addW_ok (N := N) (w := x.2) nd lt (l := (g x.1).take j) fun e he => gl e (List.mem_of_mem_take he)
          have l5 : (addW Lq x.2 ((g x.1).take j)).length ≤ N := by
            have := nodup_len (N := N) ok5.1 fun z hz => by
              obtain ⟨y, hy, rfl⟩ := List.mem_map.mp hz
              exact ok5.2.1 y hy
            rwa [List.length_map] at this
          have lk5 : kvs.length = (addW Lq x.2 ((g x.1).take j)).length := by
            have := congrArg List.length tr5.keys
            rwa [List.length_map, List.length_map] at this
          refine ⟨t, _, rfl, SqT.of hte, rfl, _, _, rfl, _, _, rfl, rfl, ?_⟩
          refine ⟨_, rfl, _, rfl, b, _, rfl, DGet.k (k := keyI e.2) hb5, _, rfl, ?_⟩
          rw [val_keyWI tr5]
          have en : addW Lq x.2 ((g x.1).take (j + 1)) = if e.2 ∈ (addW Lq x.2 ((g x.1).take j)).map (·.1) then addW Lq x.2 ((g x.1).take j) else addW Lq x.2 ((g x.1).take j) ++ [(e.2, x.2 ++ [e.1])] := by
            rw [take_more he, addW_append, addW_one]
          by_cases ce : e.2 ∈ (addW Lq x.2 ((g x.1).take j)).map (·.1)
          · rw [decide_eq_true ce]
            rw [if_pos ce] at en
            refine iteF ⟨_, _, kvs, rfl, x5, hp5, ht5, ?_, hb5, ?_, ?_⟩
            · rw [en]; exact hq5
            · rw [en]; exact tr5
            · rw [en]; exact xm5
          · rw [decide_eq_false ce]
            rw [if_neg ce] at en
            refine iteT ⟨_, rfl, _, rfl, sz2, fun T nT => ⟨_, rfl, _, rfl, b, _, rfl, DPut.k (k := keyI e.2) (Ext.new nT _ _ hb5) (small_l (by omega)), ?_⟩⟩
            have nv : valV kvs (keyI e.2) = none := by
              have := val_keyWI tr5 e.2
              rw [decide_eq_false ce] at this
              cases z : valV kvs (keyI e.2) with
              | none => rfl
              | some v =>
                rw [z] at this
                cases this
            have bT : b ≠ T := ne_of_none hb5 nT
            have keep : ∀ c o, H6 c = some o → c ≠ b → (upd (upd H6 T (.tup [.int x.1, .str e.1])) b (.dK (putK kvs (keyI e.2) (.ref T)))) c = some o := fun c o h n => by
              rw [upd_ne n]
              exact Ext.new nT _ _ h
            have tk : ∀ t xs, H6 t = some (.tup xs) → (upd (upd H6 T (.tup [.int x.1, .str e.1])) b (.dK (putK kvs (keyI e.2) (.ref T)))) t = some (.tup xs) := fun t xs h => keep t _ h (ne_of h hb5 (by intro z; cases z))
            have hb7 : (upd (upd H6 T (.tup [.int x.1, .str e.1])) b (.dK (putK kvs (keyI e.2) (.ref T)))) b = some (.dK (putK kvs (keyI e.2) (.ref T))) := upd_same
            have hT7 : (upd (upd H6 T (.tup [.int x.1, .str e.1])) b (.dK (putK kvs (keyI e.2) (.ref T)))) T = some (.tup [.int x.1, .str e.1]) := by
              rw [upd_ne bT.symm]
              exact upd_same
            have hq7 := keep _ _ hq5 nbq.symm
            have hp7 := keep _ _ hp5 (ne_of hp5 hb5 (by intro z; cases z))
            have x7 : Ext H (upd (upd H6 T (.tup [.int x.1, .str e.1])) b (.dK (putK kvs (keyI e.2) (.ref T)))) := fun c o h => keep _ _ (x5 _ _ h) (ne_of_none h nb)
            have t7 := ht5.ext tk
            have tr7 := tr5.ext tk
            generalize upd (upd H6 T (.tup [.int x.1, .str e.1])) b (.dK (putK kvs (keyI e.2) (.ref T))) = H7 at hb7 hT7 hq7 hp7 x7 t7 tr7 ⊢
            refine ⟨_, rfl, .inl ⟨rfl, _, SqL.of hq7⟩, _, rfl, q, _, _, rfl, rfl, hq7, by rw [List.length_map]; exact small_l (by omega), ?_⟩
            have npq : p ≠ q := fun z => by
              rw [z, hq] at np
              cases np
            have tq : ∀ t xs, H7 t = some (.tup xs) → (upd H7 q (.lst ((addW Lq x.2 ((g x.1).take j)).map (fun y => V.int (y.1 : Nat)) ++ [V.int e.2]))) t = some (.tup xs) := fun t xs h => by
              rw [upd_ne (ne_of h hq7 (by intro z; cases z))]
              exact h
            refine ⟨_, _, putK kvs (keyI e.2) (.ref T), rfl, fun c o h => ?_, ?_, t7.ext tq, ?_, ?_, ?_, ?_⟩
            · rw [upd_ne (ne_of_none h nqH)]
              exact x7 _ _ h
            · rw [upd_ne npq]
              exact hp7
            · rw [upd_same, en, List.map_append]
              rfl
            · rw [upd_ne nbq]
              exact hb7
            · rw [en]
              have tr8 := tr7.ext tq
              refine ⟨?_, fun z hz => ?_⟩
              · rw [putK_new _ nv, List.map_append, List.map_append, tr5.keys]
                rfl
              · rw [valV_put]
                rcases List.mem_append.mp hz with hz | hz
                · have ne : ¬ keyI z.1 = keyI e.2 := fun h => ce (by
                    rw [← keyI_inj h]
                    exact List.mem_map.mpr ⟨z, hz, rfl⟩)
                  rw [if_neg ne]
                  obtain ⟨v, e1, e2⟩ := tr8.pred z hz
                  exact ⟨v, e1, e2.ext (fun _ _ h => h) fun y hy => List.mem_append.mpr (.inl hy)⟩
                · rw [List.mem_singleton.mp hz, if_pos rfl]
                  exact ⟨_, rfl, .inr ⟨T, x.1, e.1, x.2, rfl, List.mem_append.mpr (.inl xm5), rfl, tq _ _ hT7⟩⟩
            · rw [en]
              exact List.mem_append.mpr (.inl xm5)
        · rintro σ H5 ⟨v7, v8, kvs, rfl, x5, hp5, ht5, hq5, hb5, tr5, xm5⟩
          rw [List.length_map, hts.len, List.take_length] at hq5 tr5 xm5
          have ok5 := addW_ok (N := N) (w := x.2) nd lt (l := g x.1) gl
          refine ⟨_, rfl, _, _, rfl, rfl, ?_⟩
          refine ⟨some (.int x.1), v7, v8, i + 1, addW Lq x.2 (g x.1), kvs, by omega, ?_, x5, hq5, hb5, tr5, ok5.1, ok5.2.1, by have := ok5.2.2; omega, ?_⟩
          · rfl
          · rw [show N + 1 - (i + 1) = N - i by omega]
            exact run
    · have c : Lq.length ≤ i := by
        have := of_decide_eq_false (Bool.not_eq_true _ ▸ c)
        omega
      rw [bfsW_end c] at run
      refine ⟨_, rfl, sz2, fun t nt => ?_⟩
      have y := Ext.new nt (o := .tup [V.ref b, V.non])
      refine kk _ t b kvs .non (x3.trans y) (x3.free nt) upd_same nb (y _ _ hb) ?_ ?_
      · rw [← run]
        exact tr.ext fun t xs h => y _ _ h
      · rw [← run]
end
end Sl
/-! ## A2 -/
set_option Elab.async false
set_option linter.all false
set_option maxRecDepth 100000
set_option maxHeartbeats 4000000
/-! what the search with a goal finds -/
namespace Sl
open PySem PySem.Spec PyProof.Rows L2
theorem addW_cons (q : Wd) (w : List Str) (e : Str × Nat) (l : List (Str × Nat)) : addW q w (e :: l) = addW (if e.2 ∈ q.map (·.1) then q else q ++ [(e.2, w ++ [e.1])]) w l := rfl
theorem addW_pre (w : List Str) : ∀ (l : List (Str × Nat)) (q : Wd), q <+: addW q w l
  | [], q => List.prefix_refl _
  | e :: l, q => by
    rw [addW_cons]
    by_cases c : e.2 ∈ q.map (·.1)
    · rw [if_pos c]
      exact addW_pre w l q
    · rw [if_neg c]
      exact (List.prefix_append _ _).trans (addW_pre w l _)
theorem addW_has (w : List Str) : ∀ (l : List (Str × Nat)) (q : Wd), ∀ e ∈ l, e.2 ∈ (addW q w l).map (·.1)
  | [], _, e, h => nomatch h
  | a :: l, q, e, h => by
    rw [addW_cons]
    rcases List.mem_cons.mp h with rfl | h
    · by_cases c : e.2 ∈ q.map (·.1)
      · rw [if_pos c]
        exact ((addW_pre w l q).map (·.1)).subset c
      · rw [if_neg c]
        refine ((addW_pre w l _).map (·.1)).subset ?_
        rw [List.map_append]
        exact List.mem_append.mpr (.inr (by simp))
    · exact addW_has w l _ e h
theorem addW_new (w : List Str) : ∀ (l : List (Str × Nat)) (q : Wd), ∀ x ∈ addW q w l, x ∈ q ∨ ∃ e ∈ l, x = (e.2, w ++ [e.1])
  | [], _, x, h => .inl h
  | a :: l, q, x, h => by
    rw [addW_cons] at h
    rcases addW_new w l _ x h with h | ⟨e, he, rfl⟩
    · by_cases c : a.2 ∈ q.map (·.1)
      · rw [if_pos c] at h
        exact .inl h
      · rw [if_neg c] at h
        rcases List.mem_append.mp h with h | h
        · exact .inl h
        · exact .inr ⟨a, List.mem_cons_self, List.mem_singleton.mp h⟩
    · exact .inr ⟨e, List.mem_cons_of_mem _ he, rfl⟩
/-- every word leads to its node -/
def WInv (sg : List Str) (δ : Nat → Str → Nat) (first : Nat) (q : Wd) : Prop := ∀ x ∈ q, run δ first x.2 = x.1 ∧ ∀ c ∈ x.2, c ∈ sg
section
variable {sg : List Str} {δ : Nat → Str → Nat} {m : Nat → Bool} {N first : Nat}
theorem WInv.add {q : Wd} {x : Nat × List Str} (h : WInv sg δ first q) (hx : x ∈ q) : WInv sg δ first (addW q x.2 (gOf sg δ x.1)) := fun y hy => by
  rcases addW_new _ _ _ y hy with hy | ⟨e, he, rfl⟩
  · exact h y hy
  · obtain ⟨c, hc, rfl⟩ := List.mem_map.mp he
    obtain ⟨h1, h2⟩ := h x hx
    refine ⟨?_, fun d hd => ?_⟩
    · rw [run_app, h1]
      rfl
    · rcases List.mem_append.mp hd with h | h
      · exact h2 d h
      · rw [List.mem_singleton.mp h]
        exact hc
theorem bfsW_inv (hlt : ∀ n, n < N → ∀ e ∈ gOf sg δ n, e.2 < N) : ∀ (n i : Nat) (q : Wd), WInv sg δ first q → (q.map (·.1)).Nodup → (∀ x ∈ q, x.1 < N) → i ≤ q.length → N + 1 ≤ n + i → (∀ j x, j < i → q[j]? = some x → m x.1 = false ∧ ∀ e ∈ gOf sg δ x.1, e.2 ∈ q.map (·.1)) →
    WInv sg δ first (bfsW (gOf sg δ) m n q i).1 ∧ (∀ x ∈ q, x ∈ (bfsW (gOf sg δ) m n q i).1) ∧ (∀ y, (bfsW (gOf sg δ) m n q i).2 = some y → m y.1 = true ∧ y ∈ (bfsW (gOf sg δ) m n q i).1) ∧
    ((bfsW (gOf sg δ) m n q i).2 = none → ∀ x ∈ (bfsW (gOf sg δ) m n q i).1, m x.1 = false ∧ ∀ e ∈ gOf sg δ x.1, e.2 ∈ (bfsW (gOf sg δ) m n q i).1.map (·.1))
  | 0, i, q, _, nd, lt, le, hn, _ => by
    have := nodup_len (N := N) nd fun y hy => by
      obtain ⟨x, hx, rfl⟩ := List.mem_map.mp hy
      exact lt x hx
    rw [List.length_map] at this
    omega
  | n + 1, i, q, wi, nd, lt, le, hn, cl => by
    by_cases c : i < q.length
    · obtain ⟨x, hx⟩ : ∃ x, q[i]? = some x := ⟨_, List.getElem?_eq_getElem c⟩
      have hxm := List.mem_of_getElem? hx
      rw [bfsW_go hx]
      cases hm : m x.1 with
      | true =>
        rw [if_pos rfl]
        refine ⟨wi, fun _ h => h, fun y hy => ?_, fun h => nomatch h⟩
        obtain rfl := Option.some.inj hy
        exact ⟨hm, hxm⟩
      | false =>
        rw [if_neg Bool.false_ne_true]
        have ok := addW_ok (w := x.2) nd lt (hlt x.1 (lt x hxm))
        have pre := addW_pre x.2 (gOf sg δ x.1) q
        have r := bfsW_inv hlt n (i + 1) (addW q x.2 (gOf sg δ x.1)) (wi.add hxm) ok.1 ok.2.1 (by have := ok.2.2; omega) (by omega) fun j y hj hy => by
          have hq : q[j]? = some y := by
            obtain ⟨t, ht⟩ := pre
            rw [← ht, List.getElem?_append_left (by omega)] at hy
            exact hy
          by_cases e : j = i
          · subst e
            rw [hx] at hq
            obtain rfl := Option.some.inj hq
            exact ⟨hm, addW_has _ _ _⟩
          · obtain ⟨h1, h2⟩ := cl j y (by omega) hq
            exact ⟨h1, fun e he => (pre.map (·.1)).subset (h2 e he)⟩
        exact ⟨r.1, fun y hy => r.2.1 y (pre.subset hy), r.2.2.1, r.2.2.2⟩
    · have c : q.length ≤ i := by omega
      rw [bfsW_end c]
      refine ⟨wi, fun _ h => h, fun y hy => (nomatch hy), fun _ x hx => ?_⟩
      have hx : x ∈ q := hx
      obtain ⟨j, hj⟩ := List.getElem?_of_mem hx
      exact cl j x (by have := (List.getElem?_eq_some_iff.mp hj).1; omega) hj
theorem search_inv (hlt : ∀ n, n < N → ∀ e ∈ gOf sg δ n, e.2 < N) (fN : first < N) : WInv sg δ first (searchW (gOf sg δ) m N first).1 ∧ (∀ x ∈ ([(first, [])] : Wd), x ∈ (searchW (gOf sg δ) m N first).1) ∧ (∀ y, (searchW (gOf sg δ) m N first).2 = some y → m y.1 = true ∧ y ∈ (searchW (gOf sg δ) m N first).1) ∧
    ((searchW (gOf sg δ) m N first).2 = none → ∀ x ∈ (searchW (gOf sg δ) m N first).1, m x.1 = false ∧ ∀ e ∈ gOf sg δ x.1, e.2 ∈ (searchW (gOf sg δ) m N first).1.map (·.1)) := bfsW_inv (m := m) (first := first) hlt (N + 1) 0 [(first, [])] (fun x hx => by rw [List.mem_singleton.mp hx]; exact ⟨rfl, fun _ h => nomatch h⟩) (by simp) (by simpa using fN) (Nat.zero_le _) (by omega) (fun _ _ h => absurd h (Nat.not_lt_zero _))
/-- a goal that is found is one, and its word leads there -/
theorem search_some (hlt : ∀ n, n < N → ∀ e ∈ gOf sg δ n, e.2 < N) (fN : first < N) {y : Nat × List Str} (h : (searchW (gOf sg δ) m N first).2 = some y) : m (run δ first y.2) = true ∧ (∀ c ∈ y.2, c ∈ sg) ∧ run δ first y.2 = y.1 := by
  obtain ⟨i1, _, i3, _⟩ := search_inv (m := m) hlt fN
  obtain ⟨h1, h2⟩ := i3 y h
  obtain ⟨h3, h4⟩ := i1 y h2
  exact ⟨by rw [h3]; exact h1, h4, h3⟩
/-- none is found: no word leads to a goal -/
theorem search_none (hlt : ∀ n, n < N → ∀ e ∈ gOf sg δ n, e.2 < N) (fN : first < N) (h : (searchW (gOf sg δ) m N first).2 = none) (w : List Str) (hw : ∀ c ∈ w, c ∈ sg) : m (run δ first w) = false := by
  obtain ⟨_, i2, _, i4⟩ := search_inv (m := m) hlt fN
  have cl := i4 h
  have all : ∀ (w : List Str) (n : Nat), n ∈ (searchW (gOf sg δ) m N first).1.map (·.1) → (∀ c ∈ w, c ∈ sg) → run δ n w ∈ (searchW (gOf sg δ) m N first).1.map (·.1) := fun w => by
    induction w with
    | nil => exact fun n hn _ => hn
    | cons c w ih =>
      intro n hn hw
      rw [run_cons]
      obtain ⟨x, hx, rfl⟩ := List.mem_map.mp hn
      exact ih _ ((cl x hx).2 (c, δ x.1 c) (List.mem_map.mpr ⟨c, hw c List.mem_cons_self, rfl⟩)) fun c' h' => hw c' (List.mem_cons_of_mem _ h')
  have f0 : first ∈ (searchW (gOf sg δ) m N first).1.map (·.1) := List.mem_map.mpr ⟨_, i2 (first, []) List.mem_cons_self, rfl⟩
  obtain ⟨x, hx, e⟩ := List.mem_map.mp (all w first f0 hw)
  rw [← e]
  exact (cl x hx).1
end
end Sl
namespace Sl
open PySem PySem.Spec PyProof.Rows L2
/-- a word is no longer than the place of its node -/
def WLen (q : Wd) : Prop := ∀ (j : Nat) (y : Nat × List Str), q[j]? = some y → y.2.length ≤ j
theorem addW_len {w : List Str} : ∀ (l : List (Str × Nat)) (q : Wd), WLen q → w.length + 1 ≤ q.length → WLen (addW q w l)
  | [], q, h, _ => h
  | e :: l, q, h, hw => by
    rw [addW_cons]
    by_cases c : e.2 ∈ q.map (·.1)
    · rw [if_pos c]
      exact addW_len l q h hw
    · rw [if_neg c]
      refine addW_len l _ (fun j y hy => ?_) (by rw [List.length_append]; omega)
      by_cases cj : j < q.length
      · rw [List.getElem?_append_left cj] at hy
        exact h j y hy
      · have hl := (List.getElem?_eq_some_iff.mp hy).1
        rw [List.length_append] at hl
        have hl : j < q.length + 1 := hl
        obtain rfl : j = q.length := by omega
        rw [List.getElem?_append_right (Nat.le_refl _), Nat.sub_self] at hy
        obtain rfl := Option.some.inj hy
        show (w ++ [e.1]).length ≤ _
        rw [List.length_append]
        exact hw
theorem bfsW_len {g : Gr} {m : Nat → Bool} : ∀ (n i : Nat) (q : Wd), WLen q → WLen (bfsW g m n q i).1
  | 0, _, _, h => h
  | n + 1, i, q, h => by
    by_cases c : i < q.length
    · obtain ⟨x, hx⟩ : ∃ x, q[i]? = some x := ⟨_, List.getElem?_eq_getElem c⟩
      rw [bfsW_go hx]
      cases hm : m x.1 with
      | true =>
        rw [if_pos rfl]
        exact h
      | false =>
        rw [if_neg Bool.false_ne_true]
        exact bfsW_len n (i + 1) _ (addW_len _ _ h (by have := h i x hx; omega))
    · rw [bfsW_end (by omega)]
      exact h
theorem bfsW_nd {g : Gr} {m : Nat → Bool} {N : Nat} (hlt : ∀ n, n < N → ∀ e ∈ g n, e.2 < N) : ∀ (n i : Nat) (q : Wd), (q.map (·.1)).Nodup → (∀ x ∈ q, x.1 < N) → ((bfsW g m n q i).1.map (·.1)).Nodup ∧ ∀ x ∈ (bfsW g m n q i).1, x.1 < N
  | 0, _, _, h1, h2 => ⟨h1, h2⟩
  | n + 1, i, q, h1, h2 => by
    by_cases c : i < q.length
    · obtain ⟨x, hx⟩ : ∃ x, q[i]? = some x := ⟨_, List.getElem?_eq_getElem c⟩
      rw [bfsW_go hx]
      cases hm : m x.1 with
      | true =>
        rw [if_pos rfl]
        exact ⟨h1, h2⟩
      | false =>
        rw [if_neg Bool.false_ne_true]
        have ok := addW_ok (w := x.2) h1 h2 (hlt x.1 (h2 x (List.mem_of_getElem? hx)))
        exact bfsW_nd hlt n (i + 1) _ ok.1 ok.2.1
    · rw [bfsW_end (by omega)]
      exact ⟨h1, h2⟩
/-- the nodes are different, the words short -/
theorem search_nd {g : Gr} {m : Nat → Bool} {N first : Nat} (hlt : ∀ n, n < N → ∀ e ∈ g n, e.2 < N) (fN : first < N) : ((searchW g m N first).1.map (·.1)).Nodup ∧ ∀ x ∈ (searchW g m N first).1, x.2.length < N := by
  obtain ⟨h1, h2⟩ := bfsW_nd (m := m) hlt (N + 1) 0 [(first, [])] (by simp) (by simpa using fN)
  have h3 : WLen (searchW g m N first).1 := bfsW_len (N + 1) 0 [(first, [])] fun j y hy => by
    cases j with
    | zero =>
      obtain rfl := Option.some.inj hy
      exact Nat.le_refl _
    | succ j => cases j <;> cases hy
  have len := nodup_len (N := N) h1 fun y hy => by
    obtain ⟨x, hx, rfl⟩ := List.mem_map.mp hy
    exact h2 x hx
  rw [List.length_map] at len
  refine ⟨h1, fun x hx => ?_⟩
  obtain ⟨j, hj⟩ := List.getElem?_of_mem hx
  have a := h3 j x hj
  have b := (List.getElem?_eq_some_iff.mp hj).1
  have len : (searchW g m N first).1.length ≤ N := len
  omega
end Sl
/-! ## R5 -/
set_option Elab.async false
set_option linter.all false
set_option maxRecDepth 100000
set_option maxHeartbeats 4000000
/-! list(reversed(list)) -/
namespace RT
open PySem PySem.Spec PyProof.Rows
section
variable {prog : Program} {w : World} {A : Around} {E : Value → Shared → Prop} {s : Shared}
/-- a list's items, from the last, are put behind those of a list that is empty -/
theorem extend_rev {R : Result → Shared → Prop} {it l S : Addr} {items : Array Value} {c₀ : Nat} {res : Value} (hh : A.handled = none) (hit : s.heap.IsRevIter it l ((items.size : Int) - 1)) (hl : s.heap.IsList l items) (ne1 : l ≠ it) (ne2 : S ≠ it) (ne3 : S ≠ l) (hn : items.size ≤ sizeLine)
    (hS : s.heap.get? S = some { cls := .type "list", data := .seq #[] c₀ })
    (hR : ∀ h' tk acc c', (∀ b o, b ≠ S → b ≠ it → s.heap.get? b = some o → h'.get? b = some o) → h'.get? S = some { cls := .type "list", dict := none, data := .seq acc c', slots := #[] } → ItemsOf (fun i v => items[items.size - 1 - i]? = some v) acc items.size → R (.ok (.ret res)) { s with heap := h', toks := tk }) :
    wpAny (model prog w) A.in1 (Builtin.List.listExtendWith (.ref S) (.ref it) res)
      (fun fin s' => match fin with | .done f => R (.ok f) s' | .again c' => c'.quiet = true ∧ codeAny (model prog w) A c' R s') (fun e s' => R (.error e) s') s := by
  have W := (Walks.listRev (prog := prog) (w := w) (A := A.in1) hh it l ne1 items).toS
  have out : S ∉ [it, l] := by simp only [List.mem_cons, List.not_mem_nil, or_false, not_or]; exact ⟨ne2, ne3⟩
  have ty := Heap.IsRevIter.typeIs (s := s) hit
  have diff : Builtin.List.listSameRef (.ref S) (.ref it) = false := by simp [Builtin.List.listSameRef, ne2]
  unfold Builtin.List.listExtendWith
  refine wpAny_bind (wpAny_typeOf ty ?_)
  rw [if_neg (by rw [diff]; decide)]
  refine wpAny_bind (wpAny_pyIter_revIter hit (wpAny_bind (wpAny_holding ?_)))
  unfold Builtin.List.listLengthHint
  refine wpAny_bind (wpAny_specialOf ty nolen_lri ?_)
  show wpAny _ A.in1 (specialOf (Value.ref it) (Str.ofString "__length_hint__") >>= _) _ _ _
  refine wpAny_bind (wpAny_specialOf ty hint_lri ?_)
  generalize hid : ("list_reverseiterator.__length_hint__" : String) = id0
  wp_delta
  rw [show splitId id0 = some ("list_reverseiterator", "__length_hint__") from by subst hid; decide +kernel]
  subst hid
  refine wpAny_bind (wpAny_isInstance (b := true) ty (by rw [isSubtype_type]; kernel_rfl) (wpAny_pure ?_))
  rw [if_neg (by decide)]
  have e0 : ((items.size : Nat) : Int) - 1 - ((0 : Nat) : Int) = (items.size : Int) - 1 := by omega
  refine wpAny_pure ⟨plainId_quiet F.plain_extend_loop _, codeAny_extend_loopS W hn _ out _ items.size 0 _ _ _ rfl (Nat.zero_le _) ⟨Nat.zero_le _, by rw [e0]; exact hit, hl⟩ hS (ItemsOf.nil _) fun s' acc c' hm got it' => ?_⟩
  rw [Moved.eq_with hm]
  refine hR s'.heap s'.toks acc c' (fun b o n1 n2 e => hm.heap b o (fun q => ?_) e) got it'
  rcases List.mem_cons.mp q with q | q
  · exact n1 q
  · exact n2 (List.mem_singleton.mp q)
theorem call_list_rev {it l : Addr} {items : Array Value} {Q : Value → Shared → Prop} (hh : A.handled = none) (hit : s.heap.IsRevIter it l ((items.size : Int) - 1)) (hl : s.heap.IsList l items) (ne : l ≠ it) (hn : items.size ≤ sizeLine)
    (hQ : ∀ h' tk acc c', (∀ b o, b ≠ it → s.heap.get? b = some o → h'.get? b = some o) → h'.get? s.heap.objs.size = some { cls := .type "list", dict := none, data := .seq acc c', slots := #[] } → ItemsOf (fun i v => items[items.size - 1 - i]? = some v) acc items.size → Q (.ref s.heap.objs.size) { s with heap := h', toks := tk }) :
    wpAny (model prog w) A (call (.type "list") [.ref it]) Q E s := by
  obtain ⟨oi, hoi, _⟩ := id hit
  obtain ⟨ol, hol, _⟩ := id hl
  have n2 : s.heap.objs.size ≠ it := Nat.ne_of_gt (Heap.lt_size hoi)
  have n3 : s.heap.objs.size ≠ l := Nat.ne_of_gt (Heap.lt_size hol)
  refine callType_codes (Q₁ := fun obj s₁ => obj = .ref s.heap.objs.size ∧ s₁ = { s with heap := s.heap.push { cls := .type "list", data := .seq #[] } }) F.called_list (F.typeCall_list_1 _) F.entry_list_init (code_list_new _ ⟨rfl, rfl⟩) fun obj s₁ h₁ => ?_
  obtain ⟨rfl, rfl⟩ := h₁
  have got : (s.heap.push { cls := .type "list", data := .seq #[] }).get? s.heap.objs.size = some { cls := .type "list", data := .seq #[] } := Heap.get?_push_size _ rfl
  refine ⟨⟨_, got, rfl⟩, F.args_list_init_2 _ _, ?_⟩
  show wpAny _ A.in1.in1 (do let old ← Builtin.List.listItems (.ref s.heap.objs.size); Builtin.List.listUpdate (.ref s.heap.objs.size) (fun _ => #[]); letGo old.toList.reverse; Builtin.List.listExtendWith (.ref s.heap.objs.size) (.ref it) .none) _ _ _
  refine wpAny_bind ?_
  unfold Builtin.List.listItems
  refine wpAny_bind (wpAny_seqItems got rfl (wpAny_pure ?_))
  show wpAny _ A.in1.in1 (updateSeq s.heap.objs.size (fun _ => #[]) >>= fun _ => letGo (#[] : Array Value).toList.reverse >>= fun _ => Builtin.List.listExtendWith (.ref s.heap.objs.size) (.ref it) .none) _ _ _
  refine wpAny_bind (wpAny_updateSeq got rfl ?_)
  have got2 := Heap.get?_update_self (Obj.mapSeq (fun _ => (#[] : Array Value))) got rfl
  have oth : ∀ b o, b ≠ s.heap.objs.size → s.heap.get? b = some o → ((s.heap.push { cls := .type "list", data := .seq #[] }).update s.heap.objs.size (Obj.mapSeq (fun _ => (#[] : Array Value)))).get? b = some o :=
    fun b o hb e => (Heap.get?_update_other _ _ (Ne.symm hb)).trans (Heap.get?_push_of_some _ e)
  refine wpAny_bind (wpAny_letGo ?_)
  refine extend_rev (A := A.in1) (it := it) (l := l) (items := items) hh (hit.at fun o e => oth it o n2.symm e) ?_ ne n2 n3 hn got2 fun h' tk acc c' k g i => ?_
  · obtain ⟨o, e, r⟩ := hl
    exact ⟨o, oth l o n3.symm e, r⟩
  · exact ⟨rfl, hQ h' tk acc c' (fun b o nb e => k b o (Nat.ne_of_lt (Heap.lt_size e)) nb (oth b o (Nat.ne_of_lt (Heap.lt_size e)) e)) g i⟩
end
end RT
namespace Sl
open PySem PySem.Spec PyProof.Rows L2 RT
/-- list(reversed(x)), x a list: a new list -/
def tListRev (K : PySem.W.Frag) (te : TE) : TE := fun σ H Q => te σ H fun v H1 => ∃ (a : Addr) (xs : List V), v = .ref a ∧ SqL K H1 a xs ∧ ∀ q, H1 q = none → Q (.ref q) (upd H1 q (.lst xs.reverse))
section
variable {X : Cx}
theorem pe_listRev {e : Expr} {te : TE} {p p2 pos pos2 : Pos} (hc : X.calm = true) (hg : Gl X "list") (hm : X.mg "list" = none) (bl : bootBuiltins "list" = some (.type "list")) (hg2 : Gl X "reversed") (hm2 : X.mg "reversed" = none) (he : PE X e te)
    (hs : starEach [e] X.env = (false, eval e X.env) :: starEach [] X.env := by rfl)
    (hs2 : starEach [.Call (.Name "reversed" p2) [e] [] pos2] X.env = (false, eval (.Call (.Name "reversed" p2) [e] [] pos2) X.env) :: starEach [] X.env := by rfl) :
    PE X (.Call (.Name "list" p) [.Call (.Name "reversed" p2) [e] [] pos2] [] pos) (tListRev X.K te) := by
  refine ⟨fun pins s σ G R J q => ?_⟩
  refine Call_ (ld_blt J hg hm bl (PyProof.Rows.callWith_type1 (args_cons (Call_ (ld_blt J hg2 hm2 PyProof.Rows.boot_reversed (PyProof.Rows.callWith_type1 (args_cons (thn (he.run pins s σ G _ J q) fun u s1 ⟨v, G1, J1, r1, q1⟩ => args_nil ?_) hs) hs rfl))) hs2) hs2 rfl))
  obtain ⟨a, xs, ev, hq, q⟩ := q1
  subst ev
  cases (show u = Value.ref a from r1)
  obtain ⟨its, rv, pl, sz⟩ := J1.list hq
  refine call_reversed_list pl.isList (args_nil ?_)
  have J2 : Inv X pins σ G1 { s1 with heap := s1.heap.push (revObj a ((its.toArray.size : Int) - 1)) } := J1.kept (t' := s1.toks) fun b o e => Heap.get?_push_of_some _ e
  obtain ⟨z0, z1, z2, z3, z4, z5⟩ := J1.fpOk (H' := G1) (b := s1.heap.objs.size) (Nat.le_refl _) (J1.hok.fresh (Nat.le_refl _))
  have hl := pl.isList
  obtain ⟨ol, hol, _⟩ := id hl
  have apart : a ≠ s1.heap.objs.size := Nat.ne_of_lt (Heap.lt_size hol)
  have few : its.toArray.size ≤ sizeLine := by rw [List.size_toArray, ← rv.length]; exact sz
  refine call_list_rev (s := { s1 with heap := s1.heap.push (revObj a ((its.toArray.size : Int) - 1)) }) (J1.ok.hd hc) ⟨_, Heap.get?_push_size _ rfl, rfl, rfl⟩ (hl.push _) apart few fun h' tk acc c' k got items => ?_
  have szl : (s1.heap.push (revObj a ((its.toArray.size : Int) - 1))).objs.size = s1.heap.objs.size + 1 := Heap.size_push ..
  have up : s1.heap.objs.size ≤ (s1.heap.push (revObj a ((its.toArray.size : Int) - 1))).objs.size := by rw [szl]; exact Nat.le_succ _
  refine ⟨.ref _, _, J1.laid (t' := tk) (a := (s1.heap.push (revObj a ((its.toArray.size : Int) - 1))).objs.size) (h' := h') (o := .lst xs.reverse) (fun b o e => k b o (Nat.ne_of_lt (Heap.lt_size e)) (Heap.get?_push_of_some _ e)) up ⟨by rw [List.length_reverse]; exact sz, acc.toList, c', RT.vals_rev rv items, by rw [Array.toArray_toList]; exact got⟩, rfl, q _ (J1.hok.fresh up)⟩
end
end Sl
/-! ## A3 -/
set_option Elab.async false
set_option linter.all false
set_option maxRecDepth 100000
set_option maxHeartbeats 4000000
set_option pp.maxSteps 900
set_option pp.deepTerms false
/-! retraced, least_way: nodes that are numbers -/
namespace Sl
open PySem PySem.Spec PyProof.Rows L2 LamX NdefX
abbrev sRetr : Stmt := top 12
abbrev sWay : Stmt := top 11
abbrev nRetr : List Str := ["before", "node", "signs", "step", "sign"]
def spRetrI : Sp := fun vs H Q _ => ∃ (b : Addr) (q : Wd) (kvs : List (Key × V)) (x : Nat × List Str), vs = [.ref b, .int x.1] ∧ H b = some (.dK kvs) ∧ TraceI H q kvs ∧ x ∈ q ∧ x.2.length ≤ 1000 ∧
  ∀ (H' : Hp) (L : Addr), Ext H H' → H L = none → H' L = some (.lst (x.2.map V.str)) → Q (.ref L) H'
theorem iteTx {b : Bool} {P Q : Prop} (h : b = true) (x : P) : if b = true then P else Q := by rw [if_pos h]; exact x
theorem iteFx {b : Bool} {P Q : Prop} (h : b = false) (x : Q) : if b = true then P else Q := by rw [h, if_neg Bool.false_ne_true]; exact x
section
variable {P : Program} {w : World} {K : PySem.W.Frag} {mg : Str → Option Value} {base : Heap}
theorem scRetr : FnScope nRetr ["before", "node"] (defScope sRetr) := ⟨rfl, rfl, rfl, by decide +kernel, rfl, by decide +kernel, by decide +kernel⟩
theorem ok_retrI {f : Addr} {fd : FuncData} (F : Fun K "retraced" "retraced" sRetr f fd) (zl : mg "list" = none) (zv : mg "reversed" = none) : FnOk P w K mg base CX0 1 f fd ["before", "node"] spRetrI := by
  refine F.ok scRetr (fun vs H Q E h => ?_) (fun cdv A0 outer s H vs Q E hr h => ?_)
  · obtain ⟨b, q, kvs, x, rfl, _⟩ := h
    rfl
  · obtain ⟨b, q, kvs, x, rfl, hb, tr, hx, l1000, kk⟩ := h
    have hu := hu_of hr
    refine ⟨_, pss_cons (ps_set (i := 2) scRetr.nd rfl (.inl rfl) (pe_lst pa_nil))
      (pss_cons (ps_set (i := 3) scRetr.nd rfl (.inl rfl) (pe_dget hu (pv 0) (pv 1) (fun _ _ => rfl)))
      (pss_cons (ps_while PassesOwn.never (pt_cmp (pc_notN (pv 3)))
        (pss_cons (ps_asg (pv 3) (pg_tup (by rfl) (pgs_cons (pg_name (i := 1) scRetr.nd rfl (.inl rfl)) (pgs_cons (pg_name (i := 4) scRetr.nd rfl (.inl rfl)) pgs_nil))))
        (pss_cons (ps_expr (pe_bm PySem.F.plainAttrs_list PySem.F.slot_list_append PySem.F.type_list_append mt_append (pv 2) (pa_cons (pv 4) pa_nil)))
        (pss_one (ps_set (i := 3) scRetr.nd rfl (.inl rfl) (pe_dget hu (pv 0) (pv 1) (fun _ _ => rfl)))))))
      (pss_one (ps_ret (pe_listRev rfl (by rfl) zl (by decide +kernel) (by rfl) zv (pv 2)))))), ?_⟩
    refine ⟨by show 0 ≤ sizeLine; decide, fun S nS => ?_⟩
    have x1 := Ext.new nS (o := .lst [])
    have hS : (upd H S (.lst [])) S = some (.lst (([] : List Str).map V.str)) := upd_same
    generalize upd H S (.lst []) = H1 at x1 hS ⊢
    obtain ⟨v0, hv0, pd0⟩ := tr.pred x hx
    have nbS : b ≠ S := ne_of_none hb nS
    refine ⟨_, rfl, _, rfl, b, v0, rfl, by rw [← hv0]; exact DGet.k (k := keyI x.1) (x1 _ _ hb), ?_⟩
    refine ⟨fun n σ H' => ∃ (y : Nat × List Str) (r : List Str) (v : V) (v4 : Option V), n = y.2.length ∧ σ = [some (.ref b), some (.int y.1), some (.ref S), some v, v4] ∧ Ext H H' ∧ H' S = some (.lst (r.map V.str)) ∧ y ∈ q ∧ x.2 = y.2 ++ r.reverse ∧ valV kvs (keyI y.1) = some v ∧ PredI H q y.2 v,
      ⟨_, x, [], v0, none, rfl, rfl, x1, hS, hx, by simp, hv0, pd0⟩, ?_⟩
    rintro n σ H2 ⟨y, r, v, v4, rfl, rfl, x2, hS2, hy, ew, hv, pd⟩
    have hb2 := x2 _ _ hb
    refine ⟨_, rfl, _, rfl, ?_⟩
    rcases pd with ⟨e, rfl⟩ | ⟨T, n, sg, u, e1, e2, rfl, hT⟩
    · refine iteFx rfl ?_
      refine ⟨_, rfl, S, _, rfl, SqL.of hS2, fun L nL => ?_⟩
      refine kk _ L (x2.trans (Ext.new nL)) (x2.free nL) ?_
      rw [upd_same, ← List.map_reverse, ew, e, List.nil_append]
    · refine iteTx rfl ?_
      have ln : y.2.length = u.length + 1 := by rw [e1, List.length_append]; rfl
      refine ⟨_, fun σ' H' h => ⟨u.length, by omega, h⟩, ?_⟩
      have lr : r.length ≤ 1000 := by
        have := congrArg List.length ew
        rw [List.length_append, List.length_reverse] at this
        omega
      refine ⟨_, rfl, T, _, rfl, SqT.of (x2 _ _ hT), rfl, _, _, rfl, _, _, rfl, rfl, ?_⟩
      refine ⟨_, rfl, .inl ⟨rfl, _, SqL.of hS2⟩, _, rfl, S, _, _, rfl, rfl, hS2, by rw [List.length_map]; exact small_l (by omega), ?_⟩
      have keep : ∀ c o, H c = some o → (upd H2 S (.lst (r.map V.str ++ [V.str sg]))) c = some o := fun c o h => by
        rw [upd_ne (ne_of_none h nS)]
        exact x2 _ _ h
      obtain ⟨v', hv', pd'⟩ := tr.pred (n, u) e2
      refine ⟨_, rfl, _, rfl, b, v', rfl, by rw [← hv']; exact DGet.k (k := keyI n) (keep _ _ hb), ?_⟩
      refine ⟨(n, u), r ++ [sg], v', _, rfl, rfl, keep, ?_, e2, ?_, hv', pd'⟩
      · rw [upd_same, List.map_append]
        rfl
      · rw [List.reverse_append, ew, e1]
        simp
abbrev nWay : List Str := ["first", "leads", "is_goal", "before", "goal"]
def spWayI (P : Program) (w : World) (K : PySem.W.Frag) (mg : Str → Option Value) (base : Heap) (k : Nat) : List (Str × Addr) → List Str → List (Option V) → Sp := fun cl fr ws vs H Q _ => ∃ (f f2 : Addr) (F F2 : LF) (first N : Nat) (G : Hp → Prop) (sg : List Str) (δ : Nat → Str → Nat) (m : Nat → Bool), vs = [.int first, .ref f, .ref f2] ∧
  H f = some (LamO f F) ∧ H F.c = some (CodeO F.c F.qual) ∧ F.cl = cl ∧ LeadL P w K mg base k G (gOf sg δ) N F fr ws ∧ H f2 = some (LamO f2 F2) ∧ H F2.c = some (CodeO F2.c F2.qual) ∧ F2.cl = cl ∧ GoalL P w K mg base k G m N F2 fr ws ∧ G H ∧ GrOk G (gOf sg δ) N ∧ first < N ∧ (∀ c ∈ sg, c.length = 1) ∧
  ∀ (H' : Hp), Ext H H' → (match (searchW (gOf sg δ) m N first).2 with | none => Q .non H' | some x => Q (.str (Txt.join "" x.2)) H')
theorem sum_ones : ∀ {ys : List Str}, (∀ z ∈ ys, z.length = 1) → (ys.map fun x => x.length).sum = ys.length
  | [], _ => rfl
  | y :: ys, h => by
    rw [List.map_cons, List.sum_cons, sum_ones fun z hz => h z (List.mem_cons_of_mem _ hz), h y List.mem_cons_self, List.length_cons]
    omega
theorem scWay : FnScope nWay ["first", "leads", "is_goal"] (defScope sWay) := ⟨rfl, rfl, rfl, by decide +kernel, rfl, by decide +kernel, by decide +kernel⟩
theorem ok_wayI {k : Nat} {f fE fR : Addr} {fd fdE fdR : FuncData} (Fn : Fun K "least_way" "least_way" sWay f fd) (aE : At K mg "explored" fE fdE ["first", "leads", "is_goal"] []) (gE : FnV P w K mg base CX0 (k + 2) fE fdE ["first", "leads", "is_goal"] (spExploredI P w K mg base (k + 1)))
    (aR : At K mg "retraced" fR fdR ["before", "node"] []) (gR : FnOk P w K mg base CX0 1 fR fdR ["before", "node"] spRetrI) : FnV P w K mg base CX0 (k + 3) f fd ["first", "leads", "is_goal"] (spWayI P w K mg base (k + 1)) := by
  refine Sl.Fun.okV Fn scWay (fun cl fr ws vs H Q E h => ?_) (fun A0 outer s H vs cl fr ws Q E hr C h => ?_)
  · obtain ⟨f, f2, F, F2, first, N, G, sg, δ, m, rfl, _⟩ := h
    rfl
  · obtain ⟨fl, f2, F, F2, first, N, G, sg, δ, m, rfl, hf, hc, ecl, LL, hf2, hc2, ecl2, LI, hG, gk, fN, one, kk⟩ := h
    have hr1 := hr.mono (show 1 ≤ k + 2 by omega)
    refine ⟨_, pss_cons (ps_asg (pe_callV (cl := fun _ => cl) (fr := fr) (ws := fun _ => ws) (E := fun _ _ _ => False) gE (fun pins σ H s I => cellsF_later C rfl rfl rfl I) hr (by rfl) aE.g aE.kp aE.b pass0 (pa_cons (pv 0) (pa_cons (pv 1) (pa_cons (pv 2) pa_nil)))) (pg_tup (by rfl) (pgs_cons (pg_name (i := 3) scWay.nd rfl (.inl rfl)) (pgs_cons (pg_name (i := 4) scWay.nd rfl (.inl rfl)) pgs_nil))))
      (pss_one (ps_ret (pe_ifExp (pt_cmp (pc_isN (pv 4))) pe_non (pe_join pe_str (pe_call (E := fun _ _ _ => False) gR hr1 (by rfl) aR.g aR.kp aR.b .nil pass0 (pa_cons (pv 3) (pa_cons (pv 4) pa_nil))))))), ?_⟩
    refine ⟨_, rfl, _, rfl, _, rfl, fl, f2, F, F2, first, N, G, gOf sg δ, m, rfl, hf, hc, ecl, LL, hf2, hc2, ecl2, LI, hG, gk, fN, fun H1 t b kvs v x1 nt ht nb hb tr hv => ?_⟩
    obtain ⟨nd, sh⟩ := search_nd (m := m) gk.lt fN
    have si := search_inv (sg := sg) (δ := δ) (m := m) gk.lt fN
    have kk := kk
    generalize searchW (gOf sg δ) m N first = r at tr hv nd sh kk si
    obtain ⟨q, o⟩ := r
    refine ⟨t, _, rfl, SqT.of ht, rfl, _, _, rfl, _, _, rfl, rfl, ?_⟩
    refine ⟨_, rfl, _, rfl, ?_⟩
    cases o with
    | none =>
      obtain rfl : v = .non := hv
      exact iteTx rfl (kk H1 x1)
    | some x =>
      obtain ⟨hx, rfl⟩ := hv
      refine iteFx rfl ⟨⟨_, rfl⟩, _, rfl, _, rfl, b, q, kvs, x, rfl, hb, tr, hx, by have := sh x hx; have := gk.n; omega, fun H2 L x2 nL hL => ?_⟩
      have so := sum_ones (ys := x.2) fun c hc => one c ((si.1 x hx).2 c hc)
      have e0 : (Str.ofString "").length = 0 := rfl
      refine ⟨Str.ofString "", L, x.2, rfl, rfl, .inl (SqL.of hL), by rw [so, e0]; have := sh x hx; have := gk.n; omega, kk H2 (x1.trans x2)⟩
end
end Sl
/-! ## A4 -/
set_option Elab.async false
set_option linter.all false
set_option maxRecDepth 100000
set_option maxHeartbeats 4000000
/-! texts in their order: by length, then by signs; the word that a search finds is the first of all -/
namespace Sl
open PySem PySem.Spec PyProof.Rows L2
theorem idx_skip {a c : Str} {s : List Str} (h : a ≠ c) : (a :: s).idxOf c = s.idxOf c + 1 := by
  rw [List.idxOf_cons, show (a == c) = false from beq_eq_false_iff_ne.mpr h]
  rfl
/-- the place of a word among all -/
def rankW (sg : List Str) (w : List Str) : Nat := w.foldl (fun r c => r * sg.length + sg.idxOf c + 1) 0
section
variable {sg : List Str}
theorem rank_snoc (w : List Str) (c : Str) : rankW sg (w ++ [c]) = rankW sg w * sg.length + sg.idxOf c + 1 := by
  unfold rankW
  rw [List.foldl_append]
  rfl
theorem rank_up {u v : List Str} {c d : Str} (hc : c ∈ sg) (h : rankW sg u < rankW sg v) : rankW sg (u ++ [c]) < rankW sg (v ++ [d]) := by
  rw [rank_snoc, rank_snoc]
  have h1 : sg.idxOf c < sg.length := List.idxOf_lt_length_iff.mpr hc
  have h2 : (rankW sg u + 1) * sg.length ≤ rankW sg v * sg.length := Nat.mul_le_mul_right _ h
  rw [Nat.add_mul, Nat.one_mul] at h2
  omega
theorem rank_le {u v : List Str} {c : Str} (h : rankW sg u ≤ rankW sg v) : rankW sg (u ++ [c]) ≤ rankW sg (v ++ [c]) := by
  rw [rank_snoc, rank_snoc]
  have h2 : rankW sg u * sg.length ≤ rankW sg v * sg.length := Nat.mul_le_mul_right _ h
  omega
theorem rank_grow {u : List Str} {c : Str} (hc : c ∈ sg) : rankW sg u < rankW sg (u ++ [c]) := by
  rw [rank_snoc]
  have h1 : sg.idxOf c < sg.length := List.idxOf_lt_length_iff.mpr hc
  have h2 : rankW sg u * 1 ≤ rankW sg u * sg.length := Nat.mul_le_mul_left _ (by omega)
  omega
/-- all texts: the empty one, then each of them with each sign behind it -/
theorem allW_succ : ∀ k : Nat, allW sg (k + 1) = [] :: (allW sg k).flatMap fun w => sg.map fun c => w ++ [c]
  | 0 => by
    unfold allW
    rfl
  | k + 1 => by
    have e : allW sg (k + 1 + 1) = allW sg (k + 1) ++ levW sg (k + 1 + 1) := rfl
    have e2 : levW sg (k + 1 + 1) = (levW sg (k + 1)).flatMap fun w => sg.map fun c => w ++ [c] := rfl
    have e3 : allW sg (k + 1) = allW sg k ++ levW sg (k + 1) := rfl
    rw [e, e2, allW_succ k, List.cons_append, ← List.flatMap_append, ← e3, allW_succ k]
theorem asc_flat (nd : sg.Nodup) : ∀ {l : List (List Str)}, l.Pairwise (fun u v => rankW sg u < rankW sg v) → (l.flatMap fun w => sg.map fun c => w ++ [c]).Pairwise (fun u v => rankW sg u < rankW sg v)
  | [], _ => List.Pairwise.nil
  | w :: l, h => by
    obtain ⟨h1, h2⟩ := List.pairwise_cons.mp h
    rw [List.flatMap_cons]
    refine List.pairwise_append.mpr ⟨?_, asc_flat nd h2, fun u hu v hv => ?_⟩
    · rw [List.pairwise_map]
      have : ∀ (s : List Str), s.Nodup → ∀ t : List Str, (∀ c ∈ s, c ∈ sg ∧ sg.idxOf c = t.length + s.idxOf c) → s.Pairwise fun a b => rankW sg (w ++ [a]) < rankW sg (w ++ [b]) := fun s => by
        induction s with
        | nil => exact fun _ _ _ => List.Pairwise.nil
        | cons a s ih =>
          intro nds t ht
          obtain ⟨n1, n2⟩ := List.nodup_cons.mp nds
          refine List.pairwise_cons.mpr ⟨fun b hb => ?_, ih n2 (t ++ [a]) fun c hc => ⟨(ht c (List.mem_cons_of_mem _ hc)).1, ?_⟩⟩
          · rw [rank_snoc, rank_snoc, (ht a List.mem_cons_self).2, (ht b (List.mem_cons_of_mem _ hb)).2, List.idxOf_cons_self, idx_skip (fun z => n1 (by rw [z]; exact hb))]
            omega
          · rw [(ht c (List.mem_cons_of_mem _ hc)).2, idx_skip (fun z => n1 (by rw [z]; exact hc)), List.length_append]
            show _ = t.length + 1 + _
            omega
      exact this sg nd [] fun c hc => ⟨hc, by simp⟩
    · obtain ⟨c, hc, rfl⟩ := List.mem_map.mp hu
      obtain ⟨w', hw', hv⟩ := List.mem_flatMap.mp hv
      obtain ⟨d, hd, rfl⟩ := List.mem_map.mp hv
      exact rank_up hc (h1 w' hw')
theorem allW_asc (nd : sg.Nodup) : ∀ k : Nat, (allW sg k).Pairwise fun u v => rankW sg u < rankW sg v
  | 0 => by
    unfold allW
    exact List.pairwise_singleton _ _
  | k + 1 => by
    rw [allW_succ]
    refine List.pairwise_cons.mpr ⟨fun v hv => ?_, asc_flat nd (allW_asc nd k)⟩
    obtain ⟨w, hw, hv⟩ := List.mem_flatMap.mp hv
    obtain ⟨c, hc, rfl⟩ := List.mem_map.mp hv
    rw [rank_snoc]
    exact Nat.succ_pos _
/-- the first of all that do -/
theorem first_is (nd : sg.Nodup) {k : Nat} {p : List Str → Bool} {y : List Str} (hy : y ∈ allW sg k) (py : p y = true) (mn : ∀ v, (∀ c ∈ v, c ∈ sg) → p v = true → rankW sg y ≤ rankW sg v) : ((allW sg k).filter p).head? = some y := by
  have as := (allW_asc nd k).filter p
  have hm : y ∈ (allW sg k).filter p := List.mem_filter.mpr ⟨hy, py⟩
  cases e : (allW sg k).filter p with
  | nil =>
    rw [e] at hm
    cases hm
  | cons h t =>
    rw [e] at hm as
    have hh : h ∈ (allW sg k).filter p := by
      rw [e]
      exact List.mem_cons_self
    obtain ⟨h1, h2⟩ := List.mem_filter.mp hh
    have le := mn h (allW_mem.mp h1).2 h2
    rcases List.mem_cons.mp hm with z | z
    · rw [z]
      rfl
    · have := (List.pairwise_cons.mp as).1 y z
      omega
end
/-! ### what the search finds is the first -/
section
variable {sg : List Str} {δ : Nat → Str → Nat} {m : Nat → Bool} {N first : Nat}
/-- the queue, its first i nodes done -/
structure QInv (sg : List Str) (δ : Nat → Str → Nat) (m : Nat → Bool) (first : Nat) (q : Wd) (i : Nat) : Prop where
  z : q[0]? = some (first, [])
  asc : q.Pairwise fun x y => rankW sg x.2 < rankW sg y.2
  sub : ∀ y ∈ q, y.2 = [] ∨ ∃ j x c, j < i ∧ q[j]? = some x ∧ c ∈ sg ∧ y.2 = x.2 ++ [c]
  no : ∀ j x, j < i → q[j]? = some x → m x.1 = false
  cl : ∀ j x, j < i → q[j]? = some x → ∀ c ∈ sg, ∃ y ∈ q, y.1 = δ x.1 c ∧ rankW sg y.2 ≤ rankW sg (x.2 ++ [c])
theorem addW_asc {w : List Str} (nd : sg.Nodup) (f : Str → Nat) : ∀ (s t : List Str) (q : Wd), s.Nodup → (∀ c ∈ s, c ∈ sg ∧ sg.idxOf c = t.length + s.idxOf c) → q.Pairwise (fun x y => rankW sg x.2 < rankW sg y.2) → (∀ y ∈ q, rankW sg y.2 < rankW sg w * sg.length + t.length + 1) →
    (addW q w (s.map fun c => (c, f c))).Pairwise (fun x y => rankW sg x.2 < rankW sg y.2) ∧ ∀ c ∈ s, (∀ y ∈ q, y.1 = f c → rankW sg y.2 ≤ rankW sg (w ++ [c])) → ∃ y ∈ addW q w (s.map fun c => (c, f c)), y.1 = f c ∧ rankW sg y.2 ≤ rankW sg (w ++ [c])
  | [], t, q, _, _, as, _ => ⟨as, fun c h => nomatch h⟩
  | a :: s, t, q, nds, ht, as, hb => by
    obtain ⟨n1, n2⟩ := List.nodup_cons.mp nds
    have ra : rankW sg (w ++ [a]) = rankW sg w * sg.length + t.length + 1 := by
      rw [rank_snoc, (ht a List.mem_cons_self).2, List.idxOf_cons_self]
      omega
    have hs : ∀ c ∈ s, c ∈ sg ∧ sg.idxOf c = (t ++ [a]).length + s.idxOf c := fun c hc => ⟨(ht c (List.mem_cons_of_mem _ hc)).1, by
      rw [(ht c (List.mem_cons_of_mem _ hc)).2, idx_skip (fun z => n1 (by rw [z]; exact hc)), List.length_append]
      show _ = t.length + 1 + _
      omega⟩
    have lt : (t ++ [a]).length = t.length + 1 := by rw [List.length_append]; rfl
    rw [List.map_cons, addW_cons]
    by_cases c : (a, f a).2 ∈ q.map (·.1)
    · rw [if_pos c]
      obtain ⟨r1, r2⟩ := addW_asc (w := w) nd f s (t ++ [a]) q n2 hs as fun y hy => by
        have := hb y hy
        omega
      refine ⟨r1, fun d hd hq => ?_⟩
      rcases List.mem_cons.mp hd with rfl | hd
      · obtain ⟨y, hy, e⟩ := List.mem_map.mp c
        exact ⟨y, (addW_pre _ _ _).subset hy, e, hq y hy e⟩
      · exact r2 d hd hq
    · rw [if_neg c]
      have bn : ∀ y ∈ q ++ [((a, f a).2, w ++ [(a, f a).1])], rankW sg y.2 < rankW sg w * sg.length + (t ++ [a]).length + 1 := fun y hy => by
        rcases List.mem_append.mp hy with hy | hy
        · have := hb y hy
          omega
        · rw [List.mem_singleton.mp hy]
          show rankW sg (w ++ [a]) < _
          omega
      obtain ⟨r1, r2⟩ := addW_asc (w := w) nd f s (t ++ [a]) (q ++ [((a, f a).2, w ++ [(a, f a).1])]) n2 hs (List.pairwise_append.mpr ⟨as, List.pairwise_singleton _ _, fun x hx y hy => by
        rw [List.mem_singleton.mp hy]
        show _ < rankW sg (w ++ [a])
        rw [ra]
        exact hb x hx⟩) bn
      refine ⟨r1, fun d hd hq => ?_⟩
      rcases List.mem_cons.mp hd with rfl | hd
      · exact ⟨(f d, w ++ [d]), (addW_pre _ _ _).subset (List.mem_append.mpr (.inr (List.mem_singleton.mpr rfl))), rfl, Nat.le_refl _⟩
      · refine r2 d hd fun y hy e => ?_
        rcases List.mem_append.mp hy with hy | hy
        · exact hq y hy e
        · rw [List.mem_singleton.mp hy]
          show rankW sg (w ++ [a]) ≤ _
          rw [ra, rank_snoc, (hs d hd).2]
          omega
theorem QInv.step (nd : sg.Nodup) {q : Wd} {i : Nat} {x : Nat × List Str} (h : QInv sg δ m first q i) (hx : q[i]? = some x) (hm : m x.1 = false) : QInv sg δ m first (addW q x.2 (gOf sg δ x.1)) (i + 1) := by
  have pre := addW_pre x.2 (gOf sg δ x.1) q
  have at_ : ∀ j y, j < q.length → (addW q x.2 (gOf sg δ x.1))[j]? = some y → q[j]? = some y := fun j y hj e => by
    obtain ⟨t, ht⟩ := pre
    rw [← ht, List.getElem?_append_left hj] at e
    exact e
  have at' : ∀ (j : Nat) (y : Nat × List Str), q[j]? = some y → (addW q x.2 (gOf sg δ x.1))[j]? = some y := fun j y e => by
    obtain ⟨t, ht⟩ := pre
    rw [← ht, List.getElem?_append_left (List.getElem?_eq_some_iff.mp e).1]
    exact e
  have il := (List.getElem?_eq_some_iff.mp hx).1
  have lt : ∀ {j y}, j < i → q[j]? = some y → rankW sg y.2 < rankW sg x.2 := fun {j y} hj e => by
    have p := List.pairwise_iff_getElem.mp h.asc j i (by omega) il hj
    have e1 := (List.getElem?_eq_some_iff.mp e).2
    have e2 := (List.getElem?_eq_some_iff.mp hx).2
    rw [e1, e2] at p
    exact p
  have up : ∀ y ∈ q, rankW sg y.2 ≤ rankW sg x.2 * sg.length := fun y hy => by
    rcases h.sub y hy with e | ⟨j, u, c, hj, hu, hc, e⟩
    · rw [e]
      exact Nat.zero_le _
    · rw [e, rank_snoc]
      have h1 : sg.idxOf c < sg.length := List.idxOf_lt_length_iff.mpr hc
      have h2 : (rankW sg u.2 + 1) * sg.length ≤ rankW sg x.2 * sg.length := Nat.mul_le_mul_right _ (lt hj hu)
      rw [Nat.add_mul, Nat.one_mul] at h2
      omega
  obtain ⟨r1, r2⟩ := addW_asc (w := x.2) nd (δ x.1) sg [] q nd (fun c hc => ⟨hc, by simp⟩) h.asc fun y hy => by
    have := up y hy
    show _ < _ + 0 + 1
    omega
  refine ⟨at' _ _ h.z, r1, fun y hy => ?_, fun j y hj e => ?_, fun j y hj e c hc => ?_⟩
  · rcases addW_new _ _ _ y hy with hy | ⟨e, he, rfl⟩
    · rcases h.sub y hy with e | ⟨j, u, c, hj, hu, hc, e⟩
      · exact .inl e
      · exact .inr ⟨j, u, c, by omega, at' _ _ hu, hc, e⟩
    · obtain ⟨c, hc, rfl⟩ := List.mem_map.mp he
      exact .inr ⟨i, x, c, by omega, at' _ _ hx, hc, rfl⟩
  · have e' := at_ j y (by omega) e
    by_cases z : j = i
    · subst z
      rw [hx] at e'
      rw [← Option.some.inj e']
      exact hm
    · exact h.no j y (by omega) e'
  · have e' := at_ j y (by omega) e
    by_cases z : j = i
    · subst z
      rw [hx] at e'
      rw [← Option.some.inj e']
      exact r2 c hc fun y hy _ => by
        have := up y hy
        rw [rank_snoc]
        omega
    · obtain ⟨u, hu, h1, h2⟩ := h.cl j y (by omega) e' c hc
      exact ⟨u, pre.subset hu, h1, h2⟩
theorem bfsW_first (nd : sg.Nodup) : ∀ (n i : Nat) (q : Wd) (y : Nat × List Str), QInv sg δ m first q i → (bfsW (gOf sg δ) m n q i).2 = some y → ∃ (q' : Wd) (j : Nat), QInv sg δ m first q' j ∧ q'[j]? = some y
  | 0, i, q, y, h, e => nomatch e
  | n + 1, i, q, y, h, e => by
    cases hx : q[i]? with
    | none =>
      rw [bfsW_end (List.getElem?_eq_none_iff.mp hx)] at e
      cases e
    | some x =>
      rw [bfsW_go hx] at e
      cases hm : m x.1 with
      | true =>
        rw [hm, if_pos rfl] at e
        cases e
        exact ⟨q, i, h, hx⟩
      | false =>
        rw [hm, if_neg Bool.false_ne_true] at e
        exact bfsW_first nd n (i + 1) _ y (h.step nd hx hm) e
theorem search_least (nd : sg.Nodup) {y : Nat × List Str} (h : (searchW (gOf sg δ) m N first).2 = some y) (v : List Str) (hv : ∀ c ∈ v, c ∈ sg) (hm : m (run δ first v) = true) : rankW sg y.2 ≤ rankW sg v := by
  obtain ⟨q, i, Q, hy⟩ := bfsW_first nd (N + 1) 0 [(first, [])] y ⟨rfl, List.pairwise_singleton _ _, fun y hy => by
    rw [List.mem_singleton.mp hy]
    exact .inl rfl, fun _ _ h => absurd h (Nat.not_lt_zero _), fun _ _ h => absurd h (Nat.not_lt_zero _)⟩ h
  have il := (List.getElem?_eq_some_iff.mp hy).1
  have ey := (List.getElem?_eq_some_iff.mp hy).2
  have key : ∀ v : List Str, (∀ c ∈ v, c ∈ sg) → (∃ j x, j < i ∧ q[j]? = some x ∧ x.1 = run δ first v ∧ rankW sg x.2 ≤ rankW sg v) ∨ rankW sg y.2 ≤ rankW sg v := fun v => by
    refine list_snoc (p := fun v => (∀ c ∈ v, c ∈ sg) → (∃ j x, j < i ∧ q[j]? = some x ∧ x.1 = run δ first v ∧ rankW sg x.2 ≤ rankW sg v) ∨ rankW sg y.2 ≤ rankW sg v) (fun _ => ?_) (fun u c ih hv => ?_) v
    · by_cases z : i = 0
      · subst z
        rw [Q.z] at hy
        cases hy
        exact .inr (Nat.le_refl _)
      · exact .inl ⟨0, _, by omega, Q.z, rfl, Nat.le_refl _⟩
    · have hc := hv c (List.mem_append.mpr (.inr (List.mem_singleton.mpr rfl)))
      rcases ih fun d hd => hv d (List.mem_append.mpr (.inl hd)) with ⟨j, x, hj, hx, e, r⟩ | r
      · obtain ⟨u', hu, e', r'⟩ := Q.cl j x hj hx c hc
        obtain ⟨j', hj'⟩ := List.getElem?_of_mem hu
        have le : rankW sg u'.2 ≤ rankW sg (u ++ [c]) := Nat.le_trans r' (rank_le r)
        by_cases z : j' < i
        · refine .inl ⟨j', u', z, hj', ?_, le⟩
          rw [e', e, run_app]
          rfl
        · refine .inr (Nat.le_trans ?_ le)
          have l' := (List.getElem?_eq_some_iff.mp hj').1
          have e2 := (List.getElem?_eq_some_iff.mp hj').2
          by_cases z2 : j' = i
          · subst z2
            rw [← e2, ← ey]
            exact Nat.le_refl _
          · have p := List.pairwise_iff_getElem.mp Q.asc i j' il l' (by omega)
            rw [ey, e2] at p
            exact Nat.le_of_lt p
      · exact .inr (Nat.le_trans r (Nat.le_of_lt (rank_grow hc)))
  rcases key v hv with ⟨j, x, hj, hx, e, _⟩ | r
  · have := Q.no j x hj hx
    rw [e, hm] at this
    cases this
  · exact r
/-- what the search tells, over all texts up to some length -/
theorem search_head (nd : sg.Nodup) (hlt : ∀ n, n < N → ∀ e ∈ gOf sg δ n, e.2 < N) (fN : first < N) {k : Nat} (hk : N ≤ k + 1) : ((allW sg k).filter fun w => m (run δ first w)).head? = (searchW (gOf sg δ) m N first).2.map (·.2) := by
  cases e : (searchW (gOf sg δ) m N first).2 with
  | none =>
    have z : (allW sg k).filter (fun w => m (run δ first w)) = [] := List.filter_eq_nil_iff.mpr fun w hw => by
      rw [search_none (m := m) hlt fN e w (allW_mem.mp hw).2]
      exact Bool.false_ne_true
    rw [z]
    rfl
  | some y =>
    obtain ⟨h1, h2, _⟩ := search_some (m := m) hlt fN e
    have sh := (search_nd (m := m) hlt fN).2 y ((search_inv (m := m) hlt fN).2.2.1 y e).2
    refine first_is nd (allW_mem.mpr ⟨?_, h2⟩) h1 fun v hv pv => search_least nd e v hv pv
    show y.2.length ≤ k
    omega
end
end Sl
/-! ## A5 -/
set_option Elab.async false
set_option linter.all false
set_option maxRecDepth 100000
set_option maxHeartbeats 4000000
set_option pp.maxSteps 900
set_option pp.deepTerms false
/-! what follows a state of a language; least_text -/
namespace Sl
open PySem PySem.Spec PyProof.Rows L2 LamX NdefX
abbrev sLLeads : Stmt := top 39
abbrev sLeastT : Stmt := top 38
abbrev eLt (i : Nat) : Expr := argAt i (asgVal (nth (defBody sLeastT) 0))
abbrev scLt (i : Nat) : Scope := lamSc (eLt i) (defScope sLeastT)
def noPar : Arguments := ⟨[], [], none, [], [], none, []⟩
theorem LangAt.extN {C : Addr} {H H' : Hp} {p : Addr} {z : Str} {M : Nat} {δ : Nat → Str → Nat} {found live : List Nat} (x : ExtN H H') (h : LangAt C H p z M δ found live) : LangAt C H' p z M δ found live := by
  obtain ⟨dx, fs, L, rs, Me, Li, h1, h2, h3, h4, h5, h6, h7, h8, h9, h10, h11⟩ := h.ex
  exact ⟨dx, fs, L, rs, Me, Li, x _ _ h1 (fun _ z => nomatch z), h2, h3, x _ _ h4 (fun _ z => nomatch z), h5, fun i r e => x _ _ (h6 i r e) (fun _ z => nomatch z), h7, x _ _ h8 (fun _ z => nomatch z), h9, x _ _ h10 (fun _ z => nomatch z), h11⟩
theorem LangAt.no {C : Addr} {H : Hp} {p : Addr} {z : Str} {M : Nat} {δ : Nat → Str → Nat} {found live : List Nat} (h : LangAt C H p z M δ found live) (f : Str) (hf : f ∉ (["_signs", "_states", "_members", "_live"] : List Str)) : ∃ dx fs, H p = some (.ins C dx fs) ∧ fs.lookup f = none := by
  obtain ⟨dx, fs, L, rs, Me, Li, h1, h2, h3, h4, h5, h6, h7, h8, h9, h10, h11⟩ := h.ex
  exact ⟨dx, fs, h1, h11 f hf⟩
def spLLeads (C : Addr) : Sp := fun vs H Q _ => ∃ (p : Addr) (n : Nat) (z : Str) (M : Nat) (δ : Nat → Str → Nat) (found live : List Nat), vs = [.ref p, .int n] ∧ LangAt C H p z M δ found live ∧ n < M ∧ z.cps.size ≤ 100 ∧
  ∀ (H' : Hp) (b : Addr) (ts : List Addr), Ext H H' → H b = none → H' b = some (.lst (ts.map V.ref)) → LeadsAt H' ts (gOf (sgL z) δ n) → Q (.ref b) H'
theorem nsLt1 : NScope ["state", "language"] ["state"] ["language"] (scLt 1) := nscope_by (by decide +kernel)
theorem nsLt2 : NScope ["node", "language"] ["node"] ["language"] (scLt 2) := nscope_by (by decide +kernel)
theorem lt1_free : ∀ y ∈ (scLt 1).names, y.2 = NameKind.free → (defScope sLeastT).names.lookup y.1 = some .cell ∨ (defScope sLeastT).names.lookup y.1 = some .free := by decide +kernel
theorem lt2_free : ∀ y ∈ (scLt 2).names, y.2 = NameKind.free → (defScope sLeastT).names.lookup y.1 = some .cell ∨ (defScope sLeastT).names.lookup y.1 = some .free := by decide +kernel
/-- the machine of a language within bounds -/
structure LgLt (z : Str) (M : Nat) (δ : Nat → Str → Nat) : Prop where
  pos : 0 < M
  n : M ≤ 100
  lt : ∀ n, n < M → ∀ c ∈ sgL z, δ n c < M
  z : z.cps.size ≤ 100
theorem lang_gr {C p : Addr} {z : Str} {M : Nat} {δ : Nat → Str → Nat} {found live : List Nat} (t : LgLt z M δ) : GrOk (fun H => LangAt C H p z M δ found live) (gOf (sgL z) δ) M :=
  ⟨fun _ _ x h => h.extN x, t.n, fun n hn e he => (by
    obtain ⟨c, hc, rfl⟩ := List.mem_map.mp he
    exact t.lt n hn c hc), fun n => by
    unfold gOf
    rw [List.length_map, sgL_len]
    exact t.z⟩
def spLeastT (C : Addr) (T : List (Addr × Str)) : Sp := fun vs H Q _ => ∃ (p : Addr) (z : Str) (M : Nat) (δ : Nat → Str → Nat) (found live : List Nat), vs = [.ref p] ∧ LangAt C H p z M δ found live ∧ LgLt z M δ ∧ Tabs T H ∧
  ∀ (H' : Hp), ExtN H H' → (∀ b, H' b = none → H b = none) → Tabs T H' → (match (searchW (gOf (sgL z) δ) (fun n => decide (n ∈ found)) M 0).2 with | none => Q .non H' | some x => Q (.str (Txt.join "" x.2)) H')
section
variable {P : Program} {w : World} {K : PySem.W.Frag} {mg : Str → Option Value} {base : Heap}
theorem scLLeads : FnScope ["language", "state", "sign"] ["language", "state"] (defScope sLLeads) := ⟨rfl, rfl, rfl, by decide +kernel, rfl, by decide +kernel, by decide +kernel⟩
theorem ok_lleads {f C pG fG fMv : Addr} {fd fdG fdMv : FuncData} (Fn : Fun K "_language_leads" "_language_leads" sLLeads f fd) (Tc : LgC K C) (hG : PropOf K C "signs" pG fG) (bG : L2.Binds K fdG ["self"] []) (gG : FnOk P w K mg base CX0 1 fG fdG ["self"] (spSigns C))
    (mMv : L2.Meth K C "move" fMv) (bMv : L2.Binds K fdMv ["self", "state", "sign"] []) (gMv : FnOk P w K mg base CX0 4 fMv fdMv ["self", "state", "sign"] (spMoveL C)) : FnOk P w K mg base CX0 5 f fd ["language", "state"] (spLLeads C) := by
  refine Fn.ok scLLeads (fun vs H Q E h => ?_) (fun cdv A0 outer s H vs Q E hr h => ?_)
  · obtain ⟨p, n, z, M, δ, found, live, rfl, _⟩ := h
    rfl
  · obtain ⟨p, n, z, M, δ, found, live, rfl, LA, nM, z100, kk⟩ := h
    have hr1 := hr.mono (show 2 ≤ 4 by omega)
    refine ⟨_, pss_one (ps_ret (pe_lc (own := [("sign", 2)]) (g := gName 2) (tt := tYes) (te := tTup (tCons (tVar 2) (tCons (tMeth C "move" (spMoveL C) [] (fun _ _ _ => False) (tVar 0) (tCons (tVar 1) (tCons (tVar 2) tNil))) tNil))) rfl scLLeads.nd
          (pi_str (pe_prop (pe_var (i := 0) rfl (.inr (.inl rfl))) Tc.cl hG gG hr1 bG .nil pass0 rfl)) (blkOk_by (N := ["language", "state", "sign"]) (sc := defScope sLLeads) (by decide +kernel))
          (fun _ _ _ _ _ => pg_name (i := 2) scLLeads.nd rfl (Or.inl rfl)) (fun _ _ _ _ _ => pts_nil)
          (fun _ _ _ _ _ => pe_tup (pa_cons (pv 2) (pa_cons (pe_meth (pe_var (i := 0) rfl (.inr (.inl rfl))) Tc.cl mMv gMv hr bMv .nil pass0 (pa_cons (pe_var (i := 1) rfl (.inr (.inl rfl))) (pa_cons (pv 2) pa_nil))) pa_nil))))), ?_⟩
    obtain ⟨dx1, fs1, i1, no1⟩ := LA.no "move" (by decide)
    refine ⟨_, rfl, p, dx1, fs1, rfl, i1, p, z, M, δ, found, live, rfl, LA, z, rfl, fun D nD => ?_⟩
    refine lc_it (walk_str (z := z)) (fun j H' => Ext H H' ∧ ∃ ts : List Addr, H' D = some (.lst (ts.map V.ref)) ∧ LeadsAt H' ts ((gOf (sgL z) δ n).take j)) ⟨Ext.new nD, [], upd_same, .nil⟩ (fun _ _ _ _ => trivial) ?_ ?_
    · rintro j y H6 H7 hj ⟨x6, ts, hD6, hts⟩ ⟨rfl, c, hc, rfl⟩
      have hsg := sgL_at hc
      have cm := List.mem_of_getElem? hsg
      have T7 := LA.extN (ExtN.of x6)
      have ltk : ((gOf (sgL z) δ n).take j).length ≤ 100 := by
        unfold gOf
        rw [List.length_take, List.length_map, sgL_len]
        omega
      have lts : ts.length ≤ 100 := by rw [hts.len]; exact ltk
      refine ⟨rfl, ?_⟩
      dsimp only [tYes]
      rw [if_pos rfl]
      refine ⟨_, rfl, _, rfl, p, dx1, fs1, rfl, x6 _ _ i1, no1, _, rfl, _, rfl, p, n, _, z, M, δ, found, live, rfl, T7, nM, ?_⟩
      rw [if_pos cm]
      refine ⟨by show 2 ≤ sizeLine; decide, fun t nt => ?_⟩
      have xt := Ext.new nt (o := .tup [V.str ⟨#[c]⟩, V.int (δ n ⟨#[c]⟩ : Nat)])
      have ht : (upd H7 t (.tup [V.str ⟨#[c]⟩, V.int (δ n ⟨#[c]⟩ : Nat)])) t = some (.tup [V.str ⟨#[c]⟩, V.int (δ n ⟨#[c]⟩ : Nat)]) := upd_same
      generalize upd H7 t (.tup [V.str ⟨#[c]⟩, V.int (δ n ⟨#[c]⟩ : Nat)]) = H9 at xt ht ⊢
      have hD9 := xt _ _ hD6
      have keep : ∀ t xs, H9 t = some (.tup xs) → (upd H9 D (.lst (ts.map V.ref ++ [.ref t]))) t = some (.tup xs) := fun t xs h => by
        rw [upd_ne (ne_of h hD9 (by intro z; cases z))]
        exact h
      refine ⟨_, hD9, by rw [List.length_map]; exact small1000 (by omega), fun a o q => ?_, ts ++ [t], ?_, ?_⟩
      · rw [upd_ne (ne_of_none q nD)]
        exact xt _ _ (x6 _ _ q)
      · rw [upd_same, List.map_append]
        rfl
      · have hg : (gOf (sgL z) δ n)[j]? = some (⟨#[c]⟩, δ n ⟨#[c]⟩) := by
          unfold gOf
          rw [List.getElem?_map, hsg]
          rfl
        have k9 : ∀ a xs, H9 a = some (.tup xs) → (upd H9 D (.lst (ts.map V.ref ++ [.ref t]))) a = some (.tup xs) := fun a xs h => by
          rw [upd_ne (ne_of h hD9 (by intro z; cases z))]
          exact h
        rw [take_more hg]
        exact (hts.ext fun a xs h => k9 _ _ (xt _ _ h)).snoc (k9 _ _ ht)
    · rintro H6 ⟨x6, ts, hD6, hts⟩
      refine kk _ D ts x6 nD hD6 ?_
      have e : z.cps.size = (gOf (sgL z) δ n).length := by
        unfold gOf
        rw [List.length_map, sgL_len]
      rw [e, List.take_length] at hts
      exact hts
theorem lead_lt {C p fN : Addr} {z : Str} {M : Nat} {δ : Nat → Str → Nat} {found live : List Nat} {c' : Addr} {cl : List (Str × Addr)} {fdN : FuncData} (t : LgLt z M δ)
    (aN : At K mg "_language_leads" fN fdN ["language", "state"] []) (gN : FnOk P w K mg base CX0 5 fN fdN ["language", "state"] (spLLeads C)) :
    LeadL P w K mg base 6 (fun H => LangAt C H p z M δ found live) (gOf (sgL z) δ) M ⟨"least_text.<locals>.<lambda>", lamPar (eLt 1) noPar, lamBody (eLt 1), scLt 1, cl, c'⟩ ["language"] [some (.ref p)] := by
  refine ⟨"state", fun ws vs H Q _ => ws = [some (.ref p)] ∧ spLeads (fun H => LangAt C H p z M δ found live) (gOf (sgL z) δ) M vs H Q, lok_of (N := ["state", "language"]) nsLt1 (fun pm ctv us hl => match us, hl with | [_], _ => rfl) (fun ws vs H Q E h => ?_) (fun f A outer s H vs ws Q E hr hf hc hl h => ?_), fun vs H Q E h => ⟨rfl, h⟩⟩
  · obtain ⟨_, n, rfl, _⟩ := h
    rfl
  · obtain ⟨rfl, n, rfl, hn, hG, kk⟩ := h
    refine ⟨_, pe_call (E := fun _ _ _ => False) gN hr (by rfl) aN.g aN.kp aN.b .nil pass0 (pa_cons (pe_var (i := 1) rfl (.inr (.inr rfl))) (pa_cons (pv 0) pa_nil)), ?_⟩
    exact ⟨_, rfl, _, rfl, p, n, z, M, δ, found, live, rfl, hG, hn, t.z, kk⟩
theorem goal_lt {C p fMb : Addr} {z : Str} {M : Nat} {δ : Nat → Str → Nat} {found live : List Nat} {c' : Addr} {cl : List (Str × Addr)} {fdMb : FuncData}
    (Tc : LgC K C) (mMb : L2.Meth K C "is_member" fMb) (bMb : L2.Binds K fdMb ["self", "state"] []) (gMb : FnOk P w K mg base CX0 4 fMb fdMb ["self", "state"] (spMember C)) :
    GoalL P w K mg base 6 (fun H => LangAt C H p z M δ found live) (fun n => decide (n ∈ found)) M ⟨"least_text.<locals>.<lambda>", lamPar (eLt 2) noPar, lamBody (eLt 2), scLt 2, cl, c'⟩ ["language"] [some (.ref p)] := by
  refine ⟨"node", fun ws vs H Q _ => ws = [some (.ref p)] ∧ spGoalI (fun H => LangAt C H p z M δ found live) (fun n => decide (n ∈ found)) M vs H Q, LOk.mono (j := 5) (lok_of (N := ["node", "language"]) nsLt2 (fun pm ctv us hl => match us, hl with | [_], _ => rfl) (fun ws vs H Q E h => ?_) (fun f A outer s H vs ws Q E hr hf hc hl h => ?_)) (by omega), fun vs H Q E h => ⟨rfl, h⟩⟩
  · obtain ⟨_, n, rfl, _⟩ := h
    rfl
  · obtain ⟨rfl, n, rfl, hn, hG, q⟩ := h
    obtain ⟨dx, fs, i1, no1⟩ := hG.no "is_member" (by decide)
    refine ⟨_, pe_meth (E := fun _ _ _ => False) (pe_var (i := 1) rfl (.inr (.inr rfl))) Tc.cl mMb gMb hr bMb .nil pass0 (pa_cons (pv 0) pa_nil), ?_⟩
    exact ⟨_, rfl, p, dx, fs, rfl, i1, no1, _, rfl, p, n, z, M, δ, found, live, rfl, hG, hn, q⟩
theorem scLeastT : FnScope ["language"] ["language"] (defScope sLeastT) := ⟨rfl, rfl, rfl, by decide +kernel, rfl, by decide +kernel, by decide +kernel⟩
theorem ok_leastT {T : List (Addr × Str)} {f C fN fMb fL : Addr} {fd fdN fdMb fdL : FuncData} (Fn : Fun K "least_text" "least_text" sLeastT f fd) (LM : Lams base mg T fd "least_text.<locals>.<lambda>") (Tc : LgC K C)
    (aN : At K mg "_language_leads" fN fdN ["language", "state"] []) (gN : FnOk P w K mg base CX0 5 fN fdN ["language", "state"] (spLLeads C))
    (mMb : L2.Meth K C "is_member" fMb) (bMb : L2.Binds K fdMb ["self", "state"] []) (gMb : FnOk P w K mg base CX0 4 fMb fdMb ["self", "state"] (spMember C))
    (aL : At K mg "least_way" fL fdL ["first", "leads", "is_goal"] []) (gL : FnV P w K mg base CX0 8 fL fdL ["first", "leads", "is_goal"] (spWayI P w K mg base 6)) : FnOk P w K mg base CX0 9 f fd ["language"] (spLeastT C T) := by
  obtain ⟨c, Tb, hcode, TB, hmT, hu⟩ := LM.ex
  refine Sl.Fun.okM Fn scLeastT (fun vs H Q E h => ?_) (fun A0 outer s H vs Q E hr h => ?_)
  · obtain ⟨p, z, M, δ, found, live, rfl, _⟩ := h
    rfl
  · obtain ⟨p, z, M, δ, found, live, rfl, LA, tl, hT, o⟩ := h
    refine ⟨_, pss_one (ps_ret (pe_callV (cl := fun _ => cloFrom (cellsFrom (s.heap.objs.size + 1) (defScope sLeastT).names []) (scLt 1).names []) (fr := ["language"]) (ws := fun σ => ([0] : List Nat).map (slotAt σ)) (E := fun _ _ _ => False) gL
          (fun pins σ H s I => cellsF_of I (Caps.made (scope := scLt 1) I.ok lt1_free (by decide +kernel) rfl) (fun _ => rfl) rfl rfl) hr (by rfl) aL.g aL.kp aL.b pass0
          (pa_cons pe_int (pa_cons (pe_lamV (T := T) TB hcode hmT hu rfl lt1_free) (pa_cons (pe_lamV (T := T) TB hcode hmT hu rfl lt2_free) pa_nil))))), ?_⟩
    refine ⟨hT, fun fl cl1 H1 x1 nn1 T1 nfl hfl hcl => ⟨T1, fun fl2 cl2 H2 x2 nn2 T2 nfl2 hfl2 hcl2 => ?_⟩⟩
    have x12 := x1.trans x2
    refine ⟨fl, fl2, _, _, 0, M, fun H => LangAt C H p z M δ found live, sgL z, δ, fun n => decide (n ∈ found), rfl, x2 _ _ hfl lamO_ne, x2 _ _ hcl codeO_ne, rfl, lead_lt tl aN gN, hfl2, hcl2, rfl, goal_lt Tc mMb bMb gMb, LA.extN x12, lang_gr tl, tl.pos, fun c hc => ?_, fun H' x' => ?_⟩
    · unfold sgL at hc
      obtain ⟨x, _, rfl⟩ := List.mem_map.mp hc
      rfl
    · exact o H' (x12.trans (ExtN.of x')) (fun b e => nn1 _ (nn2 _ (x'.free e))) (T2.ext x')
end
end Sl
/-! ## A9 -/
set_option Elab.async false
set_option linter.all false
set_option maxRecDepth 100000
set_option maxHeartbeats 4000000
set_option pp.maxSteps 900
set_option pp.deepTerms false
/-! _law_belongs, _law_spot, _law_state, _law_live -/
namespace Sl
open PySem PySem.Spec PyProof.Rows L2 TxS
abbrev sBelongs : Stmt := top 49
abbrev sLiveLaw : Stmt := top 50
abbrev sSpot : Stmt := top 53
abbrev sStateL : Stmt := top 54
def spBelongs : Sp := fun vs H Q _ => ∃ (t : Addr) (y z : Str) (R E : Addr) (rs : List Addr) (δ : Nat → Str → Nat) (mem : List Nat) (cap : Nat), vs = [.ref t, .str y] ∧ MacAt H t z R E rs δ mem ∧ MacOk (sgL z) rs.length δ mem cap ∧ (∀ c ∈ sgL y, c ∈ sgL z) ∧ Q (.bl (decide (run δ 0 (sgL y) ∈ mem))) H
def spSpot : Sp := fun vs H Q _ => ∃ (t : Addr) (y z : Str) (R E : Addr) (rs : List Addr) (δ : Nat → Str → Nat) (mem : List Nat) (cap : Nat), vs = [.ref t, .str y] ∧ MacAt H t z R E rs δ mem ∧ MacOk (sgL z) rs.length δ mem cap ∧ (∀ c ∈ sgL y, c ∈ sgL z) ∧ Q (.int (run δ 0 (sgL y) : Nat)) H
def spStateL (C : Addr) : Sp := fun vs H Q _ => ∃ (p : Addr) (y z : Str) (M : Nat) (δ : Nat → Str → Nat) (found live : List Nat), vs = [.ref p, .str y] ∧ LangAt C H p z M δ found live ∧ LgLt z M δ ∧ (∀ c ∈ sgL y, c ∈ sgL z) ∧ Q (.int (run δ 0 (sgL y) : Nat)) H
/-- a round: the states that lead to one that was found -/
def rndL (g : Gr) (N : Nat) (F : List Nat) : List Nat := F ++ (List.range N).filter fun n => !decide (n ∈ F) && hitG g F n
def liveR (g : Gr) (N : Nat) (mem : List Nat) : Nat → List Nat
  | 0 => mem
  | k + 1 => rndL g N (liveR g N mem k)
section
variable {sg : List Str} {δ : Nat → Str → Nat} {mem : List Nat} {N : Nat}
theorem rndL_mem {F : List Nat} {n : Nat} (hn : n < N) : n ∈ rndL (gOf sg δ) N F ↔ n ∈ F ∨ ∃ c ∈ sg, δ n c ∈ F := by
  have h : hitG (gOf sg δ) F n = true ↔ ∃ c ∈ sg, δ n c ∈ F := by
    rw [hit_iff]
    constructor
    · rintro ⟨e, he, h⟩
      obtain ⟨c, hc, rfl⟩ := List.mem_map.mp he
      exact ⟨c, hc, h⟩
    · rintro ⟨c, hc, h⟩
      exact ⟨(c, δ n c), List.mem_map.mpr ⟨c, hc, rfl⟩, h⟩
  unfold rndL
  rw [List.mem_append, List.mem_filter, List.mem_range, Bool.and_eq_true, Bool.not_eq_true', decide_eq_false_iff_not, h]
  constructor
  · rintro (a | ⟨_, _, b⟩)
    · exact .inl a
    · exact .inr b
  · rintro (a | b)
    · exact .inl a
    · by_cases q : n ∈ F
      · exact .inl q
      · exact .inr ⟨hn, q, b⟩
theorem rndL_ok {F : List Nat} {g : Gr} (nd : F.Nodup) (lt : ∀ n ∈ F, n < N) : (rndL g N F).Nodup ∧ ∀ n ∈ rndL g N F, n < N := by
  refine ⟨List.nodup_append.mpr ⟨nd, List.nodup_range.sublist List.filter_sublist, fun a ha b hb e => ?_⟩, fun n hn => ?_⟩
  · have := (List.mem_filter.mp hb).2
    rw [Bool.and_eq_true, Bool.not_eq_true', decide_eq_false_iff_not] at this
    exact this.1 (e ▸ ha)
  · rcases List.mem_append.mp hn with h | h
    · exact lt n h
    · exact List.mem_range.mp (List.mem_filter.mp h).1
theorem liveR_ok {g : Gr} (nd : mem.Nodup) (lt : ∀ n ∈ mem, n < N) : ∀ k, (liveR g N mem k).Nodup ∧ ∀ n ∈ liveR g N mem k, n < N
  | 0 => ⟨nd, lt⟩
  | k + 1 => let ⟨a, b⟩ := liveR_ok nd lt k; rndL_ok a b
theorem liveR_iff (dlt : ∀ n, n < N → ∀ c ∈ sg, δ n c < N) : ∀ (k n : Nat), n < N → (n ∈ liveR (gOf sg δ) N mem k ↔ ∃ w : List Str, w.length ≤ k ∧ (∀ c ∈ w, c ∈ sg) ∧ run δ n w ∈ mem)
  | 0, n, hn => by
    constructor
    · exact fun h => ⟨[], Nat.le_refl _, fun _ h => (nomatch h), h⟩
    · rintro ⟨w, l, _, h⟩
      obtain rfl := List.eq_nil_of_length_eq_zero (Nat.le_zero.mp l)
      exact h
  | k + 1, n, hn => by
    show n ∈ rndL _ _ _ ↔ _
    rw [rndL_mem hn, liveR_iff dlt k n hn]
    constructor
    · rintro (⟨w, l, hw, h⟩ | ⟨c, hc, h⟩)
      · exact ⟨w, by omega, hw, h⟩
      · obtain ⟨w, l, hw, h⟩ := (liveR_iff dlt k _ (dlt n hn c hc)).mp h
        exact ⟨c :: w, by rw [List.length_cons]; omega, fun d hd => (List.mem_cons.mp hd).elim (fun e => e ▸ hc) (hw d), h⟩
    · rintro ⟨w, l, hw, h⟩
      cases w with
      | nil => exact .inl ⟨[], Nat.zero_le _, fun _ h => (nomatch h), h⟩
      | cons c w =>
        have hc := hw c List.mem_cons_self
        refine .inr ⟨c, hc, (liveR_iff dlt k _ (dlt n hn c hc)).mpr ⟨w, by rw [List.length_cons] at l; omega, fun d hd => hw d (List.mem_cons_of_mem _ hd), h⟩⟩
theorem liveR_all (dlt : ∀ n, n < N → ∀ c ∈ sg, δ n c < N) {n : Nat} (hn : n < N) : n ∈ liveR (gOf sg δ) N mem N ↔ Leads (gOf sg δ) mem n := by
  rw [liveR_iff dlt N n hn, leads_run]
  constructor
  · rintro ⟨w, _, hw, h⟩
    exact ⟨w, hw, h⟩
  · rintro ⟨w, hw, h⟩
    obtain ⟨v, l, hv, q⟩ := short_leads (mem := mem) dlt hn w hw h
    exact ⟨v, by omega, hv, q⟩
end
def spLiveLaw : Sp := fun vs H Q _ => ∃ (t : Addr) (z : Str) (R E : Addr) (rs : List Addr) (δ : Nat → Str → Nat) (mem : List Nat) (cap : Nat), vs = [.ref t] ∧ MacAt H t z R E rs δ mem ∧ MacOk (sgL z) rs.length δ mem cap ∧ cap ≤ 100 ∧ (sgL z).length ≤ 100 ∧
  ∀ (H' : Hp) (L : Addr), Ext H H' → H L = none → H' L = some (.lst ((liveR (gOf (sgL z) δ) rs.length mem rs.length).map fun n => V.int (n : Nat))) → Q (.ref L) H'
section
variable {P : Program} {w : World} {K : PySem.W.Frag} {mg : Str → Option Value} {base : Heap}
theorem scBelongs : FnScope ["_law_machine", "_law_note", "_law_spot_here", "_law_letter"] ["_law_machine", "_law_note"] (defScope sBelongs) := ⟨rfl, rfl, rfl, by decide +kernel, rfl, by decide +kernel, by decide +kernel⟩
theorem ok_belongs {f : Addr} {fd : FuncData} (F : Fun K "_law_belongs" "_law_belongs" sBelongs f fd) : FnOk P w K mg base CX0 1 f fd ["_law_machine", "_law_note"] spBelongs := by
  refine F.ok scBelongs (fun vs H Q E h => ?_) (fun cdv A0 outer s H vs Q E hr h => ?_)
  · obtain ⟨t, y, z, R, E1, rs, δ, mem, cap, rfl, _⟩ := h
    rfl
  · obtain ⟨t, y, z, R, E1, rs, δ, mem, cap, rfl, MA, MO, hy, q⟩ := h
    have hu := hu_of hr
    refine ⟨_, pss_cons (ps_set (i := 2) scBelongs.nd rfl (.inl rfl) pe_int)
      (pss_cons (ps_for PassesOwn.never rfl (pi_str (pv 1)) (pg_name (i := 3) scBelongs.nd rfl (.inl rfl))
        (pss_one (ps_set (i := 2) scBelongs.nd rfl (.inl rfl) (pe_dget hu (pe_ix ix_list (pe_ix ix_tup (pv 0) pe_int (fun _ _ => rfl)) (pv 2) (fun _ _ => rfl)) (pv 3) (fun _ _ => rfl)))))
      (pss_one (ps_ret (pe_cmpR op_in_seq (pv 2) (pe_ix ix_tup (pv 0) pe_int (fun _ _ => rfl)) (by rfl))))), ?_⟩
    refine ⟨_, rfl, y, rfl, ?_⟩
    refine for_it (walk_str (z := y)) (fun i σ H' => ∃ v3, σ = [some (.ref t), some (.str y), some (.int (run δ 0 ((sgL y).take i) : Nat)), v3] ∧ H' = H ∧ run δ 0 ((sgL y).take i) < rs.length) ⟨none, rfl, rfl, MO.pos⟩ (fun _ _ _ _ _ => trivial) ?_ ?_
    · rintro i v σ H2 H3 hi ⟨v3, rfl, rfl, lM⟩ ⟨rfl, c, hc, rfl⟩
      have cm := hy _ (List.mem_of_getElem? (sgL_at hc))
      obtain ⟨r, hr⟩ : ∃ r, rs[run δ 0 ((sgL y).take i)]? = some r := ⟨_, List.getElem?_eq_getElem lM⟩
      have g : DGet H3 r (.str ⟨#[c]⟩) (some (.int (δ (run δ 0 ((sgL y).take i)) ⟨#[c]⟩ : Nat))) := by
        have e : valV (rowD (sgL z) (δ (run δ 0 ((sgL y).take i)))) (keyC ⟨#[c]⟩) = some (.int (δ (run δ 0 ((sgL y).take i)) ⟨#[c]⟩ : Nat)) := row_val cm
        rw [← e]
        exact DGet.k (k := keyC ⟨#[c]⟩) (MA.rows _ r hr)
      have er : run δ 0 ((sgL y).take (i + 1)) = δ (run δ 0 ((sgL y).take i)) ⟨#[c]⟩ := by
        rw [take_more (sgL_at hc)]
        unfold run
        rw [List.foldl_append]
        rfl
      refine ⟨_, rfl, t, _, 1, _, rfl, rfl, SqT.of MA.t, rfl, _, rfl, R, _, _, _, rfl, rfl, SqL.of MA.r, atI_nat (by rw [List.getElem?_map, hr]; rfl), _, rfl, r, _, rfl, g, ?_⟩
      rw [← er]
      refine ⟨_, rfl, rfl, ?_⟩
      rw [er]
      exact MO.lt _ lM _ cm
    · rintro σ H2 ⟨v3, rfl, rfl, lM⟩
      rw [← sgL_len, List.take_length]
      refine ⟨_, rfl, _, rfl, t, _, 2, _, rfl, rfl, SqT.of MA.t, rfl, E1, _, rfl, .inl (SqL.of MA.e), rfl, flat_nats _, ?_⟩
      rw [if_neg Bool.false_ne_true, inV_nat]
      exact q
theorem scSpot : FnScope ["_law_machine", "_law_note", "_law_spot_here", "_law_letter"] ["_law_machine", "_law_note"] (defScope sSpot) := ⟨rfl, rfl, rfl, by decide +kernel, rfl, by decide +kernel, by decide +kernel⟩
theorem ok_spot {f : Addr} {fd : FuncData} (F : Fun K "_law_spot" "_law_spot" sSpot f fd) : FnOk P w K mg base CX0 1 f fd ["_law_machine", "_law_note"] spSpot := by
  refine F.ok scSpot (fun vs H Q E h => ?_) (fun cdv A0 outer s H vs Q E hr h => ?_)
  · obtain ⟨t, y, z, R, E1, rs, δ, mem, cap, rfl, _⟩ := h
    rfl
  · obtain ⟨t, y, z, R, E1, rs, δ, mem, cap, rfl, MA, MO, hy, q⟩ := h
    have hu := hu_of hr
    refine ⟨_, pss_cons (ps_set (i := 2) scSpot.nd rfl (.inl rfl) pe_int)
      (pss_cons (ps_for PassesOwn.never rfl (pi_str (pv 1)) (pg_name (i := 3) scSpot.nd rfl (.inl rfl))
        (pss_one (ps_set (i := 2) scSpot.nd rfl (.inl rfl) (pe_dget hu (pe_ix ix_list (pe_ix ix_tup (pv 0) pe_int (fun _ _ => rfl)) (pv 2) (fun _ _ => rfl)) (pv 3) (fun _ _ => rfl)))))
      (pss_one (ps_ret (pv 2)))), ?_⟩
    refine ⟨_, rfl, y, rfl, ?_⟩
    refine for_it (walk_str (z := y)) (fun i σ H' => ∃ v3, σ = [some (.ref t), some (.str y), some (.int (run δ 0 ((sgL y).take i) : Nat)), v3] ∧ H' = H ∧ run δ 0 ((sgL y).take i) < rs.length) ⟨none, rfl, rfl, MO.pos⟩ (fun _ _ _ _ _ => trivial) ?_ ?_
    · rintro i v σ H2 H3 hi ⟨v3, rfl, rfl, lM⟩ ⟨rfl, c, hc, rfl⟩
      have cm := hy _ (List.mem_of_getElem? (sgL_at hc))
      obtain ⟨r, hr⟩ : ∃ r, rs[run δ 0 ((sgL y).take i)]? = some r := ⟨_, List.getElem?_eq_getElem lM⟩
      have g : DGet H3 r (.str ⟨#[c]⟩) (some (.int (δ (run δ 0 ((sgL y).take i)) ⟨#[c]⟩ : Nat))) := by
        have e : valV (rowD (sgL z) (δ (run δ 0 ((sgL y).take i)))) (keyC ⟨#[c]⟩) = some (.int (δ (run δ 0 ((sgL y).take i)) ⟨#[c]⟩ : Nat)) := row_val cm
        rw [← e]
        exact DGet.k (k := keyC ⟨#[c]⟩) (MA.rows _ r hr)
      have er : run δ 0 ((sgL y).take (i + 1)) = δ (run δ 0 ((sgL y).take i)) ⟨#[c]⟩ := by
        rw [take_more (sgL_at hc)]
        unfold run
        rw [List.foldl_append]
        rfl
      refine ⟨_, rfl, t, _, 1, _, rfl, rfl, SqT.of MA.t, rfl, _, rfl, R, _, _, _, rfl, rfl, SqL.of MA.r, atI_nat (by rw [List.getElem?_map, hr]; rfl), _, rfl, r, _, rfl, g, ?_⟩
      rw [← er]
      refine ⟨_, rfl, rfl, ?_⟩
      rw [er]
      exact MO.lt _ lM _ cm
    · rintro σ H2 ⟨v3, rfl, rfl, lM⟩
      rw [← sgL_len, List.take_length]
      exact ⟨_, rfl, q⟩
theorem scStateL : FnScope ["_law_made", "_law_note", "_law_spot_here", "_law_letter"] ["_law_made", "_law_note"] (defScope sStateL) := ⟨rfl, rfl, rfl, by decide +kernel, rfl, by decide +kernel, by decide +kernel⟩
theorem ok_stateL {f C fMv : Addr} {fd fdMv : FuncData} (F : Fun K "_law_state" "_law_state" sStateL f fd) (Tc : LgC K C) (mMv : L2.Meth K C "move" fMv) (bMv : L2.Binds K fdMv ["self", "state", "sign"] []) (gMv : FnOk P w K mg base CX0 4 fMv fdMv ["self", "state", "sign"] (spMoveL C)) :
    FnOk P w K mg base CX0 5 f fd ["_law_made", "_law_note"] (spStateL C) := by
  refine F.ok scStateL (fun vs H Q E h => ?_) (fun cdv A0 outer s H vs Q E hr h => ?_)
  · obtain ⟨p, y, z, M, δ, found, live, rfl, _⟩ := h
    rfl
  · obtain ⟨p, y, z, M, δ, found, live, rfl, LA, lt, hy, q⟩ := h
    obtain ⟨dx, fs, i1, no1⟩ := LA.no "move" (by decide)
    refine ⟨_, pss_cons (ps_set (i := 2) scStateL.nd rfl (.inl rfl) pe_int)
      (pss_cons (ps_for PassesOwn.never rfl (pi_str (pv 1)) (pg_name (i := 3) scStateL.nd rfl (.inl rfl))
        (pss_one (ps_set (i := 2) scStateL.nd rfl (.inl rfl) (pe_meth (E := fun _ _ _ => False) (pv 0) Tc.cl mMv gMv hr bMv .nil pass0 (pa_cons (pv 2) (pa_cons (pv 3) pa_nil))))))
      (pss_one (ps_ret (pv 2)))), ?_⟩
    refine ⟨_, rfl, y, rfl, ?_⟩
    refine for_it (walk_str (z := y)) (fun i σ H' => ∃ v3, σ = [some (.ref p), some (.str y), some (.int (run δ 0 ((sgL y).take i) : Nat)), v3] ∧ H' = H ∧ run δ 0 ((sgL y).take i) < M) ⟨none, rfl, rfl, lt.pos⟩ (fun _ _ _ _ _ => trivial) ?_ ?_
    · rintro i v σ H2 H3 hi ⟨v3, rfl, rfl, lM⟩ ⟨rfl, c, hc, rfl⟩
      have cm := hy _ (List.mem_of_getElem? (sgL_at hc))
      have er : run δ 0 ((sgL y).take (i + 1)) = δ (run δ 0 ((sgL y).take i)) ⟨#[c]⟩ := by
        rw [take_more (sgL_at hc)]
        unfold run
        rw [List.foldl_append]
        rfl
      refine ⟨_, rfl, p, dx, fs, rfl, i1, no1, _, rfl, _, rfl, p, _, _, z, M, δ, found, live, rfl, LA, lM, ?_⟩
      rw [if_pos cm, ← er]
      refine ⟨_, rfl, rfl, ?_⟩
      rw [er]
      exact lt.lt _ lM _ cm
    · rintro σ H2 ⟨v3, rfl, rfl, lM⟩
      rw [← sgL_len, List.take_length]
      exact ⟨_, rfl, q⟩
def forB : Stmt → List Stmt
  | .For _ _ b _ _ => b
  | _ => []
def binR : Expr → Expr
  | .BinOp _ _ r _ => r
  | e => e
abbrev nLiveL : List Str := ["_law_machine", "_law_found", "_law_turn", "_law_at", "_law_line", "_law_goal"]
abbrev eLiveC : Expr := binR (asgVal (nth (forB (nth (defBody sLiveLaw) 1)) 0))
abbrev scLiveC : Scope := lamSc eLiveC (defScope sLiveLaw)
theorem scLiveL : FnScope nLiveL ["_law_machine"] (defScope sLiveLaw) := ⟨rfl, rfl, rfl, by decide +kernel, rfl, by decide +kernel, by decide +kernel⟩
theorem ok_livelaw {f : Addr} {fd : FuncData} (F : Fun K "_law_live" "_law_live" sLiveLaw f fd) (zl : mg "list" = none) (zr : mg "range" = none) (zn : mg "len" = none) (ze : mg "enumerate" = none) (zy : mg "any" = none) : FnOk P w K mg base CX0 1 f fd ["_law_machine"] spLiveLaw := by
  refine F.ok scLiveL (fun vs H Q E h => ?_) (fun cdv A0 outer s H vs Q E hr h => ?_)
  · obtain ⟨t, z, R, E1, rs, δ, mem, cap, rfl, _⟩ := h
    rfl
  · obtain ⟨t, z, R, E1, rs, δ, mem, cap, rfl, MA, MO, c100, g100, q⟩ := h
    refine ⟨_, pss_cons (ps_set (i := 1) scLiveL.nd rfl (.inr rfl) (pe_callTy call_list_of (by rfl) zl (by decide +kernel) (pa_cons (pe_ix ix_tup (pv 0) pe_int (fun _ _ => rfl)) pa_nil)))
      (pss_cons (ps_for PassesOwn.never rfl (pi_range1 rfl zr (pa_cons (pe_callB call_len_seq (by rfl) zn PySem.boot_len (pa_cons (pe_ix ix_tup (pv 0) pe_int (fun _ _ => rfl)) pa_nil)) pa_nil)) (pg_name (i := 2) scLiveL.nd rfl (.inl rfl))
        (pss_one (ps_set (i := 1) scLiveL.nd rfl (.inr rfl) (pe_op op_cat (pe_var (i := 1) rfl (.inr (.inl rfl)))
          (pe_lc (own := [("_law_at", 3), ("_law_line", 4)]) (g := gTup K 2 (gCons (gName 3) (gCons (gName 4) gNil))) (tt := tAnd (tTest (tOp (rIn K true) (tVar 3) (tVar 1))) (tB (tCB (rAny K) (tCons (tLockE (tLc (iVals (tVar 4)) (gName 5) tYes (tOp (rIn K false) (tVar 5) (tVar 1)) [5])) tNil)))) (te := tVar 3) rfl scLiveL.nd
            (pi_enumK (by rfl) ze (pa_cons (pe_ix ix_tup (pv 0) pe_int (fun _ _ => rfl)) pa_nil)) (blkOk_by (N := nLiveL) (sc := defScope sLiveLaw) (by decide +kernel))
            (fun _ _ _ _ _ => pg_tup (by rfl) (pgs_cons (pg_name (i := 3) scLiveL.nd rfl (Or.inl rfl)) (pgs_cons (pg_name (i := 4) scLiveL.nd rfl (Or.inl rfl)) pgs_nil)))
            (fun _ _ _ _ _ => pts_one (PW.pt (pw_and (pt_cmpR op_notIn_seq (pe_var (i := 3) rfl (.inl rfl)) (pe_var (i := 1) rfl (.inr (.inl rfl))) (by rfl)) (pw_and1 (pt_val (pe_callB (cr_any rfl) (by rfl) zy (by decide +kernel) (pa_cons
              (pe_lock (pe_lc (own := [("_law_goal", 5)]) (g := gName 5) (tt := tYes) (te := tOp (rIn K false) (tVar 5) (tVar 1)) rfl scLiveL.nd (pi_values (pe_var (i := 4) rfl (.inl rfl))) (blkOk_by (N := nLiveL) (sc := relS scLiveC (defScope sLiveLaw)) (by decide +kernel))
                (fun _ _ _ _ _ => pg_name (i := 5) scLiveL.nd rfl (Or.inl rfl)) (fun _ _ _ _ _ => pts_nil) (fun _ _ _ _ _ => pe_cmpR op_in_seq (pv 5) (pe_var (i := 1) rfl (.inr (.inl rfl))) (by rfl)))) pa_nil)))))))
            (fun _ _ _ _ _ => pe_var (i := 3) rfl (.inl rfl)))))))
      (pss_one (ps_ret (pe_var (i := 1) rfl (.inr (.inl rfl)))))), ?_⟩
    refine ⟨_, rfl, t, _, 2, _, rfl, rfl, SqT.of MA.t, rfl, E1, _, rfl, .inl (SqL.of MA.e), fun L nL => ?_⟩
    have x1 := Ext.new nL (o := .lst (mem.map fun n => V.int (n : Nat)))
    have hL1 : (upd H L (.lst (mem.map fun n => V.int (n : Nat)))) L = some (.lst ((liveR (gOf (sgL z) δ) rs.length mem 0).map fun n => V.int (n : Nat))) := upd_same
    generalize upd H L (.lst (mem.map fun n => V.int (n : Nat))) = H1 at x1 hL1 ⊢
    refine ⟨_, rfl, t, _, 1, _, rfl, rfl, SqT.of (x1 _ _ MA.t), rfl, R, _, rfl, .inl (SqL.of (x1 _ _ MA.r)), _, rfl, ?_, ?_, ?_⟩
    · rw [List.length_map]
      omega
    · rw [List.length_map]
      have := MO.le
      omega
    rw [List.length_map, show ((rs.length : Int)).toNat = rs.length by omega]
    refine for_it (walk_range (lo := 0) (n := rs.length)) (fun k σ H' => ∃ v2 L, σ = [some (.ref t), some (.ref L), v2, none, none, none] ∧ Ext H H' ∧ H L = none ∧ H' L = some (.lst ((liveR (gOf (sgL z) δ) rs.length mem k).map fun n => V.int (n : Nat))))
      ⟨none, L, rfl, x1, nL, hL1⟩ (fun _ _ _ _ _ => trivial) ?_ ?_
    · rintro k v σ H3 H4 hk ⟨v2, L4, rfl, x4, nL4, hL4⟩ ⟨rfl, rfl⟩
      have er : liveR (gOf (sgL z) δ) rs.length mem (k + 1) = rndL (gOf (sgL z) δ) rs.length (liveR (gOf (sgL z) δ) rs.length mem k) := rfl
      obtain ⟨ndF, ltF⟩ := liveR_ok (g := gOf (sgL z) δ) MO.nd MO.ml k
      rw [er]
      generalize liveR (gOf (sgL z) δ) rs.length mem k = F at hL4 ndF ltF ⊢
      have lF := nodup_len ndF ltF
      have hN := MO.le
      refine ⟨_, rfl, _, rfl, t, _, 1, _, rfl, rfl, SqT.of (x4 _ _ MA.t), rfl, true, R, _, rfl, SqK.l (x4 _ _ MA.r), fun D nD => ?_⟩
      refine lc_it (walk_enumK (xs := rs.map V.ref)) (fun i H' => Ext H4 H' ∧ H' D = some (.lst (((List.range i).filter fun n => !decide (n ∈ F) && hitG (gOf (sgL z) δ) F n).map fun n => V.int (n : Nat)))) ⟨Ext.new nD, upd_same⟩ (fun i H' _ h => SqK.l (h.1 _ _ (x4 _ _ MA.r))) ?_ ?_
      · rintro i x H5 H6 hi ⟨x5, hD5⟩ ⟨T1, x', y', rfl, nT, rfl, e1, e2⟩
        obtain ⟨r, hr, rfl⟩ := at_map e2
        cases e1
        have iN := (List.getElem?_eq_some_iff.mp hr).1
        refine ⟨T1, _, rfl, SqT.of upd_same, rfl, _, _, rfl, _, _, rfl, rfl, rfl, ?_⟩
        have xT := Ext.new nT (o := .tup [.int (i : Nat), .ref r])
        have x7 := x5.trans xT
        have hD7 := xT _ _ hD5
        generalize upd H5 T1 (.tup [.int (i : Nat), .ref r]) = H7 at x7 hD7 ⊢
        have hL7 := x7 _ _ hL4
        have en : (List.range (i + 1)).filter (fun n => !decide (n ∈ F) && hitG (gOf (sgL z) δ) F n) = (List.range i).filter (fun n => !decide (n ∈ F) && hitG (gOf (sgL z) δ) F n) ++ if (!decide (i ∈ F) && hitG (gOf (sgL z) δ) F i) = true then [i] else [] := by
          rw [List.range_succ, List.filter_append, List.filter_cons, List.filter_nil]
        refine ⟨_, rfl, _, rfl, L4, _, rfl, .inl (SqL.of hL7), rfl, flat_nats _, ?_⟩
        rw [if_pos rfl, inV_nat]
        refine ⟨_, rfl, ?_⟩
        by_cases ci : i ∈ F
        · rw [decide_eq_true ci] at en ⊢
          refine ⟨x7, ?_⟩
          rw [en]
          simpa using hD7
        · rw [decide_eq_false ci] at en ⊢
          have hrow := x7 _ _ (x4 _ _ (MA.rows i r hr))
          have nLr : L4 ≠ r := ne_of hL7 hrow (by intro z; cases z)
          have nDr : D ≠ r := ne_of hD7 hrow (by intro z; cases z)
          show (if (!false) = true then _ else _)
          rw [if_pos (by rfl)]
          refine ⟨r, _, hrow, trivial, fun od => ?_⟩
          have hk7 : ∀ a o, H7 a = some o → a ≠ r → (upd H7 r (.frz od (.dK (rowD (sgL z) (δ i))))) a = some o := fun a o e n => by
            rw [upd_ne n]
            exact e
          have hrl : (upd H7 r (.frz od (.dK (rowD (sgL z) (δ i))))) r = some (.frz od (.dK (rowD (sgL z) (δ i)))) := upd_same
          have hLl := hk7 _ _ hL7 nLr
          have hDl := hk7 _ _ hD7 nDr
          generalize upd H7 r (.frz od (.dK (rowD (sgL z) (δ i)))) = Hl at hk7 hrl hLl hDl ⊢
          refine ⟨_, rfl, r, od, _, rfl, hrl, fun D2 nD2 => ?_⟩
          have nrD : r ≠ D2 := ne_of_none hrl nD2
          refine lc_it (walk_values (kvs := rowD (sgL z) (δ i))) (fun j H' => Ext Hl H' ∧ H' D2 = some (.lst (((((sgL z).take j).map fun c => decide (δ i c ∈ F))).map V.bl))) ⟨Ext.new nD2, upd_same⟩ (fun _ _ _ h => h.1 _ _ hrl) ?_ ?_
          · rintro j x G1 G2 hj ⟨y1, hD⟩ ⟨rfl, kq, hkq⟩
            obtain ⟨c, hc, ex⟩ : ∃ c, (sgL z)[j]? = some c ∧ x = .int (δ i c : Nat) := by
              unfold rowD at hkq
              rw [List.getElem?_map] at hkq
              cases e : (sgL z)[j]? with
              | none =>
                rw [e] at hkq
                cases hkq
              | some c =>
                rw [e] at hkq
                exact ⟨c, rfl, ((congrArg Prod.snd (Option.some.inj hkq))).symm⟩
            subst ex
            refine ⟨rfl, ?_⟩
            dsimp only [tYes]
            rw [if_pos rfl]
            refine ⟨_, rfl, _, rfl, L4, _, rfl, .inl (SqL.of (y1 _ _ hLl)), rfl, flat_nats _, _, hD, ?_, fun a o e => ?_, ?_⟩
            · rw [List.length_map, List.length_map, List.length_take]
              exact small1000 (by omega)
            · rw [upd_ne (ne_of_none e nD2)]
              exact y1 _ _ e
            · rw [if_neg Bool.false_ne_true, inV_nat, upd_same, take_more hc, List.map_append, List.map_append]
              rfl
          rintro G1 ⟨y1, hD⟩
          have lrow : (rowD (sgL z) (δ i)).length = (sgL z).length := by simp [rowD]
          rw [lrow, List.take_length] at hD
          have hG : ∀ a o, H7 a = some o → (upd G1 r (.dK (rowD (sgL z) (δ i)))) a = some o := fun a o e => by
            by_cases c : a = r
            · rw [c, upd_same, ← hrow, ← c]
              exact e
            · rw [upd_ne c]
              exact y1 _ _ (hk7 _ _ e c)
          refine ⟨y1 _ _ hrl, D2, _, rfl, SqL.of (by rw [upd_ne nrD.symm]; exact hD), _, rfl, ?_⟩
          have eh : ((sgL z).map fun c => decide (δ i c ∈ F)).any id = hitG (gOf (sgL z) δ) F i := by
            unfold hitG gOf
            rw [List.any_map, List.any_map]
            rfl
          rw [eh]
          have hD9 := hG _ _ hD7
          have x9 : Ext H4 (upd G1 r (.dK (rowD (sgL z) (δ i)))) := fun a o e => hG _ _ (x7 _ _ e)
          generalize upd G1 r (.dK (rowD (sgL z) (δ i))) = H9 at hD9 x9 ⊢
          have lfi : ((List.range i).filter fun n => !decide (n ∈ F) && hitG (gOf (sgL z) δ) F n).length ≤ 100 := by
            refine Nat.le_trans (List.length_filter_le _ _) ?_
            rw [List.length_range]
            omega
          cases ch : hitG (gOf (sgL z) δ) F i with
          | true =>
            rw [ch] at en
            dsimp only
            rw [if_pos rfl]
            refine ⟨_, rfl, _, hD9, by rw [List.length_map]; exact small1000 (by omega), fun a o e => ?_, ?_⟩
            · rw [upd_ne (ne_of_none e nD)]
              exact x9 _ _ e
            · rw [upd_same, en]
              simp
          | false =>
            rw [ch] at en
            dsimp only
            rw [if_neg Bool.false_ne_true]
            refine ⟨x9, ?_⟩
            rw [en]
            simpa using hD9
      · rintro H5 ⟨x5, hD5⟩
        rw [List.length_map] at hD5
        have lq : ((List.range rs.length).filter fun n => !decide (n ∈ F) && hitG (gOf (sgL z) δ) F n).length ≤ 100 := by
          refine Nat.le_trans (List.length_filter_le _ _) ?_
          rw [List.length_range]
          omega
        refine ⟨L4, D, _, _, rfl, rfl, x5 _ _ hL4, hD5, big_size ?_, fun p np => ⟨_, p, rfl, (x4.trans x5).trans (Ext.new np), x4.free (x5.free np), ?_⟩⟩
        · rw [List.length_map, List.length_map]
          omega
        · rw [upd_same]
          unfold rndL
          rw [List.map_append]
    · rintro σ H3 ⟨v2, L3, rfl, x3, nL3, hL3⟩
      exact ⟨_, rfl, q _ L3 x3 nL3 hL3⟩
end
end Sl
/-! ## N2 -/
set_option Elab.async false
set_option linter.all false
set_option maxRecDepth 100000
set_option maxHeartbeats 4000000
/-! the law's search, step by step -/
namespace Sl
open PySem PySem.Spec PyProof.Rows L2
def boolsPD (l : List Bool) : PyData := .list (l.map PyData.bool)
theorem bools_dp {K : PySem.W.Frag} {H : Hp} : ∀ l : List Bool, DpAll K H (l.map V.bl) (l.map PyData.bool)
  | [] => .nil
  | b :: l => .cons (.bl b) (bools_dp l)
theorem bools_can : ∀ l : List Bool, PyData.canLayAll0 (l.map PyData.bool) = true ∧ PyData.depthAll (l.map PyData.bool) ≤ 4
  | [] => ⟨rfl, by simp [PyData.depthAll]⟩
  | n :: l => by
    obtain ⟨k1, k2⟩ := bools_can l
    refine ⟨?_, ?_⟩
    · show (PyData.canLay0 (.bool n) && PyData.canLayAll0 (l.map PyData.bool)) = true
      rw [k1, Bool.and_true]
      simp [PyData.canLay0]
    · simp only [List.map_cons, PyData.depthAll, PyData.depth]
      omega
theorem boolsPD_can (l : List Bool) : PyData.canLay0 (boolsPD l) = true ∧ (boolsPD l).depth ≤ 6 := by
  obtain ⟨k1, k2⟩ := bools_can l
  refine ⟨?_, ?_⟩
  · unfold boolsPD
    rw [PyData.canLay0]
    exact k1
  · simp only [boolsPD, PyData.depth]
    omega
theorem boolsPD_shaped (l : List Bool) : SeqAt.shaped (boolsPD l) = true := by
  obtain ⟨k1, k2⟩ := boolsPD_can l
  show (PyData.canLay0 _ && decide _) = true
  rw [k1, Bool.true_and, decide_eq_true_eq]
  omega
theorem tracesPD_can : ∀ l : List (List Bool), PyData.canLayAll0 (l.map boolsPD) = true ∧ PyData.depthAll (l.map boolsPD) ≤ 8
  | [] => ⟨rfl, by simp [PyData.depthAll]⟩
  | n :: l => by
    obtain ⟨k1, k2⟩ := tracesPD_can l
    obtain ⟨h1, h2⟩ := boolsPD_can n
    refine ⟨?_, ?_⟩
    · show (PyData.canLay0 (boolsPD n) && PyData.canLayAll0 (l.map boolsPD)) = true
      rw [k1, h1]
      rfl
    · simp only [List.map_cons, PyData.depthAll]
      omega
theorem tracesPD_shaped (l : List (List Bool)) : SeqAt.shaped (.list (l.map boolsPD)) = true := by
  obtain ⟨k1, k2⟩ := tracesPD_can l
  have c0 : PyData.canLay0 (.list (l.map boolsPD)) = true := by
    rw [PyData.canLay0]
    exact k1
  show (PyData.canLay0 _ && decide _) = true
  rw [c0, Bool.true_and, decide_eq_true_eq]
  simp only [PyData.depth]
  omega
theorem bools_eqv : ∀ a b : List Bool, PyData.eqvAll (a.map PyData.bool) (b.map PyData.bool) = decide (a = b)
  | [], [] => by simp [PyData.eqvAll]
  | [], _ :: _ => by simp [PyData.eqvAll]
  | _ :: _, [] => by simp [PyData.eqvAll]
  | x :: a, y :: b => by
    have ih := bools_eqv a b
    simp only [List.map_cons, PyData.eqvAll, ih]
    cases x <;> cases y <;> simp [PyData.eqv]
theorem boolsPD_eqv (a b : List Bool) : PyData.eqv (boolsPD a) (boolsPD b) = decide (a = b) := by
  unfold boolsPD
  simp only [PyData.eqv]
  exact bools_eqv a b
theorem traces_any (l : List (List Bool)) (a : List Bool) : ((l.map boolsPD).any fun z => PyData.eqv z (boolsPD a)) = decide (a ∈ l) := by
  induction l with
  | nil => simp
  | cons b l ih =>
    rw [List.map_cons, List.any_cons, ih, boolsPD_eqv]
    by_cases c : b = a
    · subst c
      simp
    · have c' : a ≠ b := fun z => c z.symm
      simp [c, c']
end Sl
/-! ## V22 -/
set_option Elab.async false
set_option linter.all false
set_option maxRecDepth 100000
set_option maxHeartbeats 4000000
set_option pp.maxSteps 1500
set_option pp.deepTerms false
/-! _law_odd: what is in no language over the signs -/
namespace Sl
open PySem PySem.Spec PyProof.Rows L2 TxS
/-- not a word of the signs z -/
def OddV (K : PySem.W.Frag) (H : Hp) (z : Str) (v : V) : Prop := (∃ y : Str, v = .str y ∧ y.length ≤ 1000 ∧ wordOf z y = false) ∨ ∃ k : Kd, Is K H v k ∧ k ≠ .str
def spOdd (K : PySem.W.Frag) : Sp := fun vs H Q _ => ∃ (a : Addr) (z : Str), vs = [.ref a, .str z] ∧ Rng H a ∧ SgOk z ∧ ∀ (H' : Hp) (v : V), Rng H' a → Keep a H H' → OddV K H' z v → Q v H'
section
variable {P : Program} {w : World} {K : PySem.W.Frag} {mg : Str → Option Value} {base : Heap}
end
end Sl
/-! ## V23 -/
set_option Elab.async false
set_option linter.all false
set_option maxRecDepth 100000
set_option maxHeartbeats 4000000
/-! a value in an own object, a choice of a text's signs (k11), repr of a bool -/
namespace Sl
open PySem PySem.Spec PyProof.Rows L2
def rInO (C : Addr) (sp : Sp) : R2 := fun x y H Q => ∃ (a dx : Addr) (fs : List (Str × V)), y = .ref a ∧ H a = some (.ins C dx fs) ∧ sp [.ref a, x] H (fun v H' => ∃ b : Bool, v = .bl b ∧ Q (.bl b) H') fun _ _ _ => False
theorem op_inO {X : Cx} {C g : Addr} {k : Nat} {fd : FuncData} {sp : Sp} (m : L2.Meth X.K C "__contains__" g) (F : FnOk X.prog X.w X.K X.mg X.base CX0 k g fd ["self", "value"] sp) (hr : Room k X.A) (hb : L2.Binds X.K fd ["self", "value"] []) :
    OpR X (compareOp .In) (rInO C sp) := by
  intro pins s σ H x y v u Q I rx ry h
  obtain ⟨a, dx, fs, rfl, e, q⟩ := h
  cases (show u = Value.ref a from ry)
  obtain ⟨mA, O, rr, _, _, _⟩ := ins_get I.hok e
  obtain ⟨od, J, hl⟩ := O.look
  show wpAny _ _ (do return Value.bool (← contains (.ref a) v)) _ _ _
  refine wpAny_bind (m := contains (.ref a) v) ?_
  unfold contains
  refine wpAny_holding ?_
  refine wpAny_bind (m := specialOf (.ref a) (Str.ofString "__contains__")) ?_
  unfold specialOf
  refine wpAny_bind (J.type.here ((PySem.W.looks_findIn I.kIn m.at_).here ?_))
  rw [if_neg (by simp)]
  refine wpAny_bind (m := callSpecialUnlessNone? (.ref a) (Str.ofString "__contains__") [v] _) ?_
  unfold callSpecialUnlessNone? specialOf
  refine wpAny_bind (wpAny_bind (J.type.here ((PySem.W.looks_findIn I.kIn m.at_).here ?_)))
  refine wpAny_holding (wpAny_bind ?_)
  unfold bindSpecial
  refine wpAny_bind ((PySem.W.looks_typeIn I.kIn (beq_iff_eq.mp m.fn)).here ?_)
  rw [if_pos (by decide)]
  refine wpAny_pure ?_
  dsimp only
  rw [if_neg (by simp)]
  refine wpAny_bind (wpAny_call (codeAny_mono (F.run X.A X.stack s H ⟨[.ref a, v], []⟩ [.ref a, v] [.ref a, x] _ _ hr I.env0 (hb s [.ref a, v] I.kIn rfl) (.cons rfl (.cons rx .nil)) q) fun c s' hq => ?_))
  cases c with
  | error er => exact (show False from hq).elim
  | ok fl =>
    cases fl with
    | ret u =>
      obtain ⟨v', H', I', rv, b, rfl, q'⟩ := I.after hq
      obtain rfl : u = Value.bool b := rv
      refine wpAny_pure ?_
      exact wpAny_pure (wpAny_pure ⟨.bl b, H', I', rfl, q'⟩)
    | next => exact hq.elim
    | brk => exact hq.elim
    | cont => exact hq.elim
def spChoiceS : Sp := fun vs H Q _ => ∃ (a : Addr) (z : Str), vs = [.ref a, .str z] ∧ Rng H a ∧ 0 < z.length ∧ z.length ≤ 10000 ∧
  ∀ (i c : Nat) (H' : Hp), z.cps[i]? = some c → Rng H' a → Keep a H H' → Q (.str ⟨#[c]⟩) H'
section
variable {P : Program} {w : World} {K : PySem.W.Frag} {mg : Str → Option Value} {base : Heap}
theorem ok_choiceS {f fD : Addr} {fd fdD : FuncData} (F : Fun K "_law_choice" "_law_choice" sChoice f fd) (aD : At K mg "_law_draw" fD fdD ["_law_rng_here", "_law_many"] []) (gD : FnOk P w K mg base CX0 1 fD fdD ["_law_rng_here", "_law_many"] spDraw) (zn : mg "len" = none) :
    FnOk P w K mg base CX0 2 f fd ["_law_rng_here", "_law_some"] spChoiceS := by
  refine F.ok scChoice (fun vs H Q E h => ?_) (fun cdv A0 outer s H vs Q E hr h => ?_)
  · obtain ⟨a, z, rfl, _⟩ := h
    rfl
  · obtain ⟨a, z, rfl, hR, h0, hl, k⟩ := h
    refine ⟨_, pss_one (ps_ret (pe_ix ix_str (pv 1) (pe_call gD hr (by rfl) aD.g aD.kp aD.b .nil pass0 (pa_cons (pv 0) (pa_cons (pe_callB call_len_str (by rfl) zn PySem.boot_len (pa_cons (pv 1) pa_nil)) pa_nil))) (fun _ _ => rfl))), ?_⟩
    refine ⟨_, rfl, _, rfl, _, rfl, z, rfl, small_size hl, a, _, rfl, hR, by omega, by omega, fun d H' d0 dn r' k' => ?_⟩
    obtain ⟨j, rfl⟩ : ∃ j : Nat, d = (j : Int) := ⟨d.toNat, by omega⟩
    have hj : j < z.cps.size := by
      have : j < z.length := by omega
      exact this
    exact ⟨z, j, z.cps[j], rfl, rfl, small_size hl, atI_nat (by rw [Array.getElem?_toList]; exact Array.getElem?_eq_getElem hj), k j _ H' (Array.getElem?_eq_getElem hj) r' k'⟩
end
def rReprB : List V → Hp → VK → Prop := fun xs H Q => ∃ b : Bool, xs = [.bl b] ∧ Q (.str (if b = true then Str.ofString "True" else Str.ofString "False")) H
theorem call_reprB {X : Cx} : CallR X (.builtin "repr") rReprB := by
  intro pins s σ H xs us Q I r h
  obtain ⟨b, rfl, q⟩ := h
  obtain ⟨u, rfl, rx⟩ := vals1 r
  obtain rfl : u = .bool b := rx
  refine PySem.P.repr_of_bool ?_
  have e : (if b then ("True" : Str) else "False") = if b = true then Str.ofString "True" else Str.ofString "False" := rfl
  exact ⟨.str _, H, I.tok _, ⟨_, rfl⟩, q⟩
end Sl
/-! ## A10 -/
set_option Elab.async false
set_option linter.all false
set_option maxRecDepth 100000
set_option maxHeartbeats 4000000
set_option pp.maxSteps 900
set_option pp.deepTerms false
/-! the order in which texts reach the states; _law_walks_right -/
namespace Sl
open PySem PySem.Spec PyProof.Rows L2 TxS LamX NdefX
section
variable {sg : List Str} {M : Nat} {δ : Nat → Str → Nat} {found : List Nat}
theorem runs_succ (k : Nat) : (allW sg (k + 1)).map (run δ 0) = 0 :: ((allW sg k).map (run δ 0)).flatMap fun b => sg.map (δ b) := by
  rw [allW_succ, List.map_cons]
  refine congrArg (List.cons 0) ?_
  rw [List.map_flatMap, List.flatMap_map, List.flatMap_def, List.flatMap_def]
  refine congrArg List.flatten (List.map_congr_left fun w _ => ?_)
  rw [List.map_map]
  refine List.map_congr_left fun c _ => ?_
  show run δ 0 (w ++ [c]) = _
  rw [run_app]
  rfl
theorem met_succ (k : Nat) : metL ((allW sg (k + 1)).map (run δ 0)) = metL (0 :: (metL ((allW sg k).map (run δ 0))).flatMap fun b => sg.map (δ b)) := by
  have h := metL_flat [0] (fun b => sg.map (δ b)) ((allW sg k).map (run δ 0))
  rw [runs_succ]
  exact h.symm
theorem met_pre (k : Nat) : metL ((allW sg k).map (run δ 0)) <+: metL ((allW sg (k + 1)).map (run δ 0)) := by
  have e : allW sg (k + 1) = allW sg k ++ levW sg (k + 1) := rfl
  rw [e, List.map_append]
  exact metL_pre _ _
theorem met_stop (A : Can sg M δ found) {k : Nat} (h : (metL ((allW sg (k + 1)).map (run δ 0))).length ≤ (metL ((allW sg k).map (run δ 0))).length) : metL ((allW sg k).map (run δ 0)) = List.range M := by
  have e := (met_pre (sg := sg) (δ := δ) k).eq_of_length_le h
  have e1 : metL ((allW sg k).map (run δ 0)) = metL (0 :: (metL ((allW sg k).map (run δ 0))).flatMap fun b => sg.map (δ b)) := by
    rw [← met_succ]
    exact e
  have go : ∀ (P : List Nat), 0 ∈ P → (∀ x ∈ P, ∀ y ∈ sg.map (δ x), y ∈ P) → ∀ (w : List Str) (n : Nat), n ∈ P → (∀ c ∈ w, c ∈ sg) → run δ n w ∈ P := fun P _ pc w => by
    induction w with
    | nil => exact fun n h _ => h
    | cons c w ih =>
      intro n h hw
      rw [run_cons]
      exact ih _ (pc n h _ (List.mem_map.mpr ⟨c, hw c List.mem_cons_self, rfl⟩)) fun c' h' => hw c' (List.mem_cons_of_mem _ h')
  refine fix_uniq e1 A.canon.symm (fun P p0 pc x hx => ?_) fun P p0 pc x hx => ?_
  · obtain ⟨w, hw, rfl⟩ := List.mem_map.mp ((metL_mem _).mp hx)
    exact go P p0 pc w 0 p0 (allW_mem.mp hw).2
  · obtain ⟨w, hw, rfl⟩ := A.reach x (List.mem_range.mp hx)
    exact go P p0 pc w 0 p0 hw
theorem met_len (A : Can sg M δ found) : ∀ k : Nat, metL ((allW sg k).map (run δ 0)) = List.range M ∨ k + 1 ≤ (metL ((allW sg k).map (run δ 0))).length
  | 0 => .inr (by
    unfold allW
    exact Nat.le_refl _)
  | k + 1 => by
    rcases met_len A k with e | l
    · refine .inl ?_
      rw [met_succ, e, A.canon]
    · by_cases c : (metL ((allW sg (k + 1)).map (run δ 0))).length ≤ (metL ((allW sg k).map (run δ 0))).length
      · refine .inl ?_
        have e := met_stop A c
        rw [met_succ, e, A.canon]
      · exact .inr (by omega)
/-- the states in the order in which all short texts reach them -/
theorem met_all (A : Can sg M δ found) {k : Nat} (hk : M ≤ k + 1) : metL ((allW sg k).map (run δ 0)) = List.range M := by
  rcases met_len A k with e | l
  · exact e
  · refine met_stop A (Nat.le_trans ?_ l)
    refine Nat.le_trans (nodup_len (N := M) (metL_nodup _) fun x hx => ?_) hk
    obtain ⟨w, hw, rfl⟩ := List.mem_map.mp ((metL_mem _).mp hx)
    exact run_lt A.lt w 0 A.pos (allW_mem.mp hw).2
end
theorem one_in {z : Str} {c : Nat} : (⟨#[c]⟩ : Str) ∈ sgL z ↔ c ∈ z.cps.toList := by
  unfold sgL
  rw [List.mem_map]
  constructor
  · rintro ⟨x, hx, e⟩
    injection e with e
    have e := congrArg Array.toList e
    obtain rfl : x = c := by injection e
    exact hx
  · exact fun h => ⟨c, h, rfl⟩
theorem word_of {z y : Str} (hz : isWordS z = true) (h : ∀ c ∈ sgL y, c ∈ sgL z) : wordOf z y = true := by
  have hc : ∀ c ∈ y.cps.toList, c ∈ z.cps.toList := fun c hc => one_in.mp (h _ (one_in.mpr hc))
  unfold wordOf
  rw [Bool.and_eq_true]
  refine ⟨?_, List.all_eq_true.mpr fun c h => decide_eq_true (hc c h)⟩
  unfold isWordS at hz ⊢
  exact List.all_eq_true.mpr fun c h => List.all_eq_true.mp hz c (hc c h)
/-- a language and the law's machine -/
structure LawOk (z : Str) (M : Nat) (δ' : Nat → Str → Nat) (found live : List Nat) (N : Nat) (δ : Nat → Str → Nat) (mem : List Nat) : Prop where
  sg : SgOk z
  l3 : z.length ≤ 3
  lt : LgLt z M δ'
  m5 : M ≤ 5
  can : Can (sgL z) M δ' found
  acc : ∀ w : List Str, (∀ c ∈ w, c ∈ sgL z) → (run δ' 0 w ∈ found ↔ run δ 0 w ∈ mem)
  lv : ∀ n, n < M → (n ∈ live ↔ Leads (gOf (sgL z) δ') found n)
  mac : MacOk (sgL z) N δ mem 5
theorem LawOk.live {z : Str} {M N : Nat} {δ' δ : Nat → Str → Nat} {found live mem : List Nat} (L : LawOk z M δ' found live N δ mem) {w : List Str} (hw : ∀ c ∈ w, c ∈ sgL z) : run δ' 0 w ∈ live ↔ run δ 0 w ∈ liveR (gOf (sgL z) δ) N mem N := by
  rw [L.lv _ (run_lt L.lt.lt w 0 L.lt.pos hw), liveR_all L.mac.lt (run_lt L.mac.lt w 0 L.mac.pos hw), leads_run, leads_run]
  constructor
  · rintro ⟨v, hv, h⟩
    rw [← run_app, L.acc _ fun c hc => (List.mem_append.mp hc).elim (hw c) (hv c), run_app] at h
    exact ⟨v, hv, h⟩
  · rintro ⟨v, hv, h⟩
    rw [← run_app, ← L.acc _ fun c hc => (List.mem_append.mp hc).elim (hw c) (hv c), run_app] at h
    exact ⟨v, hv, h⟩
/-- all texts up to k signs, as a list at a -/
structure NotesAt (H : Hp) (a : Addr) (z : Str) (k : Nat) (zs : List Str) : Prop where
  at_ : H a = some (.lst (zs.map V.str))
  all : zs.map sgL = allW (sgL z) k
  len : zs.length ≤ 1000
  k : k ≤ 6
theorem NotesAt.word {H : Hp} {a : Addr} {z : Str} {k : Nat} {zs : List Str} (n : NotesAt H a z k zs) {y : Str} (hy : y ∈ zs) : (∀ c ∈ sgL y, c ∈ sgL z) ∧ y.length ≤ 6 := by
  have h : sgL y ∈ allW (sgL z) k := by
    rw [← n.all]
    exact List.mem_map.mpr ⟨y, hy, rfl⟩
  obtain ⟨h1, h2⟩ := allW_mem.mp h
  rw [sgL_len] at h1
  have h1 : y.length ≤ k := h1
  have := n.k
  exact ⟨h2, by omega⟩
theorem three_bools (a b c : Bool) : (boolsPD [a, b, c]).showable = true ∧ (boolsPD [a, b, c]).hasDict = false ∧ (boolsPD [a, b, c]).depth ≤ 60 ∧ (boolsPD [a, b, c]).shown.length ≤ 8000 := by
  cases a <;> cases b <;> cases c <;> decide +kernel
abbrev sWalksR : Stmt := top 55
abbrev nWalksR : List Str := ["_law_made", "_law_machine", "_law_notes", "_law_live_here", "_law_order", "_law_note", "_law_spot_here", "_law_own", "_law_told"]
def spWalksR (C : Addr) : Sp := fun vs H Q _ => ∃ (p t R E n : Addr) (z : Str) (M k : Nat) (δ' δ : Nat → Str → Nat) (found live mem : List Nat) (rs : List Addr) (zs : List Str), vs = [.ref p, .ref t, .ref n] ∧ LangAt C H p z M δ' found live ∧ MacAt H t z R E rs δ mem ∧ LawOk z M δ' found live rs.length δ mem ∧
  NotesAt H n z k zs ∧ M ≤ k + 1 ∧ ∀ H', Ext H H' → Q (.bl true) H'
section
variable {P : Program} {w : World} {K : PySem.W.Frag} {mg : Str → Option Value} {base : Heap}
theorem scWalksR : FnScope nWalksR ["_law_made", "_law_machine", "_law_notes"] (defScope sWalksR) := ⟨rfl, rfl, rfl, by decide +kernel, rfl, by decide +kernel, by decide +kernel⟩
theorem ok_walksR {C f fLen fMb fLv fHas fL fSt fSp : Addr} {fd fdLen fdMb fdLv fdHas fdL fdSt fdSp : FuncData} (F : Fun K "_law_walks_right" "_law_walks_right" sWalksR f fd) (Tc : LgC K C)
    (mLen : L2.Meth K C "__len__" fLen) (bLen : L2.Binds K fdLen ["self"] []) (gLen : FnOk P w K mg base CX0 1 fLen fdLen ["self"] (spLenL C))
    (mMb : L2.Meth K C "is_member" fMb) (bMb : L2.Binds K fdMb ["self", "state"] []) (gMb : FnOk P w K mg base CX0 4 fMb fdMb ["self", "state"] (spMember C))
    (mLv : L2.Meth K C "is_live" fLv) (bLv : L2.Binds K fdLv ["self", "state"] []) (gLv : FnOk P w K mg base CX0 4 fLv fdLv ["self", "state"] (spIsLive C))
    (mHas : L2.Meth K C "__contains__" fHas) (bHas : L2.Binds K fdHas ["self", "value"] []) (gHas : FnOk P w K mg base CX0 3 fHas fdHas ["self", "value"] (spHasL K C))
    (aL : At K mg "_law_live" fL fdL ["_law_machine"] []) (gL : FnOk P w K mg base CX0 1 fL fdL ["_law_machine"] spLiveLaw)
    (aSt : At K mg "_law_state" fSt fdSt ["_law_made", "_law_note"] []) (gSt : FnOk P w K mg base CX0 5 fSt fdSt ["_law_made", "_law_note"] (spStateL C))
    (aSp : At K mg "_law_spot" fSp fdSp ["_law_machine", "_law_note"] []) (gSp : FnOk P w K mg base CX0 1 fSp fdSp ["_law_machine", "_law_note"] spSpot)
    (zp : mg "repr" = none) (zn : mg "len" = none) (zl : mg "list" = none) (zr : mg "range" = none) :
    FnG P w K mg base CX0 6 f fd ["_law_made", "_law_machine", "_law_notes"] (spWalksR C) := by
  refine Sl.Fun.okG F scWalksR (fun vs H Q E h => ?_) (fun cdv A0 outer s H vs Q E gd hr h => ?_)
  · obtain ⟨p, t, R, E1, n, z, M, k, δ', δ, found, live, mem, rs, zs, rfl, _⟩ := h
    rfl
  · obtain ⟨p, t, R, E1, n, z, M, k, δ', δ, found, live, mem, rs, zs, rfl, LA, MA, LO, NA, Mk, kk⟩ := h
    have hu64 := hr.units
    have hr1 := hr.mono (show 1 ≤ 5 by omega)
    have hr2 := hr.mono (show 2 ≤ 5 by omega)
    have hr3 := hr.mono (show 3 ≤ 5 by omega)
    have hr4 := hr.mono (show 4 ≤ 5 by omega)
    refine ⟨_, pss_cons (ps_par (i := 3) (j := 4) (by rfl) scWalksR.nd rfl rfl (by decide) rfl rfl (pa_cons (pe_call (E := fun _ _ _ => False) gL hr1 (by rfl) aL.g aL.kp aL.b .nil pass0 (pa_cons (pv 1) pa_nil)) (pa_cons (pe_lst pa_nil) pa_nil)) (by rfl))
      (pss_cons (ps_for (passes_of rfl) rfl (pi_list (pv 2)) (pg_name (i := 5) scWalksR.nd rfl (.inl rfl))
        (pss_cons (ps_par (i := 6) (j := 7) (by rfl) scWalksR.nd rfl rfl (by decide) rfl rfl (pa_cons (pe_call (E := fun _ _ _ => False) gSt hr (by rfl) aSt.g aSt.kp aSt.b .nil pass0 (pa_cons (pv 0) (pa_cons (pv 5) pa_nil))) (pa_cons (pe_call (E := fun _ _ _ => False) gSp hr1 (by rfl) aSp.g aSp.kp aSp.b .nil pass0 (pa_cons (pv 1) (pa_cons (pv 5) pa_nil))) pa_nil)) (by rfl))
        (pss_cons (ps_if (pt_cmpR op_notIn_seq (pv 6) (pv 4) (by rfl)) (pss_one (ps_expr (pe_bm PySem.F.plainAttrs_list PySem.F.slot_list_append PySem.F.type_list_append mt_append (pv 4) (pa_cons (pv 6) pa_nil)))) pss_nil)
        (pss_cons (ps_set (i := 8) scWalksR.nd rfl (.inl rfl) (pe_lst (pa_cons (pe_meth (E := fun _ _ _ => False) (pv 0) Tc.cl mMb gMb hr4 bMb .nil pass0 (pa_cons (pv 6) pa_nil)) (pa_cons (pe_meth (E := fun _ _ _ => False) (pv 0) Tc.cl mLv gLv hr4 bLv .nil pass0 (pa_cons (pv 6) pa_nil)) (pa_cons (pe_cmpR (op_inO mHas gHas hr3 bHas) (pv 5) (pv 0) (by rfl)) pa_nil)))))
        (pss_one (ps_if (pt_cmpR op_ne (pe_callB (cr_shown gd hu64) (by rfl) zp (by decide +kernel) (pa_cons (pv 8) pa_nil)) (pe_callB (cr_shown gd hu64) (by rfl) zp (by decide +kernel) (pa_cons (pe_lst (pa_cons (pe_cmpR op_in_seq (pv 7) (pe_ix ix_tup (pv 1) pe_int (fun _ _ => rfl)) (by rfl)) (pa_cons (pe_cmpR op_in_seq (pv 7) (pv 3) (by rfl)) (pa_cons (pe_cmpR op_in_seq (pv 7) (pe_ix ix_tup (pv 1) pe_int (fun _ _ => rfl)) (by rfl)) pa_nil)))) pa_nil)) (nomark _)) pss_dead pss_nil))))))
      (pss_one (ps_ret (pe_cmpR (op_eqV hu64) (pv 4) (pe_listRg rfl (by rfl) zl (prg_1 (by rfl) zr (pe_callB (call_lenO mLen gLen hr2 bLen) (by rfl) zn PySem.boot_len (pa_cons (pv 0) pa_nil)))) (nomark _))))), ?_⟩
    have zl : (sgL z).length ≤ 100 := by
      rw [sgL_len]
      exact LO.lt.z
    have LAx : ∀ {H' : Hp}, Ext H H' → LangAt C H' p z M δ' found live := fun x => LA.extN (ExtN.of x)
    have MAx : ∀ {H' : Hp}, Ext H H' → MacAt H' t z R E1 rs δ mem := fun x => ⟨x _ _ MA.t, x _ _ MA.r, fun i r e => x _ _ (MA.rows i r e), x _ _ MA.e⟩
    refine ⟨_, rfl, t, z, R, E1, rs, δ, mem, 5, rfl, MA, LO.mac, by omega, zl, fun H1 Lv x1 nLv hLv => ⟨by show 0 ≤ sizeLine; decide, fun O nO => ⟨_, _, rfl, ?_⟩⟩⟩
    have xO := Ext.new nO (o := .lst [])
    have hO : (upd H1 O (.lst [])) O = some (.lst ((metL (((allW (sgL z) k).take 0).map (run δ' 0))).map fun n => V.int (n : Nat))) := upd_same
    generalize upd H1 O (.lst []) = H2 at xO hO ⊢
    refine ⟨_, rfl, n, rfl, ⟨_, SqL.of ((x1.trans xO) _ _ NA.at_)⟩, ?_⟩
    refine for_it (walk_list (xs := zs.map V.str)) (fun j σ H' => ∃ v5 v6 v7 v8, σ = [some (.ref p), some (.ref t), some (.ref n), some (.ref Lv), some (.ref O), v5, v6, v7, v8] ∧ Ext H1 H' ∧ H' O = some (.lst ((metL (((allW (sgL z) k).take j).map (run δ' 0))).map fun n => V.int (n : Nat))))
      ⟨none, none, none, none, rfl, xO, hO⟩ (fun j σ H' _ ⟨_, _, _, _, _, x, _⟩ => SqL.of ((x1.trans x) _ _ NA.at_)) ?_ ?_
    · rintro j x σ H3 H4 hj ⟨v5, v6, v7, v8, rfl, x3, hO3⟩ ⟨rfl, hx⟩
      obtain ⟨y, hy, rfl⟩ := at_map hx
      have hw : (allW (sgL z) k)[j]? = some (sgL y) := by
        rw [← NA.all, List.getElem?_map, hy]
        rfl
      obtain ⟨yz, y6⟩ := NA.word (List.mem_of_getElem? hy)
      have en : metL (((allW (sgL z) k).take (j + 1)).map (run δ' 0)) = if run δ' 0 (sgL y) ∈ metL (((allW (sgL z) k).take j).map (run δ' 0)) then metL (((allW (sgL z) k).take j).map (run δ' 0)) else metL (((allW (sgL z) k).take j).map (run δ' 0)) ++ [run δ' 0 (sgL y)] := by
        rw [take_more hw, List.map_append, List.map_singleton, metL_snoc]
      rw [en]
      have lF : (metL (((allW (sgL z) k).take j).map (run δ' 0))).length ≤ 100 := by
        refine Nat.le_trans (nodup_len (N := M) (metL_nodup _) fun x hx => ?_) LO.lt.n
        obtain ⟨w, hw, rfl⟩ := List.mem_map.mp ((metL_mem _).mp hx)
        exact run_lt LO.lt.lt w 0 LO.lt.pos (allW_mem.mp (List.mem_of_mem_take hw)).2
      generalize metL (((allW (sgL z) k).take j).map (run δ' 0)) = F at hO3 lF ⊢
      have x03 := x1.trans x3
      have rM := run_lt LO.lt.lt (sgL y) 0 LO.lt.pos yz
      refine ⟨_, rfl, _, rfl, p, y, z, M, δ', found, live, rfl, LAx x03, LO.lt, yz, ⟨_, rfl, _, rfl, t, y, z, R, E1, rs, δ, mem, 5, rfl, MAx x03, LO.mac, yz, ⟨_, _, rfl, ?_⟩⟩⟩
      refine ⟨_, rfl, _, rfl, O, _, rfl, .inl (SqL.of hO3), rfl, flat_nats _, ?_⟩
      rw [if_pos rfl, inV_nat]
      refine ⟨_, rfl, ?_⟩
      have ew := word_of LO.sg.word yz
      have e1 : decide (run δ' 0 (sgL y) ∈ found) = decide (run δ 0 (sgL y) ∈ mem) := decide_eq_decide.mpr (LO.acc _ yz)
      have e2 : decide (run δ' 0 (sgL y) ∈ live) = decide (run δ 0 (sgL y) ∈ liveR (gOf (sgL z) δ) rs.length mem rs.length) := decide_eq_decide.mpr (LO.live yz)
      by_cases c : run δ' 0 (sgL y) ∈ F
      case' pos =>
        rw [if_pos c, decide_eq_true c]
        refine iteF ?_
        have x5 := x3
        have hO5 := hO3
        generalize hH5 : H4 = H5 at x5 hO5 ⊢
        generalize hF5 : F = F5 at hO5 ⊢
      case' neg =>
        rw [if_neg c, decide_eq_false c]
        refine iteT ⟨_, rfl, .inl ⟨rfl, _, SqL.of hO3⟩, _, rfl, O, _, _, rfl, rfl, hO3, by rw [List.length_map]; exact small1000 (by omega), ?_⟩
        have x5 : Ext H1 (upd H4 O (.lst (F.map (fun n => V.int (n : Nat)) ++ [.int (run δ' 0 (sgL y) : Nat)]))) := fun a o e => by
          rw [upd_ne (ne_of_none e nO)]
          exact x3 _ _ e
        have hO5 : (upd H4 O (.lst (F.map (fun n => V.int (n : Nat)) ++ [.int (run δ' 0 (sgL y) : Nat)]))) O = some (.lst ((F ++ [run δ' 0 (sgL y)]).map fun n => V.int (n : Nat))) := by
          rw [upd_same, List.map_append]
          rfl
        generalize hH5 : upd H4 O (.lst (F.map (fun n => V.int (n : Nat)) ++ [.int (run δ' 0 (sgL y) : Nat)])) = H5 at x5 hO5 ⊢
        generalize hF5 : F ++ [run δ' 0 (sgL y)] = F5 at hO5 ⊢
      all_goals
        have x05 := x1.trans x5
        have la5 := LAx x05
        obtain ⟨dx, fs, i1, no1⟩ := la5.no "is_member" (by decide)
        obtain ⟨dx2, fs2, i2, no2⟩ := la5.no "is_live" (by decide)
        refine ⟨_, rfl, p, dx, fs, rfl, i1, no1, _, rfl, p, _, z, M, δ', found, live, rfl, la5, rM, ?_⟩
        refine ⟨_, rfl, p, dx2, fs2, rfl, i2, no2, _, rfl, p, _, z, M, δ', found, live, rfl, la5, rM, ?_⟩
        refine ⟨_, rfl, _, rfl, p, dx, fs, rfl, i1, p, .str y, z, M, δ', found, live, rfl, la5, LO.lt.pos, LO.lt.lt, .inl ⟨y, rfl, by omega, fun H6 x6 => ⟨_, rfl, by show 3 ≤ sizeLine; decide, fun Dt nDt => ?_⟩⟩⟩
        rw [ew, Bool.true_and, e1, e2]
        have hDt : (upd H6 Dt (.lst [V.bl (decide (run δ 0 (sgL y) ∈ mem)), V.bl (decide (run δ 0 (sgL y) ∈ liveR (gOf (sgL z) δ) rs.length mem rs.length)), V.bl (decide (run δ 0 (sgL y) ∈ mem))])) Dt = some (.lst ([decide (run δ 0 (sgL y) ∈ mem), decide (run δ 0 (sgL y) ∈ liveR (gOf (sgL z) δ) rs.length mem rs.length), decide (run δ 0 (sgL y) ∈ mem)].map V.bl)) := upd_same
        have xDt := Ext.new nDt (o := .lst [V.bl (decide (run δ 0 (sgL y) ∈ mem)), V.bl (decide (run δ 0 (sgL y) ∈ liveR (gOf (sgL z) δ) rs.length mem rs.length)), V.bl (decide (run δ 0 (sgL y) ∈ mem))])
        generalize upd H6 Dt (.lst [V.bl (decide (run δ 0 (sgL y) ∈ mem)), V.bl (decide (run δ 0 (sgL y) ∈ liveR (gOf (sgL z) δ) rs.length mem rs.length)), V.bl (decide (run δ 0 (sgL y) ∈ mem))]) = H7 at hDt xDt ⊢
        obtain ⟨b1, b2, b3, b4⟩ := three_bools (decide (run δ 0 (sgL y) ∈ mem)) (decide (run δ 0 (sgL y) ∈ liveR (gOf (sgL z) δ) rs.length mem rs.length)) (decide (run δ 0 (sgL y) ∈ mem))
        have s8 : (8000 : Nat) ≤ sizeLine := by rw [sizeLine_eq]; decide
        have x57 := x6.trans xDt
        have x17 := x5.trans x57
        have x07 := x1.trans x17
        have MA7 := MAx x07
        have hLv7 := x17 _ _ hLv
        refine ⟨_, rfl, Dt, boolsPD [decide (run δ 0 (sgL y) ∈ mem), decide (run δ 0 (sgL y) ∈ liveR (gOf (sgL z) δ) rs.length mem rs.length), decide (run δ 0 (sgL y) ∈ mem)], rfl, .lst (SqL.of hDt) (bools_dp _), b1, b2, b3, by omega, ?_⟩
        refine ⟨_, rfl, _, rfl, t, _, 2, _, rfl, rfl, SqT.of MA7.t, rfl, E1, _, rfl, .inl (SqL.of MA7.e), rfl, flat_nats _, ?_⟩
        rw [if_neg Bool.false_ne_true, inV_nat]
        refine ⟨_, rfl, _, rfl, Lv, _, rfl, .inl (SqL.of hLv7), rfl, flat_nats _, ?_⟩
        rw [if_neg Bool.false_ne_true, inV_nat]
        refine ⟨_, rfl, _, rfl, t, _, 2, _, rfl, rfl, SqT.of MA7.t, rfl, E1, _, rfl, .inl (SqL.of MA7.e), rfl, flat_nats _, ?_⟩
        rw [if_neg Bool.false_ne_true, inV_nat]
        refine ⟨by show 3 ≤ sizeLine; decide, fun Du nDu => ?_⟩
        have hDu : (upd H7 Du (.lst [V.bl (decide (run δ 0 (sgL y) ∈ mem)), V.bl (decide (run δ 0 (sgL y) ∈ liveR (gOf (sgL z) δ) rs.length mem rs.length)), V.bl (decide (run δ 0 (sgL y) ∈ mem))])) Du = some (.lst ([decide (run δ 0 (sgL y) ∈ mem), decide (run δ 0 (sgL y) ∈ liveR (gOf (sgL z) δ) rs.length mem rs.length), decide (run δ 0 (sgL y) ∈ mem)].map V.bl)) := upd_same
        have xDu := Ext.new nDu (o := .lst [V.bl (decide (run δ 0 (sgL y) ∈ mem)), V.bl (decide (run δ 0 (sgL y) ∈ liveR (gOf (sgL z) δ) rs.length mem rs.length)), V.bl (decide (run δ 0 (sgL y) ∈ mem))])
        refine ⟨Du, boolsPD [decide (run δ 0 (sgL y) ∈ mem), decide (run δ 0 (sgL y) ∈ liveR (gOf (sgL z) δ) rs.length mem rs.length), decide (run δ 0 (sgL y) ∈ mem)], rfl, .lst (SqL.of hDu) (bools_dp _), b1, b2, b3, by omega, rfl, ?_⟩
        refine ⟨false, by simp, iteF ?_⟩
        exact ⟨_, _, _, _, rfl, x17.trans xDu, xDu _ _ (x57 _ _ hO5)⟩
    · rintro σ H3 ⟨v5, v6, v7, v8, rfl, x3, hO3⟩
      have lz : (List.map V.str zs).length = (allW (sgL z) k).length := by
        rw [List.length_map, ← NA.all, List.length_map]
      rw [lz, List.take_length, met_all LO.can Mk] at hO3
      have x03 := x1.trans x3
      have la3 := LAx x03
      obtain ⟨dx, fs, i1, no1⟩ := la3.no "__len__" (by decide)
      have m5 := LO.m5
      refine ⟨_, rfl, _, rfl, p, dx, fs, rfl, i1, p, z, M, δ', found, live, rfl, la3, M, rfl, by omega, (M : Int), rfl, RgOk.of_le (by omega) (by omega) (by omega) (by omega), fun q nq => ?_⟩
      have er : rgV 0 (M : Int) = (List.range M).map fun n => V.int (n : Nat) := by
        unfold rgV
        rw [show ((M : Int) - 0).toNat = M by omega]
        refine List.map_congr_left fun i _ => ?_
        show V.int (0 + (i : Nat)) = _
        rw [Int.zero_add]
      rw [er]
      have hq : (upd H3 q (.lst ((List.range M).map fun n => V.int (n : Nat)))) q = some (.lst ((List.range M).map fun n => V.int (n : Nat))) := upd_same
      have xq := Ext.new nq (o := .lst ((List.range M).map fun n => V.int (n : Nat)))
      obtain ⟨d, d60, he⟩ := eq_list (K := K) (xq _ _ hO3) hq fun x hx => by
        obtain ⟨c, _, rfl⟩ := List.mem_map.mp hx
        rfl
      exact ⟨d, d60, he, kk _ (x03.trans xq)⟩
end
end Sl
/-! ## C16 -/
set_option Elab.async false
set_option linter.all false
set_option maxRecDepth 100000
set_option maxHeartbeats 4000000
/-! the set of a list of texts: the call -/
namespace TxS
open PySem PySem.Spec PyProof.Rows L2 PySem.Froz
section
variable {P : Program} {w : World} {A : Around} {E : Value → Shared → Prop} {s : Shared}
theorem call_set_listTx {l : Addr} {items : Array Value} {xs : List Str} {Q : Value → Shared → Prop} (calm : A.handled = none) (isl : s.heap.IsList l items)
    (txs : StrsAre items.toList xs) (room : xs.length + 1 < scanBound)
    (fin : ∀ (h' : Heap) (tk : Nat), SetS P w h' s.heap.objs.size (addAll [] xs) →
      (∀ b o, s.heap.get? b = some o → h'.get? b = some o) → Q (.ref s.heap.objs.size) { s with heap := h', toks := tk }) :
    wpAny (model P w) A (call (.type "set") [.ref l]) Q E s := by
  have many : items.size = xs.length := by
    have q := strs_len txs
    rw [Array.length_toList] at q
    exact q.symm
  have mro := PySem.F.called_set.mro
  obtain ⟨top, rest, mro⟩ := mro
  have made := PySem.F.called_set.made
  have subs := PySem.F.called_set.sub
  have notType := PySem.F.called_set.notType
  have canBe := PySem.F.called_set.canCreate
  have checked := PySem.F.typeCall_set_1 (.ref l)
  refine wpAny_call (codeAny_of_tree ?_)
  show wpAny _ _ (callAny (.type "set") _) _ _ _
  refine wpAny_pure ⟨Code.quiet_builtin _ (by decide +kernel),
    codeAny_builtin PySem.F.entry_type_call ?_⟩
  rw [Around.under_plain (weight_type_call_type "set" [.ref l] [])
    rfl]
  repeat (any_goals (first | assumption | wp_step))
  let s0 : Shared := { s with heap := s.heap.push (emptyS w) }
  refine codeAny_mono (code_set_led1 (.ref l) (E := E) (Q₁ := fun v t => v = .ref s.heap.objs.size ∧ t = s0) ⟨rfl, rfl⟩) fun r t hr => ?_
  cases r with
  | error e => exact hr
  | ok fl =>
    cases fl with
    | ret v =>
      obtain ⟨rfl, rfl⟩ := hr
      have at0 : s0.heap.get? s.heap.objs.size = some (emptyS w) := Heap.get?_push_size _ rfl
      have ty : s0.TypeIs (.ref s.heap.objs.size) "set" := ⟨_, at0, rfl⟩
      have look := PySem.F.called_set.init.lookup
      have binds := PySem.F.called_set.init.bind (.ref s.heap.objs.size)
      repeat (any_goals (first | assumption | wp_step))
      refine codeAny_mono (codeAny_call_builtin (R := wants (fun v t => v = .none ∧ ∃ h' tk, t = { s with heap := h', toks := tk } ∧
          SetS P w h' s.heap.objs.size (addAll [] xs) ∧ (∀ b o, s.heap.get? b = some o → h'.get? b = some o)) E)
        PySem.F.called_set.init.plain PySem.F.entry_set_init (check_set_init_1 ty ?_)) fun r2 t2 hr2 => ?_
      · obtain ⟨⟨cl, di, da, sl⟩, ho, hc, nl, hd⟩ := isl
        simp only at hc hd
        subst hc
        subst hd
        have ho1 : s0.heap.get? l = some { cls := .type "list", dict := di, data := .seq items nl, slots := sl } := Heap.get?_push_of_some _ ho
        have isl1 : s0.heap.IsList l items := ⟨_, ho1, rfl, nl, rfl⟩
        have not1 := PySem.F.sub_list_set
        have not2 := PySem.F.sub_list_frozenset
        have not3 : (Value.type "list" == Value.type "dict") = false := by decide
        have lt : l < s.heap.objs.size := Heap.lt_size ho
        have size0 : s0.heap.objs.size = s.heap.objs.size + 1 := Heap.size_push ..
        unfold Builtin.«set.__init__» noKeywords Builtin.Frozenset.updateFrom
        generalize named : pyIter = PI
        have g0 : s0.gens = s.gens := rfl
        have d0 : s0.drawn = s.drawn := rfl
        have o0 : s0.os = s.os := rfl
        have old0 : ∀ b o, s.heap.get? b = some o → s0.heap.get? b = some o := fun b o e => Heap.get?_push_of_some _ e
        generalize s0 = z at *
        wp_walk
        subst named
        refine wpAny_pyIter_list isl1 (wpAny_bind (wpAny_runValue ?_))
        have hA : A.in1.in1.in1.handled = none := by
          rw [← calm]
        have apart : l ≠ z.heap.objs.size := Nat.ne_of_lt (by rw [size0]; exact Nat.lt_succ_of_lt lt)
        have out : s.heap.objs.size ∉ [z.heap.objs.size, l] := by
          intro c
          rcases List.mem_cons.mp c with e | c
          · rw [size0] at e
            exact absurd e (Nat.ne_of_lt (Nat.lt_succ_self _))
          · exact absurd (List.mem_singleton.mp c) (Nat.ne_of_gt lt)
        have val : ∀ (i : Nat) (v : Value), items[i]? = some v → ∃ k t, xs[i]? = some k ∧ v = .str k t := fun i v e =>
          StrsAre.pick txs i v (by rw [Array.getElem?_toList]; exact e)
        refine fillTx ((Walks.list hA _ l apart items).toS) s.heap.objs.size out xs many val (items.size - 0) 0 [] _ rfl (Nat.zero_le _) ?_ ?_ ?_ ?_
        · show 0 + (items.size - 0) + 1 < scanBound
          omega
        · exact ⟨⟨_, Heap.get?_push_size _ rfl, rfl, rfl⟩, isl1.push _⟩
        · exact emptyS_at (Heap.get?_push_of_some _ at0)
        · intro s3 m3 got
          obtain ⟨h3, g3, d3, t3, o3⟩ := s3
          have eg : g3 = s.gens := m3.gens.trans g0
          have ed : d3 = s.drawn := m3.drawn.trans d0
          have eo : o3 = s.os := m3.os.trans o0
          subst eg ed eo
          show wpAny _ _ _ _ _ _
          refine wpAny_pure ?_
          show wpAny _ _ (ret Value.none) _ _ _
          refine wpAny_pure ⟨rfl, h3, t3, rfl, got, fun b o e => ?_⟩
          have lb : b < s.heap.objs.size := Heap.lt_size e
          refine m3.heap b o (fun c => ?_) (Heap.get?_push_of_some _ (old0 b o e))
          rcases List.mem_cons.mp c with e | c
          · exact absurd e (Nat.ne_of_lt lb)
          · refine absurd (List.mem_singleton.mp c) (Nat.ne_of_lt ?_)
            rw [size0]
            exact Nat.lt_succ_of_lt lb
      · cases r2 with
        | error e => exact hr2
        | ok fl2 =>
          cases fl2 with
          | ret v =>
            obtain ⟨rfl, h', tk, rfl, got, old⟩ := hr2
            repeat (any_goals (first | assumption | wp_step))
            exact fin _ _ got old
          | _ => exact hr2.elim
    | _ => exact hr.elim
end
end TxS
/-! ## A11 -/
set_option Elab.async false
set_option linter.all false
set_option maxRecDepth 100000
set_option maxHeartbeats 4000000
set_option pp.maxSteps 900
set_option pp.deepTerms false
/-! shown lists of truths differ; len(a set of texts); a chain of three; _law_apart -/
namespace Sl
open PySem PySem.Spec PyProof.Rows L2 TxS LamX NdefX
/-! ### lists of truths, shown -/
def chT : Nat → List Str → List Nat
  | _, [] => []
  | k, t :: ts => (if k > 0 then [44, 32] else []) ++ t.cps.toList ++ chT (k + 1) ts
theorem app_ch (x y : Str) : (x ++ y).cps.toList = x.cps.toList ++ y.cps.toList := by
  show (x.cps ++ y.cps).toList = _
  rw [Array.toList_append]
theorem text_ch : ∀ (ts : List Str) (k : Nat) (acc : Str), (PySem.textFrom k acc ts).cps.toList = acc.cps.toList ++ chT k ts
  | [], _, acc => (List.append_nil _).symm
  | t :: ts, k, acc => by
    show (PySem.textFrom (k + 1) (acc ++ (if k > 0 then ", " else "" : String) ++ t) ts).cps.toList = _
    rw [text_ch ts, app_ch, app_ch]
    have e : (Str.ofString (if k > 0 then ", " else "" : String)).cps.toList = if k > 0 then [44, 32] else [] := by
      by_cases h : k > 0
      · rw [if_pos h, if_pos h]
        rfl
      · rw [if_neg h, if_neg h]
        rfl
    show acc.cps.toList ++ (Str.ofString _).cps.toList ++ t.cps.toList ++ chT (k + 1) ts = acc.cps.toList ++ ((if k > 0 then [44, 32] else []) ++ t.cps.toList ++ chT (k + 1) ts)
    rw [e, List.append_assoc, List.append_assoc, List.append_assoc]
def shB (b : Bool) : Str := (PyData.bool b).shown
theorem shB_t : (shB true).cps.toList = [84, 114, 117, 101] := by decide +kernel
theorem shB_f : (shB false).cps.toList = [70, 97, 108, 115, 101] := by decide +kernel
theorem ch_inj : ∀ (l m : List Bool) (k : Nat), l.length = m.length → chT k (l.map shB) = chT k (m.map shB) → l = m
  | [], [], _, _, _ => rfl
  | [], _ :: _, _, h, _ => nomatch h
  | _ :: _, [], _, h, _ => nomatch h
  | a :: l, b :: m, k, h, e => by
    simp only [List.map_cons, chT, List.append_assoc] at e
    have e := List.append_cancel_left e
    cases a <;> cases b
    · rw [ch_inj l m _ (Nat.succ.inj h) (List.append_cancel_left e)]
    · rw [shB_t, shB_f] at e
      simp at e
    · rw [shB_t, shB_f] at e
      simp at e
    · rw [ch_inj l m _ (Nat.succ.inj h) (List.append_cancel_left e)]
theorem bools_shown (l : List Bool) : (boolsPD l).shown = PySem.listText (l.map shB) := by
  unfold boolsPD
  rw [PyData.shown]
  congr 1
  rw [shownAll_eq_map, List.map_map]
  rfl
theorem bools_inj {l m : List Bool} (h : l.length = m.length) (e : (boolsPD l).shown = (boolsPD m).shown) : l = m := by
  rw [bools_shown, bools_shown] at e
  have e := congrArg (fun s : Str => s.cps.toList) e
  unfold PySem.listText at e
  rw [app_ch, app_ch, text_ch, text_ch] at e
  exact ch_inj l m 0 h (List.append_cancel_left (List.append_cancel_right e))
theorem bools_all : ∀ l : List Bool, PyData.showableAll (l.map PyData.bool) = true ∧ PyData.hasDictAll (l.map PyData.bool) = false ∧ PyData.depthAll (l.map PyData.bool) ≤ 2 ∧ PyData.leavesShortAll 13 (l.map PyData.bool) = true ∧ PyData.weightAll (l.map PyData.bool) ≤ l.length * 8
  | [] => ⟨rfl, rfl, by simp [PyData.depthAll], rfl, by simp [PyData.weightAll]⟩
  | b :: l => by
    obtain ⟨h1, h2, h3, h4, h5⟩ := bools_all l
    refine ⟨?_, ?_, ?_, ?_, ?_⟩
    · simp only [List.map_cons, PyData.showableAll, PyData.showable]
      rw [h1]
      rfl
    · simp only [List.map_cons, PyData.hasDictAll, PyData.hasDict]
      rw [h2]
      rfl
    · simp only [List.map_cons, PyData.depthAll, PyData.depth]
      omega
    · simp only [List.map_cons, PyData.leavesShortAll]
      rw [h4]
      cases b <;> decide +kernel
    · simp only [List.map_cons, PyData.weightAll, PyData.weight, List.length_cons]
      omega
theorem bools_show {l : List Bool} (h : l.length ≤ 500) : (boolsPD l).showable = true ∧ (boolsPD l).hasDict = false ∧ (boolsPD l).depth ≤ 60 ∧ (boolsPD l).shown.length ≤ sizeLine := by
  obtain ⟨h1, h2, h3, h4, h5⟩ := bools_all l
  have k1 := PyData.shown_le 13 (by decide) (boolsPD l) (by simp only [boolsPD, PyData.leavesShort]; exact h4)
  simp only [boolsPD, PyData.weight] at k1
  refine ⟨?_, ?_, ?_, ?_⟩
  · simp only [boolsPD, PyData.showable]
    exact h1
  · simp only [boolsPD, PyData.hasDict]
    exact h2
  · simp only [boolsPD, PyData.depth]
    omega
  · rw [sizeLine_eq]
    simp only [boolsPD]
    omega
/-! ### len(a set of texts) -/
def rSetTx (P : Program) (w : World) : List V → Hp → VK → Prop := fun vs H Q => ∃ (l : Addr) (xs : List Str), vs = [V.ref l] ∧ H l = some (.lst (xs.map V.str)) ∧ xs.length + 1 < scanBound ∧
  ∀ p, H p = none → Q (.ref p) (upd H p (SetSO P w p (addAll [] xs)))
theorem cr_setTx {X : Cx} (hc : X.calm = true) : CallR X (.type "set") (rSetTx X.prog X.w) := by
  intro pins s σ H vs us Q I r h
  obtain ⟨l, xs, rfl, hl, room, q⟩ := h
  rw [Vals.ref1 r]
  obtain ⟨its, rv, pl, hz⟩ := I.list (SqL.of (K := X.K) hl)
  refine call_set_listTx (I.ok.hd hc) pl.isList (by simpa using strsAre_of rv) room fun h' tk got old => ?_
  have nS : H s.heap.objs.size = none := I.hok.fresh (Nat.le_refl _)
  exact ⟨.ref _, _, I.laid (a := s.heap.objs.size) (t' := tk) old (Nat.le_refl _) (setSO_new got), rfl, q _ nS⟩
def rLenTx (P : Program) (w : World) : List V → Hp → VK → Prop := fun vs H Q => ∃ (a : Addr) (l : List Str), vs = [V.ref a] ∧ H a = some (SetSO P w a l) ∧ l.length < 2 ^ 62 ∧ Q (.int (l.length : Nat)) H
theorem cr_lenTx {X : Cx} : CallR X (.builtin "len") (rLenTx X.prog X.w) := by
  intro pins s σ H vs us Q I r h
  obtain ⟨a, l, rfl, ha, room, q⟩ := h
  rw [Vals.ref1 r]
  obtain ⟨D, ho, G, _, _⟩ := setSO_get I ha
  have sz := G.sz
  exact call_len_set ho ⟨rfl, rfl, rfl⟩ rfl G.fit (by omega) ⟨.int (l.length : Nat), H, I.tok _, ⟨_, by rw [sz]⟩, q⟩
/-! ### a op b op c op d -/
def tChain3 (r1 r2 r3 : R2) (ta tb tc td : TE) : TE := fun σ H Q => ta σ H fun x H1 => tb σ H1 fun y H2 => r1 x y H2 fun z H3 => ∃ k, z = .bl k ∧
  (if k = true then tc σ H3 fun u H4 => r2 y u H4 fun z H5 => ∃ k, z = .bl k ∧ (if k = true then td σ H5 fun w H6 => r3 u w H6 Q else Q (.bl false) H5) else Q (.bl false) H3)
section
variable {X : Cx} {a b c d : Expr} {ta tb tc td : TE} {pos : Pos}
theorem pe_chain3 {o1 o2 o3 : CmpOp} {r1 r2 r3 : R2} (h1 : OpR X (compareOp o1) r1) (h2 : OpR X (compareOp o2) r2) (h3 : OpR X (compareOp o3) r3) (ha : PE X a ta) (hb : PE X b tb) (hc : PE X c tc) (hd : PE X d td)
    (hm : lastMarks [o1, o2, o3] [b, c, d] = false := by with_unfolding_all rfl) : PE X (.Compare a [o1, o2, o3] [b, c, d] pos) (tChain3 r1 r2 r3 ta tb tc td) := by
  refine ⟨fun pins s σ H Q I h => Compare_chain (thn (ha.run pins s σ H _ I h) fun v s1 ⟨x, H1, I1, rx, q1⟩ => ?_) hm⟩
  refine chain_link (thn (hb.run pins s1 σ H1 _ I1 q1) fun u s2 ⟨y, H2, I2, ry, q2⟩ => thn (h1 pins s2 σ H2 x y v u _ I2 rx ry q2) fun e s3 ⟨z, H3, I3, rz, k, ez, q3⟩ => ?_)
  subst ez
  cases rz
  refine wpAny_truthy_bool ?_
  cases k with
  | false => exact ite_ff ⟨.bl false, H3, I3, rfl, q3⟩
  | true =>
    refine ite_tt (chain_link (thn (hc.run pins s3 σ H3 _ I3 q3) fun u2 s4 ⟨y2, H4, I4, ry2, q4⟩ => thn (h2 pins s4 σ H4 y y2 u u2 _ I4 ry ry2 q4) fun e s5 ⟨z, H5, I5, rz, k, ez, q5⟩ => ?_))
    subst ez
    cases rz
    refine wpAny_truthy_bool ?_
    cases k with
    | false => exact ite_ff ⟨.bl false, H5, I5, rfl, q5⟩
    | true => exact ite_tt (chain_last (thn (hd.run pins s5 σ H5 _ I5 q5) fun u3 s6 ⟨y3, H6, I6, ry3, q6⟩ => h3 pins s6 σ H6 y2 y3 u2 u3 Q I6 ry2 ry3 q6))
end
/-! ### the law's flags -/
def flagsL (sg : List Str) (δ : Nat → Str → Nat) (found : List Nat) (k n : Nat) : List Bool := (allW sg k).map fun w => decide (run δ n w ∈ found)
def shownF (sg : List Str) (δ : Nat → Str → Nat) (found : List Nat) (k n : Nat) : Str := (boolsPD (flagsL sg δ found k n)).shown
theorem flags_apart {sg : List Str} {M k : Nat} {δ : Nat → Str → Nat} {found : List Nat} (A : Can sg M δ found) (hk : M ≤ k + 1) {a b : Nat} (ha : a < M) (hb : b < M) (e : shownF sg δ found k a = shownF sg δ found k b) : a = b := by
  have e2 := bools_inj (by unfold flagsL; rw [List.length_map, List.length_map]) e
  have ek : EqvK sg δ found k a b := fun w l hw => by
    have := List.map_inj_left.mp e2 w (allW_mem.mpr ⟨l, hw⟩)
    exact decide_eq_decide.mp this
  exact A.dist a ha b hb (moore A.pos hk A.lt ha hb ek)
theorem shown_nodup {sg : List Str} {M k : Nat} {δ : Nat → Str → Nat} {found : List Nat} (A : Can sg M δ found) (hk : M ≤ k + 1) : ((List.range M).map (shownF sg δ found k)).Nodup := by
  rw [List.nodup_iff_pairwise_ne, List.pairwise_map]
  refine (List.nodup_range (n := M)).imp_of_mem fun {a b} ha hb ne e => ne (flags_apart A hk (List.mem_range.mp ha) (List.mem_range.mp hb) e)
theorem addAll_len {l : List Str} (nd : l.Nodup) : (addAll [] l).length = l.length := (perm_nodup (addAll_nodup _ _ List.nodup_nil) nd fun c => by rw [addAll_mem]; simp).length_eq
theorem levW_len {sg : List Str} : ∀ k, (levW sg k).length = sg.length ^ k
  | 0 => rfl
  | k + 1 => by
    have h : ∀ l : List (List Str), (l.flatMap fun w => sg.map fun c => w ++ [c]).length = l.length * sg.length := fun l => by
      induction l with
      | nil => simp
      | cons a l ih => rw [List.flatMap_cons, List.length_append, ih, List.length_map, List.length_cons, Nat.add_mul, Nat.one_mul, Nat.add_comm]
    show ((levW sg k).flatMap _).length = _
    rw [h, levW_len k, Nat.pow_succ]
theorem allW_len {sg : List Str} {b : Nat} (h0 : 0 < sg.length) : ∀ k, (∀ j, j ≤ k → sg.length ^ j ≤ b) → (allW sg k).length ≤ 1 + k * b
  | 0, _ => by
    show 1 ≤ 1 + 0 * b
    omega
  | k + 1, h => by
    show (allW sg k ++ levW sg (k + 1)).length ≤ _
    rw [List.length_append, levW_len]
    have h1 := allW_len h0 k fun j hj => h j (by omega)
    have h2 := h (k + 1) (Nat.le_refl _)
    rw [Nat.add_mul, Nat.one_mul]
    omega
/-- all texts of one or two signs up to six, of three up to four: not many -/
theorem notes_few {z : Str} {k : Nat} (h0 : 1 ≤ z.length) (h3 : z.length ≤ 3) (h : z.length < 3 → k ≤ 6) (h' : z.length = 3 → k ≤ 4) : (allW (sgL z) k).length ≤ 400 := by
  have e : (sgL z).length = z.length := sgL_len z
  have p : (z.length = 1 ∨ z.length = 2) ∨ z.length = 3 := by omega
  have up : ∀ j n : Nat, j ≤ n → (sgL z).length ^ j ≤ (sgL z).length ^ n := fun j n hj => Nat.pow_le_pow_right (by omega) hj
  rcases p with (p | p) | p
  · have hk := h (by omega)
    have := allW_len (sg := sgL z) (b := 64) (by omega) k fun j hj => by rw [e, p, Nat.one_pow]; decide
    omega
  · have hk := h (by omega)
    have := allW_len (sg := sgL z) (b := 64) (by omega) k fun j hj => by
      refine Nat.le_trans (up j 6 (by omega)) ?_
      rw [e, p]
      decide
    omega
  · have hk := h' p
    have := allW_len (sg := sgL z) (b := 81) (by omega) k fun j hj => by
      refine Nat.le_trans (up j 4 (by omega)) ?_
      rw [e, p]
      decide
    omega
abbrev sApart : Stmt := top 56
abbrev nApart : List Str := ["_law_made", "_law_abc", "_law_shown", "_law_spot_here", "_law_flags", "_law_note", "_law_at", "_law_letter"]
def spApart (C : Addr) : Sp := fun vs H Q _ => ∃ (p : Addr) (z : Str) (M : Nat) (δ : Nat → Str → Nat) (found live : List Nat), vs = [.ref p, .str z] ∧ LangAt C H p z M δ found live ∧ SgOk z ∧ z.length ≤ 3 ∧ LgLt z M δ ∧ M ≤ 5 ∧ Can (sgL z) M δ found ∧ ∀ H', Ext H H' → Q (.bl true) H'
section
variable {P : Program} {w : World} {K : PySem.W.Frag} {mg : Str → Option Value} {base : Heap}
theorem scApart : FnScope nApart ["_law_made", "_law_abc"] (defScope sApart) := ⟨rfl, rfl, rfl, by decide +kernel, rfl, by decide +kernel, by decide +kernel⟩
theorem ok_apart {C f fLen fMb fMv fT : Addr} {fd fdLen fdMb fdMv fdT : FuncData} {mc u6 : Value} (F : Fun K "_law_apart" "_law_apart" sApart f fd) (Tc : LgC K C) (gC : mg "Language" = some (.ref C))
    (mLen : L2.Meth K C "__len__" fLen) (bLen : L2.Binds K fdLen ["self"] []) (gLen : FnOk P w K mg base CX0 1 fLen fdLen ["self"] (spLenL C))
    (mMb : L2.Meth K C "is_member" fMb) (bMb : L2.Binds K fdMb ["self", "state"] []) (gMb : FnOk P w K mg base CX0 4 fMb fdMb ["self", "state"] (spMember C))
    (mMv : L2.Meth K C "move" fMv) (bMv : L2.Binds K fdMv ["self", "state", "sign"] []) (gMv : FnOk P w K mg base CX0 4 fMv fdMv ["self", "state", "sign"] (spMoveL C))
    (aT : At K mg "_law_texts" fT fdT ["_law_abc", "_law_cap"] []) (gT : FnOk P w K mg base CX0 1 fT fdT ["_law_abc", "_law_cap"] spTexts)
    (cr : ClX.CRead K C mc) (c6 : ClX.CVal K C mc "MAX_STATES" (.int 6) u6)
    (zp : mg "repr" = none) (zn : mg "len" = none) (zr : mg "range" = none) (zs : mg "set" = none) :
    FnG P w K mg base CX0 5 f fd ["_law_made", "_law_abc"] (spApart C) := by
  refine Sl.Fun.okG F scApart (fun vs H Q E h => ?_) (fun cdv A0 outer s H vs Q E gd hr h => ?_)
  · obtain ⟨p, z, M, δ, found, live, rfl, _⟩ := h
    rfl
  · obtain ⟨p, z, M, δ, found, live, rfl, LA, sg, z3, lt, m5, A, kk⟩ := h
    have hu64 := hr.units
    have hr1 := hr.mono (show 1 ≤ 4 by omega)
    have hr2 := hr.mono (show 2 ≤ 4 by omega)
    refine ⟨_, pss_cons (ps_set (i := 2) scApart.nd rfl (.inl rfl) (pe_lst pa_nil))
      (pss_cons (ps_for (passes_of rfl) rfl (pi_range1 (by rfl) zr (pa_cons (pe_callB (call_lenO mLen gLen hr2 bLen) (by rfl) zn PySem.boot_len (pa_cons (pv 0) pa_nil)) pa_nil)) (pg_name (i := 3) scApart.nd rfl (.inl rfl))
        (pss_cons (ps_set (i := 4) scApart.nd rfl (.inl rfl) (pe_lst pa_nil))
        (pss_cons (ps_for (passes_of rfl) rfl (pi_list (pe_call (E := fun _ _ _ => False) gT hr1 (by rfl) aT.g aT.kp aT.b .nil pass0 (pa_cons (pv 1) (pa_cons (pe_ifExp (pt_cmpR op_lt (pe_callB call_len_str (by rfl) zn PySem.boot_len (pa_cons (pv 1) pa_nil)) pe_int (nomark _)) pe_int pe_int) pa_nil)))) (pg_name (i := 5) scApart.nd rfl (.inl rfl))
          (pss_cons (ps_set (i := 6) scApart.nd rfl (.inl rfl) (pv 3))
          (pss_cons (ps_for (passes_of rfl) rfl (pi_str (pv 5)) (pg_name (i := 7) scApart.nd rfl (.inl rfl))
            (pss_one (ps_set (i := 6) scApart.nd rfl (.inl rfl) (pe_meth (E := fun _ _ _ => False) (pv 0) Tc.cl mMv gMv hr bMv .nil pass0 (pa_cons (pv 6) (pa_cons (pv 7) pa_nil))))))
          (pss_one (ps_expr (pe_bm PySem.F.plainAttrs_list PySem.F.slot_list_append PySem.F.type_list_append mt_append (pv 4) (pa_cons (pe_meth (E := fun _ _ _ => False) (pv 0) Tc.cl mMb gMb hr bMb .nil pass0 (pa_cons (pv 6) pa_nil)) pa_nil)))))))
        (pss_one (ps_expr (pe_bm PySem.F.plainAttrs_list PySem.F.slot_list_append PySem.F.type_list_append mt_append (pv 2) (pa_cons (pe_callB (cr_shown gd hu64) (by rfl) zp (by decide +kernel) (pa_cons (pv 4) pa_nil)) pa_nil)))))))
      (pss_one (ps_ret (pe_chain3 op_eq op_le op_eq (pe_callB cr_lenTx (by rfl) zn PySem.boot_len (pa_cons (pe_callTy (cr_setTx rfl) (by rfl) zs (by decide +kernel) (pa_cons (pv 2) pa_nil)) pa_nil)) (pe_callB (call_lenO mLen gLen hr2 bLen) (by rfl) zn PySem.boot_len (pa_cons (pv 0) pa_nil))
        (ClX.pe_cval (pe_glob (v := .ref C) (by rfl) gC (show RelV (V.ref C) (Value.ref C) from rfl))) pe_int)))), ?_⟩
    have LAx : ∀ {H' : Hp}, Ext H H' → LangAt C H' p z M δ found live := fun x => LA.extN (ExtN.of x)
    obtain ⟨dx, fs, i1, no1⟩ := LA.no "is_member" (by decide)
    obtain ⟨dx2, fs2, i2, no2⟩ := LA.no "move" (by decide)
    have z1 := sg.pos
    obtain ⟨k, hk, hkM, hkl⟩ : ∃ k : Nat, (if (z.length : Int) < 3 then (5 : Int) else 4) = (k : Int) ∧ M ≤ k + 1 ∧ (z.length < 3 → k = 5) ∧ (z.length = 3 → k = 4) := by
      by_cases c : z.length < 3
      · exact ⟨5, by rw [if_pos (by omega)]; rfl, by omega, fun _ => rfl, fun h => by omega⟩
      · exact ⟨4, by rw [if_neg (by omega)]; rfl, by omega, fun h => by omega, fun _ => rfl⟩
    have few := notes_few (k := k) z1 z3 (fun h => by have := hkl.1 h; omega) fun h => by have := hkl.2 h; omega
    have k5 : k ≤ 5 := by
      by_cases c : z.length < 3
      · have := hkl.1 c
        omega
      · have := hkl.2 (by omega)
        omega
    refine ⟨by show 0 ≤ sizeLine; decide, fun S nS => ?_⟩
    have xS := Ext.new nS (o := .lst [])
    have hS : (upd H S (.lst [])) S = some (.lst ((((List.range M).take 0).map (shownF (sgL z) δ found k)).map V.str)) := upd_same
    generalize upd H S (.lst []) = H1 at xS hS ⊢
    refine ⟨_, rfl, p, dx, fs, rfl, xS _ _ i1, p, z, M, δ, found, live, rfl, LAx xS, M, rfl, by omega, (M : Int), rfl, by omega, by omega, ?_⟩
    rw [show ((M : Int)).toNat = M by omega]
    refine for_it (walk_range (lo := 0) (n := M)) (fun i σ H' => ∃ v3 v4 v5 v6 v7, σ = [some (.ref p), some (.str z), some (.ref S), v3, v4, v5, v6, v7] ∧ Ext H H' ∧ H' S = some (.lst ((((List.range M).take i).map (shownF (sgL z) δ found k)).map V.str)))
      ⟨none, none, none, none, none, rfl, xS, hS⟩ (fun _ _ _ _ _ => trivial) ?_ ?_
    · rintro i v σ H2 H3 hi ⟨v3, v4, v5, v6, v7, rfl, x3, hS3⟩ ⟨rfl, ev⟩
      obtain rfl : v = V.int (i : Nat) := ev.trans (by show V.int (0 + (i : Nat)) = _; rw [Int.zero_add])
      refine ⟨by show 0 ≤ sizeLine; decide, fun Fl nFl => ?_⟩
      have xF := Ext.new nFl (o := .lst [])
      have hF : (upd H3 Fl (.lst [])) Fl = some (.lst (((flagsL (sgL z) δ found k i).take 0).map V.bl)) := upd_same
      have hS4 := xF _ _ hS3
      have nFS : S ≠ Fl := fun e => by
        rw [← e, hS3] at nFl
        cases nFl
      generalize upd H3 Fl (.lst []) = H4 at xF hF hS4 ⊢
      refine ⟨_, rfl, _, rfl, z, rfl, small_size (by omega), _, _, rfl, rfl, _, rfl, ?_⟩
      by_cases c : z.length < 3
      case' pos =>
        have ek : V.int 5 = V.int (k : Nat) := by rw [hkl.1 c]; rfl
        rw [decide_eq_true (show ((z.length : Nat) : Int) < 3 by omega)]
        refine iteT ?_
        rw [ek]
      case' neg =>
        have ek : V.int 4 = V.int (k : Nat) := by rw [hkl.2 (by omega)]; rfl
        rw [decide_eq_false (show ¬ ((z.length : Nat) : Int) < 3 by omega)]
        refine iteF ?_
        rw [ek]
      all_goals
        refine ⟨z, k, rfl, z1, by omega, by omega, fun H5 Ln zs x5 nLn hLn hall _ => ⟨Ln, rfl, ⟨_, SqL.of hLn⟩, ?_⟩⟩
        have nLF : Ln ≠ Fl := fun e => by
          rw [e, hF] at nLn
          cases nLn
        have lz : zs.length = (allW (sgL z) k).length := by rw [← hall, List.length_map]
        have low : ∀ {H' : Hp}, (∀ a o, H5 a = some o → a ≠ Fl → H' a = some o) → Ext H H' := fun st a o e => st a o (x5 _ _ (xF _ _ (x3 _ _ e))) (ne_of_none (x3 _ _ e) nFl)
        refine for_it (walk_list (xs := zs.map V.str)) (fun j σ H' => ∃ v5 v6 v7, σ = [some (.ref p), some (.str z), some (.ref S), some (.int (i : Nat)), some (.ref Fl), v5, v6, v7] ∧ (∀ a o, H5 a = some o → a ≠ Fl → H' a = some o) ∧ H' Fl = some (.lst (((flagsL (sgL z) δ found k i).take j).map V.bl)))
          ⟨v5, v6, v7, rfl, fun _ _ e _ => e, x5 _ _ hF⟩ (fun j σ H' _ ⟨_, _, _, _, st, _⟩ => SqL.of (st _ _ hLn nLF)) ?_ ?_
        · rintro j x σ H6 H7 hj ⟨v5, v6, v7, rfl, st, hF7⟩ ⟨rfl, hx⟩
          obtain ⟨y, hy, rfl⟩ := at_map hx
          have hw : (allW (sgL z) k)[j]? = some (sgL y) := by
            rw [← hall, List.getElem?_map, hy]
            rfl
          have yz := (allW_mem.mp (List.mem_of_getElem? hw)).2
          have x7 := low st
          refine ⟨_, rfl, _, rfl, y, rfl, ?_⟩
          refine for_it (walk_str (z := y)) (fun m σ H' => ∃ v7, σ = [some (.ref p), some (.str z), some (.ref S), some (.int (i : Nat)), some (.ref Fl), some (.str y), some (.int (run δ i ((sgL y).take m) : Nat)), v7] ∧ H' = H7 ∧ run δ i ((sgL y).take m) < M) ⟨v7, rfl, rfl, hi⟩ (fun _ _ _ _ _ => trivial) ?_ ?_
          · rintro m v σ H8 H9 hm ⟨v7, rfl, rfl, lM⟩ ⟨rfl, c, hc, rfl⟩
            have cm := yz _ (List.mem_of_getElem? (sgL_at hc))
            have er : run δ i ((sgL y).take (m + 1)) = δ (run δ i ((sgL y).take m)) ⟨#[c]⟩ := by
              rw [take_more (sgL_at hc), run_app]
              rfl
            refine ⟨_, rfl, p, dx2, fs2, rfl, x7 _ _ i2, no2, _, rfl, _, rfl, p, _, _, z, M, δ, found, live, rfl, LAx x7, lM, ?_⟩
            rw [if_pos cm, ← er]
            refine ⟨_, rfl, rfl, ?_⟩
            rw [er]
            exact lt.lt _ lM _ cm
          · rintro σ H8 ⟨v7, rfl, rfl, lM⟩
            rw [← sgL_len, List.take_length] at lM ⊢
            have lfl : ((flagsL (sgL z) δ found k i).take j).length ≤ 400 := by
              refine Nat.le_trans (List.length_take_le' _ _) ?_
              unfold flagsL
              rw [List.length_map]
              exact few
            refine ⟨_, rfl, .inl ⟨rfl, _, SqL.of hF7⟩, _, rfl, p, dx, fs, rfl, x7 _ _ i1, no1, _, rfl, p, _, z, M, δ, found, live, rfl, LAx x7, lM, Fl, _, _, rfl, rfl, hF7, by rw [List.length_map]; exact small1000 (by omega), ?_⟩
            refine ⟨_, _, _, rfl, fun a o e n => ?_, ?_⟩
            · rw [upd_ne n]
              exact st a o e n
            · have hfl : (flagsL (sgL z) δ found k i)[j]? = some (decide (run δ i (sgL y) ∈ found)) := by
                unfold flagsL
                rw [List.getElem?_map, hw]
                rfl
              rw [upd_same, take_more hfl, List.map_append]
              rfl
        · rintro σ H6 ⟨v5, v6, v7, rfl, st, hF6⟩
          have lfl : (flagsL (sgL z) δ found k i).length = zs.length := by
            unfold flagsL
            rw [List.length_map, lz]
          rw [List.length_map, ← lfl, List.take_length] at hF6
          obtain ⟨b1, b2, b3, b4⟩ := bools_show (l := flagsL (sgL z) δ found k i) (by omega)
          have hS6 := st _ _ (x5 _ _ hS4) nFS
          refine ⟨_, rfl, .inl ⟨rfl, _, SqL.of hS6⟩, _, rfl, Fl, boolsPD (flagsL (sgL z) δ found k i), rfl, .lst (SqL.of hF6) (bools_dp _), b1, b2, b3, b4, S, _, _, rfl, rfl, hS6, ?_, ?_⟩
          · rw [List.length_map, List.length_map]
            exact small1000 (Nat.le_trans (List.length_take_le' _ _) (by rw [List.length_range]; omega))
          · have x6 := low st
            refine ⟨_, _, _, _, _, rfl, fun a o e => ?_, ?_⟩
            · rw [upd_ne (ne_of_none e nS)]
              exact x6 _ _ e
            · rw [upd_same, take_more (List.getElem?_range hi), List.map_append, List.map_append]
              rfl
    · rintro σ H2 ⟨v3, v4, v5, v6, v7, rfl, x2, hS2⟩
      have er : (List.range M).take M = List.range M := by
        have h : (List.range M).length = M := List.length_range
        rw [← h, h, List.take_of_length_le (by rw [h]; exact Nat.le_refl _)]
      rw [er] at hS2
      have nd := shown_nodup (k := k) A hkM
      have ll : ((List.range M).map (shownF (sgL z) δ found k)).length = M := by rw [List.length_map, List.length_range]
      refine ⟨_, rfl, S, _, rfl, hS2, by rw [ll]; exact Nat.lt_of_le_of_lt (Nat.succ_le_succ m5) (by decide), fun q nq => ?_⟩
      have xq := Ext.new nq (o := SetSO P w q (addAll [] ((List.range M).map (shownF (sgL z) δ found k))))
      have x3 := x2.trans xq
      refine ⟨q, _, rfl, upd_same, ?_, ?_⟩
      · rw [addAll_len nd, ll]
        omega
      rw [addAll_len nd, ll]
      refine ⟨_, rfl, p, dx, fs, rfl, x3 _ _ i1, p, z, M, δ, found, live, rfl, LAx x3, M, rfl, by omega, ?_⟩
      refine ⟨rfl, _, rfl, ?_⟩
      rw [decide_eq_true rfl]
      refine iteT ⟨C, mc, .int 6, u6, rfl, cr, c6, _, _, rfl, rfl, _, rfl, ?_⟩
      rw [decide_eq_true (show ((M : Nat) : Int) ≤ 6 by omega)]
      refine iteT ⟨rfl, ?_⟩
      rw [decide_eq_true rfl]
      exact kk _ x3
end
end Sl
/-! ## A6 -/
set_option Elab.async false
set_option linter.all false
set_option maxRecDepth 100000
set_option maxHeartbeats 4000000
set_option pp.maxSteps 900
set_option pp.deepTerms false
/-! what follows a state and is live; the next level -/
namespace Sl
open PySem PySem.Spec PyProof.Rows L2 LamX NdefX
abbrev sLiveLd : Stmt := top 42
abbrev sLonger : Stmt := top 41
def gLive (sg : List Str) (δ : Nat → Str → Nat) (live : List Nat) : Gr := fun n => (gOf sg δ n).filter fun e => decide (e.2 ∈ live)
def spLiveLd (C : Addr) : Sp := fun vs H Q _ => ∃ (p : Addr) (n : Nat) (z : Str) (M : Nat) (δ : Nat → Str → Nat) (found live : List Nat), vs = [.ref p, .int n] ∧ LangAt C H p z M δ found live ∧ n < M ∧ LgLt z M δ ∧
  ∀ (H' : Hp) (b : Addr) (ts : List Addr), Ext H H' → H b = none → H' b = some (.lst (ts.map V.ref)) → LeadsAt H' ts (gLive (sgL z) δ live n) → Q (.ref b) H'
/-- the texts of the next level -/
def nextL (sg : List Str) (δ : Nat → Str → Nat) (live : List Nat) (l : List (Str × Nat)) : List (Str × Nat) := l.flatMap fun e => (gLive sg δ live e.2).map fun f => (e.1 ++ f.1, f.2)
def spLonger (C : Addr) : Sp := fun vs H Q _ => ∃ (p a : Addr) (ts : List Addr) (l : List (Str × Nat)) (z : Str) (M : Nat) (δ : Nat → Str → Nat) (found live : List Nat), vs = [.ref p, .ref a] ∧ H a = some (.lst (ts.map V.ref)) ∧ LeadsAt H ts l ∧ (∀ e ∈ l, e.2 < M ∧ e.1.length ≤ 100) ∧ l.length * z.cps.size ≤ 10000 ∧ LangAt C H p z M δ found live ∧ LgLt z M δ ∧
  ∀ (H' : Hp) (b : Addr) (ts' : List Addr), Ext H H' → H b = none → H' b = some (.lst (ts'.map V.ref)) → LeadsAt H' ts' (nextL (sgL z) δ live l) → Q (.ref b) H'
/-- a walk over the first clause of two -/
theorem lc2_it {J : It} {n : Nat} {G : Hp → Prop} {Y : Nat → Hp → V → Hp → Prop} (w : Walk J n G Y) {g : TG} {tt : TT} {wi1 : TI} {g1 : TG} {tt1 : TT} {te : TE} {vs vs1 : List Nat} {σ : L2.St} {H1 : Hp} {D : Addr} {Qd : Hp → Prop} (Pv : Nat → Hp → Prop) (h0 : Pv 0 (upd H1 D (.lst []))) (hG : ∀ i H, i ≤ n → Pv i H → G H)
    (hs : ∀ i x H H', i < n → Pv i H → Y i H x H' → g x (wipe σ vs) H' fun σ2 H2 => wipe σ2 vs = wipe σ vs ∧ tt σ2 H2 fun b H3 =>
      if b = true then wi1 σ2 H3 fun J1 H4 => ∃ W1 : Nat → Nat → Hp → Prop, (∃ m, W1 0 m H4) ∧ ∀ j k H, W1 j k H →
        (J1.stop j H ∧ Pv (i + 1) H) ∨ (J1.go j H ∧ ∃ Nx1 : Hp → Prop, (∀ H', Nx1 H' → ∃ k', k' < k ∧ W1 (j + 1) k' H') ∧ ∀ x H', J1.yld j H x H' → g1 x (wipe σ2 vs1) H' fun σ3 H5 => wipe σ3 vs1 = wipe σ2 vs1 ∧ tt1 σ3 H5 fun b H6 =>
          if b = true then te σ3 H6 fun y H7 => ∃ acc, H7 D = some (.lst acc) ∧ acc.length < sizeLine ∧ Nx1 (upd H7 D (.lst (acc ++ [y]))) else Nx1 H6)
      else Pv (i + 1) H3) (hd : ∀ H, Pv n H → Qd H) :
    ∃ W : Nat → Nat → Hp → Prop, (∃ m, W 0 m (upd H1 D (.lst []))) ∧ ∀ i m H, W i m H →
  (J.stop i H ∧ Qd H) ∨ (J.go i H ∧ ∃ Nx : Hp → Prop, (∀ H', Nx H' → ∃ m', m' < m ∧ W (i + 1) m' H') ∧ ∀ x H', J.yld i H x H' → g x (wipe σ vs) H' fun σ2 H2 => wipe σ2 vs = wipe σ vs ∧ tt σ2 H2 fun b H3 =>
    if b = true then wi1 σ2 H3 fun J1 H4 => ∃ W1 : Nat → Nat → Hp → Prop, (∃ m, W1 0 m H4) ∧ ∀ j k H, W1 j k H →
      (J1.stop j H ∧ Nx H) ∨ (J1.go j H ∧ ∃ Nx1 : Hp → Prop, (∀ H', Nx1 H' → ∃ k', k' < k ∧ W1 (j + 1) k' H') ∧ ∀ x H', J1.yld j H x H' → g1 x (wipe σ2 vs1) H' fun σ3 H5 => wipe σ3 vs1 = wipe σ2 vs1 ∧ tt1 σ3 H5 fun b H6 =>
        if b = true then te σ3 H6 fun y H7 => ∃ acc, H7 D = some (.lst acc) ∧ acc.length < sizeLine ∧ Nx1 (upd H7 D (.lst (acc ++ [y]))) else Nx1 H6)
    else Nx H3) := by
  refine ⟨fun i m H => m = n - i ∧ i ≤ n ∧ Pv i H, ⟨n, by simp, Nat.zero_le _, h0⟩, ?_⟩
  rintro i m H ⟨rfl, hi, p⟩
  rcases Nat.lt_or_eq_of_le hi with hlt | rfl
  · exact .inr ⟨w.goes i H hlt (hG i H hi p), Pv (i + 1), fun H' p' => ⟨n - (i + 1), by omega, rfl, hlt, p'⟩, fun x H' y => hs i x H H' hlt p (w.yields i H x H' hlt (hG i H hi p) y)⟩
  · exact .inl ⟨w.stops H (hG i H hi p), hd H p⟩
/-- .. and over the second -/
theorem lc2_in {J : It} {n : Nat} {G : Hp → Prop} {Y : Nat → Hp → V → Hp → Prop} (w : Walk J n G Y) {g : TG} {tt : TT} {te : TE} {vs : List Nat} {σ : L2.St} {H1 : Hp} {D : Addr} {Nx : Hp → Prop} (Pv : Nat → Hp → Prop) (h0 : Pv 0 H1) (hG : ∀ i H, i ≤ n → Pv i H → G H)
    (hs : ∀ i x H H', i < n → Pv i H → Y i H x H' → g x (wipe σ vs) H' fun σ2 H2 => wipe σ2 vs = wipe σ vs ∧ tt σ2 H2 fun b H3 => if b = true then te σ2 H3 fun y H7 => ∃ acc, H7 D = some (.lst acc) ∧ acc.length < sizeLine ∧ Pv (i + 1) (upd H7 D (.lst (acc ++ [y]))) else Pv (i + 1) H3) (hd : ∀ H, Pv n H → Nx H) :
    ∃ W1 : Nat → Nat → Hp → Prop, (∃ m, W1 0 m H1) ∧ ∀ j k H, W1 j k H →
      (J.stop j H ∧ Nx H) ∨ (J.go j H ∧ ∃ Nx1 : Hp → Prop, (∀ H', Nx1 H' → ∃ k', k' < k ∧ W1 (j + 1) k' H') ∧ ∀ x H', J.yld j H x H' → g x (wipe σ vs) H' fun σ3 H5 => wipe σ3 vs = wipe σ vs ∧ tt σ3 H5 fun b H6 =>
        if b = true then te σ3 H6 fun y H7 => ∃ acc, H7 D = some (.lst acc) ∧ acc.length < sizeLine ∧ Nx1 (upd H7 D (.lst (acc ++ [y]))) else Nx1 H6) := by
  refine ⟨fun i m H => m = n - i ∧ i ≤ n ∧ Pv i H, ⟨n, by simp, Nat.zero_le _, h0⟩, ?_⟩
  rintro i m H ⟨rfl, hi, p⟩
  rcases Nat.lt_or_eq_of_le hi with hlt | rfl
  · exact .inr ⟨w.goes i H hlt (hG i H hi p), Pv (i + 1), fun H' p' => ⟨n - (i + 1), by omega, rfl, hlt, p'⟩, fun x H' y => hs i x H H' hlt p (w.yields i H x H' hlt (hG i H hi p) y)⟩
  · exact .inl ⟨w.stops H (hG i H hi p), hd H p⟩
theorem gLive_len {sg : List Str} {δ : Nat → Str → Nat} {live : List Nat} {n : Nat} : (gLive sg δ live n).length ≤ sg.length := by
  unfold gLive gOf
  refine Nat.le_trans (List.length_filter_le _ _) ?_
  rw [List.length_map]
  exact Nat.le_refl _
theorem gLive_lt {z : Str} {M : Nat} {δ : Nat → Str → Nat} {live : List Nat} {n : Nat} (t : LgLt z M δ) (hn : n < M) : ∀ e ∈ gLive (sgL z) δ live n, e.2 < M ∧ e.1.length = 1 := fun e he => by
  obtain ⟨c, hc, rfl⟩ := List.mem_map.mp (List.mem_filter.mp he).1
  refine ⟨t.lt n hn c hc, ?_⟩
  unfold sgL at hc
  obtain ⟨x, _, rfl⟩ := List.mem_map.mp hc
  rfl
theorem nextL_len {sg : List Str} {δ : Nat → Str → Nat} {live : List Nat} : ∀ {l : List (Str × Nat)}, (nextL sg δ live l).length ≤ l.length * sg.length
  | [] => Nat.zero_le _
  | e :: l => by
    have h1 : nextL sg δ live (e :: l) = ((gLive sg δ live e.2).map fun f => (e.1 ++ f.1, f.2)) ++ nextL sg δ live l := List.flatMap_cons
    rw [h1, List.length_append, List.length_map, List.length_cons, Nat.add_mul, Nat.one_mul]
    have h2 := nextL_len (sg := sg) (δ := δ) (live := live) (l := l)
    have h3 := gLive_len (sg := sg) (δ := δ) (live := live) (n := e.2)
    omega
def tYes2 : TT := tYes
abbrev rAddSt : R2 := fun x y H Q => ∃ i j, x = .str i ∧ y = .str j ∧ i.length + j.length ≤ sizeLine ∧ Q (.str (i ++ j)) H
abbrev nLonger : List Str := ["language", "level", "text", "state", "sign", "after"]
section
variable {P : Program} {w : World} {K : PySem.W.Frag} {mg : Str → Option Value} {base : Heap}
theorem scLiveLd : FnScope ["language", "state", "sign", "after"] ["language", "state"] (defScope sLiveLd) := ⟨rfl, rfl, rfl, by decide +kernel, rfl, by decide +kernel, by decide +kernel⟩
theorem ok_liveld {f C fN fLv : Addr} {fd fdN fdLv : FuncData} (Fn : Fun K "live_leads" "live_leads" sLiveLd f fd) (Tc : LgC K C)
    (aN : At K mg "_language_leads" fN fdN ["language", "state"] []) (gN : FnOk P w K mg base CX0 5 fN fdN ["language", "state"] (spLLeads C))
    (mLv : L2.Meth K C "is_live" fLv) (bLv : L2.Binds K fdLv ["self", "state"] []) (gLv : FnOk P w K mg base CX0 4 fLv fdLv ["self", "state"] (spIsLive C)) : FnOk P w K mg base CX0 6 f fd ["language", "state"] (spLiveLd C) := by
  refine Fn.ok scLiveLd (fun vs H Q E h => ?_) (fun cdv A0 outer s H vs Q E hr h => ?_)
  · obtain ⟨p, n, z, M, δ, found, live, rfl, _⟩ := h
    rfl
  · obtain ⟨p, n, z, M, δ, found, live, rfl, LA, nM, lt, kk⟩ := h
    have hr1 := hr.mono (show 4 ≤ 5 by omega)
    refine ⟨_, pss_one (ps_ret (pe_lc (own := [("sign", 2), ("after", 3)]) (g := gTup K 2 (gCons (gName 2) (gCons (gName 3) gNil))) (tt := tTest (tMeth C "is_live" (spIsLive C) [] (fun _ _ _ => False) (tVar 0) (tCons (tVar 3) tNil))) (te := tTup (tCons (tVar 2) (tCons (tVar 3) tNil))) rfl scLiveLd.nd
          (pi_list (pe_call (E := fun _ _ _ => False) gN hr (by rfl) aN.g aN.kp aN.b .nil pass0 (pa_cons (pe_var (i := 0) rfl (.inr (.inl rfl))) (pa_cons (pe_var (i := 1) rfl (.inl rfl)) pa_nil)))) (blkOk_by (N := ["language", "state", "sign", "after"]) (sc := defScope sLiveLd) (by decide +kernel))
          (fun _ _ _ _ _ => pg_tup (by rfl) (pgs_cons (pg_name (i := 2) scLiveLd.nd rfl (Or.inl rfl)) (pgs_cons (pg_name (i := 3) scLiveLd.nd rfl (Or.inl rfl)) pgs_nil))) (fun _ _ _ _ _ => pts_one (pt_val (pe_meth (E := fun _ _ _ => False) (pe_var (i := 0) rfl (.inr (.inl rfl))) Tc.cl mLv gLv hr1 bLv .nil pass0 (pa_cons (pv 3) pa_nil))))
          (fun _ _ _ _ _ => pe_tup (pa_cons (pv 2) (pa_cons (pv 3) pa_nil))))), ?_⟩
    obtain ⟨dx1, fs1, i1, no1⟩ := LA.no "is_live" (by decide)
    refine ⟨_, rfl, _, rfl, p, n, z, M, δ, found, live, rfl, LA, nM, lt.z, fun H1 q ts0 x1 nq hq hts0 => ?_⟩
    have ll : (gOf (sgL z) δ n).length = z.cps.size := by
      unfold gOf
      rw [List.length_map, sgL_len]
    have z100 := lt.z
    refine ⟨q, rfl, ⟨_, SqL.of hq⟩, fun D nD => ?_⟩
    refine lc_it (walk_list (xs := ts0.map V.ref)) (fun j H' => Ext H1 H' ∧ ∃ ts : List Addr, H' D = some (.lst (ts.map V.ref)) ∧ LeadsAt H' ts (((gOf (sgL z) δ n).take j).filter fun e => decide (e.2 ∈ live))) ⟨Ext.new nD, [], upd_same, .nil⟩ (fun j H' _ h => SqL.of (h.1 _ _ hq)) ?_ ?_
    · rintro j y H6 H7 hj ⟨x6, ts, hD6, hts⟩ ⟨rfl, hy⟩
      obtain ⟨t, htj, rfl⟩ := at_map hy
      obtain ⟨e, he, hte⟩ := (hts0.ext fun t xs h => x6 _ _ h).at_ htj
      have em := List.mem_of_getElem? he
      have eM : e.2 < M := by
        obtain ⟨c, hc, rfl⟩ := List.mem_map.mp em
        exact lt.lt n nM c hc
      have T7 := LA.extN (ExtN.of (x1.trans x6))
      have lts : ts.length ≤ 100 := by
        rw [hts.len]
        refine Nat.le_trans (List.length_filter_le _ _) ?_
        rw [List.length_take]
        omega
      have en : ((gOf (sgL z) δ n).take (j + 1)).filter (fun e => decide (e.2 ∈ live)) = ((gOf (sgL z) δ n).take j).filter (fun e => decide (e.2 ∈ live)) ++ if decide (e.2 ∈ live) = true then [e] else [] := by
        rw [take_more he, List.filter_append, List.filter_cons, List.filter_nil]
      refine ⟨t, _, rfl, SqT.of hte, rfl, _, _, rfl, _, _, rfl, rfl, rfl, ?_⟩
      refine ⟨_, rfl, p, dx1, fs1, rfl, (x1.trans x6) _ _ i1, no1, _, rfl, p, e.2, z, M, δ, found, live, rfl, T7, eM, _, rfl, ?_⟩
      cases c : decide (e.2 ∈ live) with
      | false =>
        refine iteF ⟨x6, ts, hD6, ?_⟩
        rw [en, c, if_neg Bool.false_ne_true, List.append_nil]
        exact hts
      | true =>
        refine iteT ⟨_, rfl, _, rfl, by show 2 ≤ sizeLine; decide, fun t nt => ?_⟩
        have xt := Ext.new nt (o := .tup [V.str e.1, V.int e.2])
        have ht : (upd H7 t (.tup [V.str e.1, V.int e.2])) t = some (.tup [V.str e.1, V.int e.2]) := upd_same
        generalize upd H7 t (.tup [V.str e.1, V.int e.2]) = H9 at xt ht ⊢
        have hD9 := xt _ _ hD6
        have k9 : ∀ a xs, H9 a = some (.tup xs) → (upd H9 D (.lst (ts.map V.ref ++ [.ref t]))) a = some (.tup xs) := fun a xs h => by
          rw [upd_ne (ne_of h hD9 (by intro z; cases z))]
          exact h
        refine ⟨_, hD9, by rw [List.length_map]; exact small1000 (by omega), fun a o q => ?_, ts ++ [t], ?_, ?_⟩
        · rw [upd_ne (ne_of_none q nD)]
          exact xt _ _ (x6 _ _ q)
        · rw [upd_same, List.map_append]
          rfl
        · rw [en, c, if_pos rfl]
          exact (hts.ext fun a xs h => k9 _ _ (xt _ _ h)).snoc (k9 _ _ ht)
    · rintro H6 ⟨x6, ts, hD6, hts⟩
      refine kk _ D ts (x1.trans x6) (x1.free nD) hD6 ?_
      rw [List.length_map, hts0.len, List.take_length] at hts
      exact hts
theorem scLonger : FnScope nLonger ["language", "level"] (defScope sLonger) := ⟨rfl, rfl, rfl, by decide +kernel, rfl, by decide +kernel, by decide +kernel⟩
theorem ok_longer {f C fN : Addr} {fd fdN : FuncData} (Fn : Fun K "_longer" "_longer" sLonger f fd)
    (aN : At K mg "live_leads" fN fdN ["language", "state"] []) (gN : FnOk P w K mg base CX0 6 fN fdN ["language", "state"] (spLiveLd C)) : FnOk P w K mg base CX0 7 f fd ["language", "level"] (spLonger C) := by
  refine Fn.ok scLonger (fun vs H Q E h => ?_) (fun cdv A0 outer s H vs Q E hr h => ?_)
  · obtain ⟨p, a, ts, l, z, M, δ, found, live, rfl, _⟩ := h
    rfl
  · obtain ⟨p, a, ts0, l, z, M, δ, found, live, rfl, ha, hts0, hl, lz, LA, lt, kk⟩ := h
    have z100 := lt.z
    refine ⟨_, pss_one (ps_ret (pe_lc2 (own := [("text", 2), ("state", 3), ("sign", 4), ("after", 5)]) (vs1 := [4, 5]) (g := gTup K 2 (gCons (gName 2) (gCons (gName 3) gNil))) (tt := tYes) (wi1 := iList K (tCall (spLiveLd C) [] (fun _ _ _ => False) (tCons (tVar 0) (tCons (tVar 3) tNil)))) (g1 := gTup K 2 (gCons (gName 4) (gCons (gName 5) gNil))) (tt1 := tYes2)
          (te := tTup (tCons (tOp rAddSt (tVar 2) (tVar 4)) (tCons (tVar 5) tNil))) rfl scLonger.nd
          (pi_list (pv 1)) (blkOk_by (N := nLonger) (sc := defScope sLonger) (by decide +kernel)) (by decide)
          (fun _ _ _ _ _ => pg_tup (by rfl) (pgs_cons (pg_name (i := 2) scLonger.nd rfl (Or.inl rfl)) (pgs_cons (pg_name (i := 3) scLonger.nd rfl (Or.inl rfl)) pgs_nil))) (fun _ _ _ _ _ => pts_nil)
          (fun _ _ _ _ _ => pi_list (pe_call (E := fun _ _ _ => False) gN hr (by rfl) aN.g aN.kp aN.b .nil pass0 (pa_cons (pe_var (i := 0) rfl (.inr (.inl rfl))) (pa_cons (pv 3) pa_nil))))
          (fun _ _ _ _ _ => pg_tup (by rfl) (pgs_cons (pg_name (i := 4) scLonger.nd rfl (Or.inl rfl)) (pgs_cons (pg_name (i := 5) scLonger.nd rfl (Or.inl rfl)) pgs_nil))) (fun _ _ _ _ _ => pts_nil)
          (fun _ _ _ _ _ => pe_tup (pa_cons (pe_op op_add_str (pv 2) (pv 4)) (pa_cons (pv 5) pa_nil))))), ?_⟩
    refine ⟨_, rfl, a, rfl, ⟨_, SqL.of ha⟩, fun D nD => ?_⟩
    refine lc2_it (walk_list (xs := ts0.map V.ref)) (fun i H' => Ext H H' ∧ ∃ ts : List Addr, H' D = some (.lst (ts.map V.ref)) ∧ LeadsAt H' ts (nextL (sgL z) δ live (l.take i))) ⟨Ext.new nD, [], upd_same, .nil⟩ (fun i H' _ h => SqL.of (h.1 _ _ ha)) ?_ ?_
    · rintro i y H3 H4 hi ⟨x3, ts, hD3, hts⟩ ⟨rfl, hy⟩
      obtain ⟨t, hti, rfl⟩ := at_map hy
      obtain ⟨e, he, hte⟩ := (hts0.ext fun t xs h => x3 _ _ h).at_ hti
      have em := List.mem_of_getElem? he
      obtain ⟨eM, e100⟩ := hl e em
      have en : nextL (sgL z) δ live (l.take (i + 1)) = nextL (sgL z) δ live (l.take i) ++ (gLive (sgL z) δ live e.2).map fun f => (e.1 ++ f.1, f.2) := by
        unfold nextL
        rw [take_more he, List.flatMap_append, List.flatMap_singleton]
      have len : (nextL (sgL z) δ live (l.take (i + 1))).length ≤ 10000 := by
        refine Nat.le_trans nextL_len (Nat.le_trans (Nat.mul_le_mul_right _ (List.length_take_le' _ _)) ?_)
        rw [sgL_len]
        exact lz
      rw [en, List.length_append, List.length_map] at len
      refine ⟨t, _, rfl, SqT.of hte, rfl, _, _, rfl, _, _, rfl, rfl, rfl, ?_⟩
      dsimp only [tYes]
      rw [if_pos rfl]
      refine ⟨_, rfl, _, rfl, p, e.2, z, M, δ, found, live, rfl, LA.extN (ExtN.of x3), eM, lt, fun H5 q ts5 x5 nq hq hts5 => ⟨q, rfl, ⟨_, SqL.of hq⟩, ?_⟩⟩
      have nqD : q ≠ D := fun z => by
        rw [z, hD3] at nq
        cases nq
      have gl := gLive_lt (live := live) lt eM
      refine lc2_in (walk_list (xs := ts5.map V.ref)) (fun j H' => Ext H H' ∧ H' q = some (.lst (ts5.map V.ref)) ∧ LeadsAt H' ts5 (gLive (sgL z) δ live e.2) ∧ ∃ ts : List Addr, H' D = some (.lst (ts.map V.ref)) ∧ LeadsAt H' ts (nextL (sgL z) δ live (l.take i) ++ ((gLive (sgL z) δ live e.2).take j).map fun f => (e.1 ++ f.1, f.2)))
        ⟨x3.trans x5, hq, hts5, ts, x5 _ _ hD3, by rw [List.take_zero, List.map_nil, List.append_nil]; exact hts.ext fun t xs h => x5 _ _ h⟩ (fun j H' _ h => SqL.of h.2.1) ?_ ?_
      · rintro j y H6 H7 hj ⟨x6, hq6, hts6, ts, hD6, hts⟩ ⟨rfl, hy⟩
        obtain ⟨t2, htj, rfl⟩ := at_map hy
        obtain ⟨f, hf, htf⟩ := hts6.at_ htj
        obtain ⟨fM, f1⟩ := gl f (List.mem_of_getElem? hf)
        have lj := (List.getElem?_eq_some_iff.mp hf).1
        have lts : ts.length ≤ 10000 := by
          rw [hts.len, List.length_append, List.length_map, List.length_take]
          omega
        refine ⟨t2, _, rfl, SqT.of htf, rfl, _, _, rfl, _, _, rfl, rfl, rfl, ?_⟩
        dsimp only [tYes2, tYes]
        rw [if_pos rfl]
        refine ⟨_, rfl, _, rfl, _, _, rfl, rfl, by rw [sizeLine_eq]; omega, _, rfl, by show 2 ≤ sizeLine; decide, fun u nu => ?_⟩
        have xt := Ext.new nu (o := .tup [V.str (e.1 ++ f.1), V.int f.2])
        have ht : (upd H7 u (.tup [V.str (e.1 ++ f.1), V.int f.2])) u = some (.tup [V.str (e.1 ++ f.1), V.int f.2]) := upd_same
        generalize upd H7 u (.tup [V.str (e.1 ++ f.1), V.int f.2]) = H9 at xt ht ⊢
        have hD9 := xt _ _ hD6
        have k9 : ∀ a xs, H9 a = some (.tup xs) → (upd H9 D (.lst (ts.map V.ref ++ [.ref u]))) a = some (.tup xs) := fun a xs h => by
          rw [upd_ne (ne_of h hD9 (by intro z; cases z))]
          exact h
        refine ⟨_, hD9, by rw [List.length_map]; exact small_l lts, fun a o q => ?_, ?_, hts6.ext fun a xs h => k9 _ _ (xt _ _ h), ts ++ [u], ?_, ?_⟩
        · rw [upd_ne (ne_of_none q nD)]
          exact xt _ _ (x6 _ _ q)
        · rw [upd_ne nqD]
          exact xt _ _ hq6
        · rw [upd_same, List.map_append]
          rfl
        · rw [take_more hf, List.map_append, ← List.append_assoc]
          exact (hts.ext fun a xs h => k9 _ _ (xt _ _ h)).snoc (k9 _ _ ht)
      · rintro H6 ⟨x6, hq6, hts6, ts, hD6, hts⟩
        rw [List.length_map, hts5.len, List.take_length, ← en] at hts
        exact ⟨x6, ts, hD6, hts⟩
    · rintro H3 ⟨x3, ts, hD3, hts⟩
      rw [List.length_map, hts0.len, List.take_length] at hts
      exact kk _ D ts x3 nD hD3 hts
end
end Sl
/-! ## C2 -/
set_option Elab.async false
set_option linter.all false
set_option maxRecDepth 100000
set_option maxHeartbeats 4000000
/-! a for loop in a generator -/
namespace PySem
open Sem (wp)
section
variable {prog : Program} {w : World} {A : Around} {R : GenEnd} {Y : Protocol} {n : Nat} {s₀ : Shared} {fs : List Frame} {s : Shared} {env : Env}
/-- an exception in the loop's code -/
abbrev SegOut (prog : Program) (w : World) (A : Around) (R : GenEnd) (Y : Protocol) (n : Nat) (s₀ : Shared) (c : Code) (fs : List Frame) (env : Env) : Value → Shared → Prop := fun x s' =>
  Seg (model prog w) A R Y n s₀ c ((do noteFrame x env; theTreesLotGoes x : Sem Unit).wrap (fun _ => .raise x) .raise id id) fs s'
/-- a turn -/
theorem seg_forLoopG {tg : Expr} {it : Value} {body : List Stmt}
    (h : wpAny (model prog w) (A.over (.forLoop tg it body [] env) fs) (pyNext it) (fun r s1 => match r with
      | none => Seg (model prog w) A R Y n s₀ (.block [] env) (.pure (.done .next)) fs s1
      | some v => wpAny (model prog w) (A.over (.forLoop tg it body [] env) fs) (letOwnedTupleGo tg it v) (fun _ s2 => wpAny (model prog w) (A.over (.forLoop tg it body [] env) fs) (assign tg env v) (fun _ s3 =>
          Seg (model prog w) A R Y n s₀ (.forLoop tg it body [] env) ((execs body env).wrap (fun f => match f with
            | .next | .cont => .pure (.again (.forLoop tg it body [] env))
            | .brk => .pure (.done .next)
            | .ret v => .pure (.done (.ret v))) (fun e => (do noteFrame e env; theTreesLotGoes e : Sem Unit).wrap (fun _ => .raise e) .raise id id) id id) fs s3)
          (SegOut prog w A R Y n s₀ (.forLoop tg it body [] env) fs env) s2) (SegOut prog w A R Y n s₀ (.forLoop tg it body [] env) fs env) s1)
      (SegOut prog w A R Y n s₀ (.forLoop tg it body [] env) fs env) s) :
    Seg (model prog w) A R Y n s₀ (.forLoop tg it body [] env) ((model prog w).den (.forLoop tg it body [] env)) fs s := by
  have out : ∀ {x s'}, SegOut prog w A R Y n s₀ (.forLoop tg it body [] env) fs env x s' → Seg (model prog w) A R Y n s₀ (.forLoop tg it body [] env) ((do noteFrame x env; theTreesLotGoes x : Sem Unit).bind fun _ => .raise x) fs s' := fun {x s'} hx => by
    rw [Sem.bind_eq_wrap]
    exact hx
  show Seg _ A R Y n s₀ _ ((forTurn tg it body [] env).onRaise (fun x => do noteFrame x env; theTreesLotGoes x)) fs s
  unfold forTurn
  rw [Sem.onRaise_eq_wrap]
  refine seg_bind_wrap (wpAny_standAt ?_)
  refine seg_bind_wrap (wpAny_onRaise (wpAny_mono h (fun r s1 h1 => ?_) fun x s' hx => wpAny_standAt (out hx)))
  cases r with
  | none => exact seg_again rfl h1
  | some v =>
    refine seg_bind_wrap (wpAny_mono h1 (fun _ s2 h2 => ?_) fun x s' hx => out hx)
    refine seg_bind_wrap (wpAny_mono h2 (fun _ s3 h3 => ?_) fun x s' hx => out hx)
    rw [Sem.bind_eq_wrap', Sem.wrap_wrap]
    rw [Sem.wrap_congr (execs body env) _ _ (K' := fun f => match f with
            | .next | .cont => .pure (.again (.forLoop tg it body [] env))
            | .brk => .pure (.done .next)
            | .ret v => .pure (.done (.ret v))) (H' := (fun e => (do noteFrame e env; theTreesLotGoes e : Sem Unit).wrap (fun _ => .raise e) .raise id id))
        (fun f => by cases f <;> rfl)
        (fun e => by first | exact Sem.bind_eq_wrap _ _ | (show (do noteFrame e env; theTreesLotGoes e : Sem Unit).bind (fun _ => .raise e) = _; rw [Sem.bind_eq_wrap]))]
    exact h3
end
end PySem
namespace L2
open PySem PySem.Spec PyProof.Rows GenW
def tGFor (wi : TI) (g : TG) (tb : TGn) : TGn := fun D ys σ H => wi σ H fun J H1 => ∃ W : Nat → Nat → List V → St → Hp → Prop, (∃ m, W 0 m ys σ H1) ∧ ∀ i m ys σ H, W i m ys σ H →
  (J.stop i H ∧ D.nx ys σ H) ∨ (J.go i H ∧ ∃ N : List V → St → Hp → Prop, (∀ ys' σ' H', N ys' σ' H' → ∃ m', m' < m ∧ W (i + 1) m' ys' σ' H') ∧ ∀ x H', J.yld i H x H' → g x σ H' fun σ2 H2 => tb { D with nx := N, ct := N, bk := D.nx } ys σ2 H2)
section
variable {X : Cx} {tg : Expr}
theorem GI.less {S : Addr} {ip pl : List (Addr × Obj)} {ys : List V} {σ : St} {H : Hp} {s : Shared} (h : GI X S (ip ++ pl) ys σ H s) : GI X S ip ys σ H s := by
  obtain ⟨acc, cc, r, I⟩ := h
  refine ⟨acc, cc, r, I.pins_of fun p hp => I.pin p (List.mem_append_right _ ?_)⟩
  rcases List.mem_cons.mp hp with z | z
  · rw [z]
    exact List.mem_cons_self
  · exact List.mem_cons_of_mem _ (List.mem_append_left _ z)
theorem gs_for {iter : Expr} {body : List Stmt} {wi : TI} {g : TG} {tb : TGn} {pos : Pos} (hp : PassesOwn (model X.prog X.w) X.A X.env X.xe) (hc : X.calm = true) (hi : PI X tg iter wi) (hg : PG X tg g) (hb : GSs X body tb)
    (hs : ∀ x, foldedSetIterable iter X.env x = pure x := by intro _; rfl) : GS X (.For tg iter body [] pos) (tGFor wi g tb) := by
  refine ⟨fun A S ip R n ys s₀ c fs K J gd lv s σ H D g0 hn k hI ht => ?_⟩
  obtain ⟨acc, cc, r, I⟩ := hI
  rw [exec_For]
  refine seg_bind_wrap (wpAny_standAt ?_)
  refine seg_bind_wrap ?_
  rw [g0.over]
  refine wpAny_mono (hi.run _ s σ H _ I ht) (fun v s1 h1 => ?_) fun x s' hx => k.exc n s₀ x s' hx
  refine seg_bind_wrap (wpAny_of_eq (hs v) ?_)
  refine seg_bind_wrap (wpAny_standAt ?_)
  refine seg_bind_wrap (wpAny_holding ?_)
  rw [g0.over]
  refine wpAny_mono h1 (fun itv s2 h2 => ?_) fun x s' hx => k.exc n s₀ x s' hx
  obtain ⟨it, fp, tn, Jt, H2, e, I2, T, st2, f2, W, ⟨m0, w0⟩, turn⟩ := h2
  subst e
  have f3 : ∀ b ∈ fp, b ≠ S := fun b hb z => (f2 b hb).2.2.2.2.2 (S, lstObj acc cc) (List.mem_append_right _ List.mem_cons_self) z.symm
  have stat : ∀ {H' : Hp} {acc' : Array Value} {c' : Nat}, (∀ b ∈ fp, H' b = none) → ∀ b ∈ fp, FpOk X ((S, lstObj acc' c') :: ip) H' b := fun {H' acc' c'} hn b hb => by
    obtain ⟨_, a1, a2, a3, a4, a5⟩ := f2 b hb
    refine ⟨hn b hb, a1, a2, a3, a4, fun p hp => ?_⟩
    rcases List.mem_append.mp hp with z | z
    · exact a5 p (List.mem_append_left _ z)
    rcases List.mem_cons.mp z with z | z
    · rw [z]
      exact (f3 b hb).symm
    · exact a5 p (List.mem_append_right _ (List.mem_cons_of_mem _ z))
  refine seg_call fun p => ?_
  have gl := fun (kk : Result → Sem PySem.Fin) => gc_loop (k := kk) (c' := .forLoop tg (.ref it) body [] X.env) (l := lv []) (kp := []) (p := p) g0 rfl rfl
  have loop : ∀ (m n : Nat) (ys : List V) (s₀ s : Shared) (i : Nat) (σ : St) (H : Hp), n + ys.length = sizeLine → W i m ys σ H → GI X S ip ys σ H s → tn i s.heap → (∀ b ∈ fp, H b = none) →
      Seg (model X.prog X.w) A R (GY X S) n s₀ (.forLoop tg (.ref it) body [] X.env) ((model X.prog X.w).den (.forLoop tg (.ref it) body [] X.env))
        (.ret (fun r => ((match r with | .ok f => (.pure f : Sem Flow) | .error e => .raise e).onRaise (cameBack X.env)).wrap K J gd lv) none (gd false) (lv []) c p [] :: fs) s := by
    intro m
    induction m using Nat.strongRecOn with
    | ind m ih =>
      intro n ys s₀ s i σ H hn w hI st fr
      have ee : ∀ (n : Nat) (s₀ : Shared) (x : Value) (s' : Shared), X.xe x s' → Seg (model X.prog X.w) A R (GY X S) n s₀ (.forLoop tg (.ref it) body [] X.env)
          ((do noteFrame x X.env; theTreesLotGoes x : Sem Unit).wrap (fun _ => .raise x) .raise id id)
          (.ret (fun r => ((match r with | .ok f => (.pure f : Sem Flow) | .error e => .raise e).onRaise (cameBack X.env)).wrap K J gd lv) none (gd false) (lv []) c p [] :: fs) s' := fun n s₀ x s' hx => by
        refine seg_wrap ?_
        rw [(gl _).over]
        refine wpAny_bind (wpAny_mono (hp x s' hx) (fun _ s'' hcb => wpAny_theTreesLotGoes ?_) fun y s'' hcb => ?_)
        · exact seg_leaf (.error x) (seg_cameBack g0 k hcb)
        · exact seg_leaf (.error y) (seg_cameBack g0 k hcb)
      refine seg_forLoopG ?_
      simp only [(gl _).over]
      obtain ⟨acc, cc, r, I⟩ := hI
      rcases turn i m ys σ H w with ⟨stop, qn⟩ | ⟨go, N, hN, step⟩
      · refine wpAny_mono (T.done X rfl rfl rfl hc i _ s σ H X.xe I (stat fr) st stop) (fun r1 s4 ⟨hr, I4⟩ => ?_) fun x s' hx => ee n s₀ x s' hx
        subst hr
        exact seg_leaf (.ok .next) (k.ok n ys s₀ s4 .next hn ⟨σ, H, ⟨acc, cc, r, I4⟩, qn⟩)
      · refine wpAny_mono (T.item X rfl rfl rfl hc i _ s σ H X.xe I (stat fr) st go) (fun r1 s4 ⟨u, hr, h4⟩ => ?_) fun x s' hx => ee n s₀ x s' hx
        subst hr
        refine wpAny_mono h4 (fun _ s5 ⟨x, H5, I5, r5, y5, st5, fr5⟩ => ?_) fun x s' hx => ee n s₀ x s' hx
        have I5' := I5.pinned (stat fr5) (T.obj _ _ st5)
        refine wpAny_mono (hg.run _ s5 σ H5 x u _ I5' r5 (step x H5 y5)) (fun _ s6 ⟨σ6, H6, I6, q6⟩ => ?_) fun x s' hx => ee n s₀ x s' hx
        have gg : GC X S (ip ++ pinsAt fp s5.heap) A (.forLoop tg (.ref it) body [] X.env) (.ret (fun r => ((match r with | .ok f => (.pure f : Sem Flow) | .error e => .raise e).onRaise (cameBack X.env)).wrap K J gd lv) none (gd false) (lv []) c p [] :: fs) id :=
          { gl _ with ip := fun q hq => (List.mem_append.mp hq).elim (fun z => g0.ip q z) fun z => f3 q.1 (of_pinsAt z).1 }
        have again : ∀ {σ7 : St} {H7 : Hp} {ys7 : List V} {s7 : Shared}, GI X S (ip ++ pinsAt fp s5.heap) ys7 σ7 H7 s7 → tn (i + 1) s7.heap ∧ ∀ b ∈ fp, H7 b = none := fun {σ7 H7 ys7 s7} h7 => by
          obtain ⟨acc7, c7, r7, I7⟩ := h7
          have pin : ∀ b ∈ fp, ∀ o, s5.heap.get? b = some o → s7.heap.get? b = some o ∧ H7 b = none := fun b hb o e => by
            have z := I7.pin (b, o) (List.mem_append_right _ (List.mem_cons_of_mem _ (List.mem_append_right _ (mem_pinsAt hb e))))
            exact ⟨z.1, z.2.1⟩
          refine ⟨T.keep _ _ _ st5 fun b hb o e => (pin b hb o e).1, fun b hb => ?_⟩
          obtain ⟨o, e, d⟩ := T.obj _ _ st5 b hb
          exact (pin b hb o e).2
        refine hb.run A S (ip ++ pinsAt fp s5.heap) R n ys s₀ _ _ _ _ id id s6 σ6 H6 { D with nx := N, ct := N, bk := D.nx } gg hn ⟨fun n' ys' s₀' s3 f hn' hs => ?_, fun n' s₀' x s3 hx => ee n' s₀' x s3 hx⟩ ⟨acc, cc, r, I6⟩ q6
        cases f with
        | next =>
          obtain ⟨σ3, H3, I3, n3⟩ := hs
          obtain ⟨m', hm, w3⟩ := hN ys' σ3 H3 n3
          exact seg_again rfl (ih m' hm n' ys' s₀' s3 (i + 1) σ3 H3 hn' w3 I3.less (again I3).1 (again I3).2)
        | cont =>
          obtain ⟨σ3, H3, I3, n3⟩ := hs
          obtain ⟨m', hm, w3⟩ := hN ys' σ3 H3 n3
          exact seg_again rfl (ih m' hm n' ys' s₀' s3 (i + 1) σ3 H3 hn' w3 I3.less (again I3).1 (again I3).2)
        | brk =>
          obtain ⟨σ3, H3, I3, n3⟩ := hs
          exact seg_leaf (.ok .next) (k.ok n' ys' s₀' s3 .next hn' ⟨σ3, H3, I3.less, n3⟩)
        | ret v =>
          obtain ⟨x3, σ3, H3, I3, r3, n3⟩ := hs
          exact seg_leaf (.ok (.ret v)) (k.ok n' ys' s₀' s3 (.ret v) hn' ⟨x3, σ3, H3, I3.less, r3, n3⟩)
  exact loop m0 n ys s₀ s2 0 σ H2 hn w0 ⟨acc, cc, r, I2⟩ st2 fun b hb => (f2 b hb).1
end
end L2
/-! ## A7 -/
set_option Elab.async false
set_option linter.all false
set_option maxRecDepth 100000
set_option maxHeartbeats 4000000
set_option pp.maxSteps 900
set_option pp.deepTerms false
/-! members: an `if` in a generator; texts of a language, handed out -/
namespace Sl
open PySem PySem.Spec PyProof.Rows L2 LamX NdefX
def tGIf (c : TT) (t u : TGn) : TGn := fun D ys σ H => c σ H fun b H1 => if b = true then t D ys σ H1 else u D ys σ H1
theorem gs_if {X : Cx} {test : Expr} {body orelse : List Stmt} {pos : Pos} {tc : TT} {t u : TGn} (hc : PT X test tc) (hb : GSs X body t) (he : GSs X orelse u) : GS X (.If test body orelse pos) (tGIf tc t u) := by
  refine ⟨fun A S ip R n ys s₀ c fs K J gd lv s σ H D g hn k hI ht => ?_⟩
  obtain ⟨acc, cc, r, I⟩ := hI
  rw [exec_If]
  refine seg_bind_wrap (wpAny_standAt ?_)
  refine seg_bind_wrap ?_
  rw [g.over]
  refine wpAny_mono (hc.run _ s σ H _ I ht) (fun b s' hb' => ?_) fun x s' hx => k.exc n s₀ x s' hx
  obtain ⟨H2, I2, q2⟩ := hb'
  cases b with
  | true =>
    rw [if_pos rfl] at q2
    exact hb.run A S ip R n ys s₀ c fs K J gd lv s' σ H2 D g hn k ⟨acc, cc, r, I2⟩ q2
  | false =>
    rw [if_neg Bool.false_ne_true] at q2
    exact he.run A S ip R n ys s₀ c fs K J gd lv s' σ H2 D g hn k ⟨acc, cc, r, I2⟩ q2
theorem gfor_it {J : It} {n : Nat} {G : Hp → Prop} {Y : Nat → Hp → V → Hp → Prop} (w : Walk J n G Y) {g : TG} {tb : TGn} {D : GEnds} {ys : List V} {σ : L2.St} {H : Hp} (Pv : Nat → List V → L2.St → Hp → Prop) (h0 : Pv 0 ys σ H) (hG : ∀ i ys σ H, i ≤ n → Pv i ys σ H → G H)
    (hs : ∀ i x ys σ H H', i < n → Pv i ys σ H → Y i H x H' → g x σ H' fun σ2 H2 => tb { D with nx := Pv (i + 1), ct := Pv (i + 1), bk := D.nx } ys σ2 H2) (hd : ∀ ys σ H, Pv n ys σ H → D.nx ys σ H) :
    ∃ W : Nat → Nat → List V → L2.St → Hp → Prop, (∃ m, W 0 m ys σ H) ∧ ∀ i m ys σ H, W i m ys σ H →
      (J.stop i H ∧ D.nx ys σ H) ∨ (J.go i H ∧ ∃ N : List V → L2.St → Hp → Prop, (∀ ys' σ' H', N ys' σ' H' → ∃ m', m' < m ∧ W (i + 1) m' ys' σ' H') ∧ ∀ x H', J.yld i H x H' → g x σ H' fun σ2 H2 => tb { D with nx := N, ct := N, bk := D.nx } ys σ2 H2) := by
  refine ⟨fun i m ys σ H => m = n - i ∧ i ≤ n ∧ Pv i ys σ H, ⟨n, by simp, Nat.zero_le _, h0⟩, ?_⟩
  rintro i m ys σ H ⟨rfl, hi, p⟩
  have q := hG i ys σ H hi p
  by_cases hlt : i < n
  · exact .inr ⟨w.goes i H hlt q, Pv (i + 1), fun ys' σ' H' p' => ⟨n - (i + 1), by omega, rfl, hlt, p'⟩, fun x H' y => hs i x ys σ H H' hlt p (w.yields i H x H' hlt q y)⟩
  · have e : i = n := by omega
    subst e
    exact .inl ⟨w.stops H q, hd ys σ H p⟩
abbrev sMembers : Stmt := top 40
/-- the texts of a level with their states, all of them live -/
def levM (sg : List Str) (δ : Nat → Str → Nat) (live : List Nat) : Nat → List (Str × Nat)
  | 0 => [(Str.ofString "", 0)]
  | k + 1 => nextL sg δ live (levM sg δ live k)
def memL (sg : List Str) (δ : Nat → Str → Nat) (found live : List Nat) (k : Nat) : List Str := ((levM sg δ live k).filter fun e => decide (e.2 ∈ found)).map (·.1)
def memsL (sg : List Str) (δ : Nat → Str → Nat) (found live : List Nat) (n : Nat) : List Str := (List.range n).flatMap (memL sg δ found live)
def spMembers (C : Addr) : SpG := fun vs H Q _ => ∃ (p : Addr) (most : Nat) (z : Str) (M : Nat) (δ : Nat → Str → Nat) (found live : List Nat), vs = [.ref p, .int most] ∧ LangAt C H p z M δ found live ∧ LgLt z M δ ∧ most ≤ 8 ∧ z.cps.size ^ most ≤ 1000 ∧ 0 < z.cps.size ∧
  ∀ H', Ext H H' → Q ((memsL (sgL z) δ found live (most + 1)).map V.str) H'
theorem levM_ok {z : Str} {M : Nat} {δ : Nat → Str → Nat} {live : List Nat} (t : LgLt z M δ) : ∀ k, (∀ e ∈ levM (sgL z) δ live k, e.2 < M ∧ e.1.length = k) ∧ (levM (sgL z) δ live k).length ≤ z.cps.size ^ k
  | 0 => ⟨fun e he => by
      rw [List.mem_singleton.mp he]
      exact ⟨t.pos, rfl⟩, Nat.le_refl _⟩
  | k + 1 => by
    obtain ⟨h1, h2⟩ := levM_ok (live := live) t k
    refine ⟨fun e he => ?_, ?_⟩
    · obtain ⟨u, hu, he⟩ := List.mem_flatMap.mp he
      obtain ⟨f, hf, rfl⟩ := List.mem_map.mp he
      obtain ⟨u1, u2⟩ := h1 u hu
      obtain ⟨f1, f2⟩ := gLive_lt (live := live) t u1 f hf
      refine ⟨f1, ?_⟩
      show (u.1 ++ f.1).length = k + 1
      rw [len_app, u2, f2]
    · refine Nat.le_trans nextL_len ?_
      rw [sgL_len, Nat.pow_succ]
      exact Nat.mul_le_mul_right _ h2
theorem pow_le {b k n : Nat} (hb : 0 < b) (h : k ≤ n) : b ^ k ≤ b ^ n := Nat.pow_le_pow_right hb h
theorem mem_inner {K : PySem.W.Frag} {C p L : Addr} {most M : Nat} {z : Str} {δ : Nat → Str → Nat} {found live : List Nat} {v3 v4 v5 : Option V} {ts : List Addr} {l : List (Str × Nat)} {ys : List V} {H : Hp} {D : GEnds} (lt : LgLt z M δ) (LA : LangAt C H p z M δ found live) (hL : H L = some (.lst (ts.map V.ref))) (hts : LeadsAt H ts l) (hl : ∀ e ∈ l, e.2 < M) (room : ys.length + l.length ≤ 10000)
    (hD : ∀ v4 v5, D.nx (ys ++ ((l.filter fun e => decide (e.2 ∈ found)).map (·.1)).map V.str) [some (.ref p), some (.int most), some (.ref L), v3, v4, v5] H) :
    tGFor (iList K (tVar 2)) (gTup K 2 (gCons (gName 4) (gCons (gName 5) gNil))) (tGThen (tGIf (tB (tMeth C "is_member" (spMember C) [] (fun _ _ _ => False) (tVar 0) (tCons (tVar 5) tNil))) (tGThen (tGYield (tVar 4)) tG0) tG0) tG0) D ys [some (.ref p), some (.int most), some (.ref L), v3, v4, v5] H := by
  obtain ⟨dx, fs, i1, no1⟩ := LA.no "is_member" (by decide)
  refine ⟨_, rfl, L, rfl, ⟨_, SqL.of hL⟩, ?_⟩
  refine gfor_it (walk_list (xs := ts.map V.ref)) (fun j ys' σ H' => ∃ (v4 v5 : Option V), σ = [some (.ref p), some (.int most), some (.ref L), v3, v4, v5] ∧ H' = H ∧ ys' = ys ++ (((l.take j).filter fun e => decide (e.2 ∈ found)).map (·.1)).map V.str) ⟨v4, v5, rfl, rfl, by rw [List.take_zero, List.filter_nil, List.map_nil, List.map_nil, List.append_nil]⟩ (fun j ys σ H' _ ⟨_, _, _, e, _⟩ => by rw [e]; exact SqL.of hL) ?_ ?_
  · rintro j x ys' σ H3 H4 hj ⟨v4, v5, rfl, rfl, rfl⟩ ⟨rfl, hy⟩
    obtain ⟨t, htj, rfl⟩ := at_map hy
    obtain ⟨e, he, hte⟩ := hts.at_ htj
    have en : (l.take (j + 1)).filter (fun e => decide (e.2 ∈ found)) = (l.take j).filter (fun e => decide (e.2 ∈ found)) ++ if decide (e.2 ∈ found) = true then [e] else [] := by
      rw [take_more he, List.filter_append, List.filter_cons, List.filter_nil]
    refine ⟨t, _, rfl, SqT.of hte, rfl, _, _, rfl, _, _, rfl, rfl, ?_⟩
    refine ⟨_, rfl, p, dx, fs, rfl, i1, no1, _, rfl, p, e.2, z, M, δ, found, live, rfl, LA, hl e (List.mem_of_getElem? he), _, rfl, ?_⟩
    cases c : decide (e.2 ∈ found) with
    | false =>
      refine iteF ⟨_, _, rfl, rfl, ?_⟩
      rw [en, c, if_neg Bool.false_ne_true, List.append_nil]
    | true =>
      have lf : ((l.take j).filter fun e => decide (e.2 ∈ found)).length ≤ l.length := Nat.le_trans (List.length_filter_le _ _) (List.length_take_le' _ _)
      refine iteT ⟨by rw [List.length_append, List.length_map, List.length_map]; exact small_l (by omega), _, rfl, _, _, rfl, rfl, ?_⟩
      rw [en, c, if_pos rfl, List.map_append, List.map_append, ← List.append_assoc]
      rfl
  · rintro ys' σ H3 ⟨v4, v5, rfl, rfl, rfl⟩
    rw [List.length_map, hts.len, List.take_length]
    exact hD v4 v5
abbrev nMembers : List Str := ["language", "most", "level", "length", "text", "state"]
section
variable {P : Program} {w : World} {K : PySem.W.Frag} {mg : Str → Option Value} {base : Heap}
theorem Fun.okGen {x qual : Str} {st : Stmt} {f : Addr} {fd : FuncData} {N ps : List Str} {k : Nat} {sp : SpG} (F : Fun K x qual st f fd) (S : GScope N ps (defScope st)) (len : ∀ vs H Q E, sp vs H Q E → vs.length = ps.length)
    (hbody : ∀ (cdv : Value) (A : Around) (outer : List Env) (s : Shared) (H : Hp) (vs : List V) (Q : List V → Hp → Prop) (E : XK) (pn : List (Addr × Obj)), Room k (A.deeper (envOfC qual (defScope st) s.heap.objs.size f cdv)) → sp vs H Q E →
      ∃ t, GSs (gcxOf P w K mg base N qual (defScope st) f cdv A outer s H E pn) (defBody st) t ∧ t { nx := fun ys _ H' => Q ys H', rt := fun ys v H' => v = .non ∧ Q ys H' } [] (start N vs) H) :
    GFn P w K mg base (k + 1) f fd ps sp := by
  obtain ⟨oc, od, kV, doc, pm, an, cdv, ct, osl, rfl, lk, hcd⟩ := F.ex
  exact gfn_of lk hcd S len fun A outer s H vs Q E pn hr h => hbody cdv A outer s H vs Q E pn hr h
theorem scMembers : GScope nMembers ["language", "most"] (defScope sMembers) := ⟨rfl, rfl, rfl, by decide +kernel, rfl, by decide +kernel, by decide +kernel⟩
theorem ok_members {f C fB fL fMb : Addr} {fd fdB fdL fdMb : FuncData} {t8 : Tok} (F : Fun K "members" "members" sMembers f fd) (Tc : LgC K C)
    (aB : At K mg "is_below" fB fdB ["value", "limit"] []) (gB : FnOk P w K mg base CX0 2 fB fdB ["value", "limit"] (spBelow K)) (z8 : mg "MAX_MEMBER_SIGNS" = some (.int 8 t8)) (zr : mg "range" = none)
    (aL : At K mg "_longer" fL fdL ["language", "level"] []) (gL : FnOk P w K mg base CX0 7 fL fdL ["language", "level"] (spLonger C))
    (mMb : L2.Meth K C "is_member" fMb) (bMb : L2.Binds K fdMb ["self", "state"] []) (gMb : FnOk P w K mg base CX0 4 fMb fdMb ["self", "state"] (spMember C)) :
    GFn P w K mg base 8 f fd ["language", "most"] (spMembers C) := by
  refine Sl.Fun.okGen F scMembers (fun vs H Q E h => ?_) (fun cdv A0 outer s H vs Q E pn hr h => ?_)
  · obtain ⟨p, most, z, M, δ, found, live, rfl, _⟩ := h
    rfl
  · obtain ⟨p, most, z, M, δ, found, live, rfl, LA, lt, m8, pw, z0, kk⟩ := h
    have hr2 := hr.mono (show 2 ≤ 7 by omega)
    have hr4 := hr.mono (show 4 ≤ 7 by omega)
    refine ⟨_, gss_cons (gs_ps (ps_if (pt_not (pt_val (pe_call (E := fun _ _ _ => False) gB hr2 (by rfl) aB.g aB.kp aB.b .nil pass0 (pa_cons (pv 1) (pa_cons (pe_op op_add (pe_glob (v := .int 8) rfl z8 ⟨_, rfl⟩) pe_int) pa_nil))))) pss_dead pss_nil))
      (gss_cons (gs_ps (ps_set (i := 2) scMembers.nd rfl (.inl rfl) (pe_lst (pa_cons (pe_tup (pa_cons pe_str (pa_cons pe_int pa_nil))) pa_nil))))
      (gss_cons (gs_for owns_gcx rfl (pi_range1 rfl zr (pa_cons (pe_op op_add (pv 1) pe_int) pa_nil)) (pg_name (i := 3) scMembers.nd rfl (.inl rfl))
        (gss_cons (gs_ps (ps_if (pt_cmpR op_gt (pv 3) pe_int (nomark _)) (pss_one (ps_set (i := 2) scMembers.nd rfl (.inl rfl) (pe_call (E := fun _ _ _ => False) gL hr (by rfl) aL.g aL.kp aL.b .nil pass0 (pa_cons (pv 0) (pa_cons (pv 2) pa_nil))))) pss_nil))
        (gss_cons (gs_for owns_gcx rfl (pi_list (pv 2)) (pg_tup rfl (pgs_cons (pg_name (i := 4) scMembers.nd rfl (.inl rfl)) (pgs_cons (pg_name (i := 5) scMembers.nd rfl (.inl rfl)) pgs_nil)))
          (gss_cons (gs_if (pt_val (pe_meth (E := fun _ _ _ => False) (pv 0) Tc.cl mMb gMb hr4 bMb .nil pass0 (pa_cons (pv 5) pa_nil))) (gss_cons (gs_yield (pv 4)) gss_nil) gss_nil) gss_nil)) gss_nil))) gss_nil)), ?_⟩
    refine ⟨_, rfl, _, _, rfl, rfl, .int most, _, rfl, .inl ⟨_, rfl⟩, ?_⟩
    have e : below (.int most) (8 + 1) = true := by
      unfold below
      simp
      omega
    rw [e]
    refine ⟨true, rfl, iteF ?_⟩
    refine ⟨by show 2 ≤ sizeLine; decide, fun t0 n0 => ⟨by show 1 ≤ sizeLine; decide, fun L nL => ?_⟩⟩
    have x0 := Ext.new n0 (o := .tup [V.str (Str.ofString ""), V.int 0])
    have h0 : (upd H t0 (.tup [V.str (Str.ofString ""), V.int 0])) t0 = some (.tup [V.str (Str.ofString ""), V.int 0]) := upd_same
    generalize upd H t0 (.tup [V.str (Str.ofString ""), V.int 0]) = H1 at x0 h0 nL ⊢
    have xL := Ext.new nL (o := .lst [V.ref t0])
    have hL : (upd H1 L (.lst [V.ref t0])) L = some (.lst (([t0] : List Addr).map V.ref)) := upd_same
    have h2 := xL _ _ h0
    have x2 := x0.trans xL
    generalize upd H1 L (.lst [V.ref t0]) = H2 at x2 hL h2 ⊢
    refine ⟨_, rfl, _, _, rfl, rfl, ((most + 1 : Nat) : Int), rfl, by omega, by omega, ?_⟩
    rw [show (((most + 1 : Nat) : Int)).toNat = most + 1 by omega]
    refine gfor_it (walk_range (lo := 0) (n := most + 1)) (fun i ys σ H' => ∃ (v3 v4 v5 : Option V) (L : Addr) (ts : List Addr), σ = [some (.ref p), some (.int most), some (.ref L), v3, v4, v5] ∧ Ext H H' ∧ H' L = some (.lst (ts.map V.ref)) ∧ LeadsAt H' ts (levM (sgL z) δ live (i - 1)) ∧ ys = (memsL (sgL z) δ found live i).map V.str ∧ ys.length ≤ i * 1000)
      ⟨none, none, none, L, [t0], rfl, x2, hL, .cons h2 .nil, rfl, Nat.zero_le _⟩ (fun _ _ _ _ _ _ => trivial) ?_ ?_
    · rintro i x ys σ H3 H4 hi ⟨v3, v4, v5, L3, ts3, rfl, x3, hL3, hts3, hys, ly⟩ ⟨rfl, rfl⟩
      have pi : z.cps.size ^ i ≤ 1000 := Nat.le_trans (pow_le z0 (by omega)) pw
      obtain ⟨lv1, lv2⟩ := levM_ok (live := live) lt i
      have em : memsL (sgL z) δ found live (i + 1) = memsL (sgL z) δ found live i ++ memL (sgL z) δ found live i := by
        unfold memsL
        rw [List.range_succ, List.flatMap_append, List.flatMap_singleton]
      have ml : (memL (sgL z) δ found live i).length ≤ 1000 := by
        unfold memL
        rw [List.length_map]
        exact Nat.le_trans (List.length_filter_le _ _) (by omega)
      have fin : ∀ {L' : Addr} {ts' : List Addr} {H' : Hp} {v3' v4' v5' : Option V}, Ext H H' → H' L' = some (.lst (ts'.map V.ref)) → LeadsAt H' ts' (levM (sgL z) δ live i) → ∃ (v3 v4 v5 : Option V) (L : Addr) (ts : List Addr), [some (.ref p), some (.int most), some (.ref L'), v3', v4', v5'] = [some (.ref p), some (.int most), some (.ref L), v3, v4, v5] ∧ Ext H H' ∧ H' L = some (.lst (ts.map V.ref)) ∧ LeadsAt H' ts (levM (sgL z) δ live (i + 1 - 1)) ∧ ys ++ (memL (sgL z) δ found live i).map V.str = (memsL (sgL z) δ found live (i + 1)).map V.str ∧ (ys ++ (memL (sgL z) δ found live i).map V.str).length ≤ (i + 1) * 1000 := fun {L' ts' H' v3' v4' v5'} x' hL' hts' =>
        ⟨v3', v4', v5', L', ts', rfl, x', hL', hts', by rw [em, List.map_append, hys], by rw [List.length_append, List.length_map]; omega⟩
      refine ⟨_, rfl, _, _, rfl, rfl, _, rfl, ?_⟩
      rcases Nat.eq_zero_or_pos i with rfl | ip
      · rw [decide_eq_false (show ¬ ((0 : Int) < 0 + ((0 : Nat) : Int)) by omega)]
        refine iteF ?_
        exact mem_inner (K := K) (lt := lt) (LA.extN (ExtN.of x3)) hL3 hts3 (fun e he => (lv1 e he).1) (by show ys.length + (levM (sgL z) δ live 0).length ≤ _; omega) fun v4 v5 => fin x3 hL3 hts3
      · rw [decide_eq_true (show ((0 : Int) < 0 + (i : Int)) by omega)]
        refine iteT ?_
        obtain ⟨lw1, lw2⟩ := levM_ok (live := live) lt (i - 1)
        have ei : levM (sgL z) δ live i = nextL (sgL z) δ live (levM (sgL z) δ live (i - 1)) := by
          obtain ⟨k, rfl⟩ : ∃ k, i = k + 1 := ⟨i - 1, by omega⟩
          rfl
        have pk : z.cps.size ^ (i - 1) * z.cps.size ≤ 1000 := by
          rw [← Nat.pow_succ, show (i - 1).succ = i by omega]
          exact pi
        have lz : (levM (sgL z) δ live (i - 1)).length * z.cps.size ≤ 10000 := by
          have := Nat.mul_le_mul_right z.cps.size lw2
          omega
        refine ⟨_, rfl, _, rfl, p, L3, ts3, _, z, M, δ, found, live, rfl, hL3, hts3, fun e he => ⟨(lw1 e he).1, by have := (lw1 e he).2; omega⟩, lz, LA.extN (ExtN.of x3), lt, fun H5 L5 ts5 x5 n5 hL5 hts5 => ?_⟩
        rw [← ei] at hts5
        exact mem_inner (K := K) (lt := lt) (LA.extN (ExtN.of (x3.trans x5))) hL5 hts5 (fun e he => (lv1 e he).1) (by omega) fun v4 v5 => fin (x3.trans x5) hL5 hts5
    · rintro ys σ H3 ⟨v3, v4, v5, L3, ts3, rfl, x3, hL3, hts3, rfl, ly⟩
      exact kk _ x3
end
end Sl
/-! ## A12 -/
set_option Elab.async false
set_option linter.all false
set_option maxRecDepth 100000
set_option maxHeartbeats 4000000
set_option pp.maxSteps 900
set_option pp.deepTerms false
/-! members and the law's words; _law_members_right -/
namespace Sl
open PySem PySem.Spec PyProof.Rows L2 TxS LamX NdefX
/-! ### words and texts -/
theorem sgL_inj {x y : Str} (h : sgL x = sgL y) : x = y := by
  have e : x.cps.toList = y.cps.toList := by
    unfold sgL at h
    exact (List.map_inj_right (f := fun c : Nat => (⟨#[c]⟩ : Str)) fun a b e => by
      injection e with e
      have e := congrArg Array.toList e
      injection e).mp h
  obtain ⟨⟨a⟩⟩ := x
  obtain ⟨⟨b⟩⟩ := y
  have e : a = b := e
  rw [e]
theorem flat_filter {α β : Type} (p : α → Bool) (g : α → List β) : ∀ l : List α, (l.filter p).flatMap g = l.flatMap fun w => if p w = true then g w else []
  | [] => rfl
  | a :: l => by
    rw [List.filter_cons, List.flatMap_cons, ← flat_filter p g l]
    by_cases h : p a = true
    · rw [if_pos h, if_pos h, List.flatMap_cons]
    · rw [if_neg h, if_neg h, List.nil_append]
/-- all states on the way are live -/
def okS (δ : Nat → Str → Nat) (live : List Nat) : Nat → List Str → Bool
  | _, [] => true
  | n, c :: w => decide (δ n c ∈ live) && okS δ live (δ n c) w
section
variable {sg : List Str} {M : Nat} {δ : Nat → Str → Nat} {found live : List Nat}
theorem okS_snoc : ∀ (w : List Str) (n : Nat) (c : Str), okS δ live n (w ++ [c]) = (okS δ live n w && decide (run δ n (w ++ [c]) ∈ live))
  | [], n, c => by
    show (decide (δ n c ∈ live) && true) = (true && decide (δ n c ∈ live))
    rw [Bool.and_true, Bool.true_and]
  | a :: w, n, c => by
    show (decide (δ n a ∈ live) && okS δ live (δ n a) (w ++ [c])) = ((decide (δ n a ∈ live) && okS δ live (δ n a) w) && decide (run δ (δ n a) (w ++ [c]) ∈ live))
    rw [okS_snoc w, Bool.and_assoc]
theorem okS_mem (lt : ∀ b, b < M → ∀ c ∈ sg, δ b c < M) (lv : ∀ n, n < M → (n ∈ live ↔ Leads (gOf sg δ) found n)) : ∀ (w : List Str) (n : Nat), n < M → (∀ c ∈ w, c ∈ sg) → run δ n w ∈ found → okS δ live n w = true
  | [], _, _, _, _ => rfl
  | c :: w, n, hn, hw, h => by
    have hc := hw c List.mem_cons_self
    have hw' := fun d hd => hw d (List.mem_cons_of_mem _ hd)
    show (decide (δ n c ∈ live) && okS δ live (δ n c) w) = true
    rw [okS_mem lt lv w _ (lt n hn c hc) hw' h, Bool.and_true]
    exact decide_eq_true ((lv _ (lt n hn c hc)).mpr (leads_run.mpr ⟨w, hw', h⟩))
theorem levM_words (one : ∀ c ∈ sg, ∃ x, c = ⟨#[x]⟩) : ∀ k, (levM sg δ live k).map (fun e => (sgL e.1, e.2)) = ((levW sg k).filter (okS δ live 0)).map fun w => (w, run δ 0 w)
  | 0 => rfl
  | k + 1 => by
    have ih := levM_words one k
    have e1 : (levM sg δ live (k + 1)).map (fun e => (sgL e.1, e.2)) = ((levM sg δ live k).map fun e => (sgL e.1, e.2)).flatMap fun e => (gLive sg δ live e.2).map fun f => (e.1 ++ [f.1], f.2) := by
      show (nextL sg δ live (levM sg δ live k)).map _ = _
      unfold nextL
      rw [List.map_flatMap, List.flatMap_map]
      have : ∀ (l : List (Str × Nat)), (l.flatMap fun e => ((gLive sg δ live e.2).map fun f => (e.1 ++ f.1, f.2)).map fun e => (sgL e.1, e.2)) = l.flatMap fun e => (gLive sg δ live e.2).map fun f => (sgL e.1 ++ [f.1], f.2) := fun l => by
        rw [List.flatMap_def, List.flatMap_def]
        refine congrArg List.flatten (List.map_congr_left fun e _ => ?_)
        rw [List.map_map]
        refine List.map_congr_left fun f hf => ?_
        obtain ⟨c, hc, rfl⟩ := List.mem_map.mp (List.mem_filter.mp hf).1
        obtain ⟨x, rfl⟩ := one c hc
        show (sgL (e.1 ++ ⟨#[x]⟩), _) = _
        rw [sgL_app]
        rfl
      exact this _
    have e2 : levW sg (k + 1) = (levW sg k).flatMap fun w => sg.map fun c => w ++ [c] := rfl
    rw [e1, ih, e2, List.filter_flatMap, List.flatMap_map, flat_filter, List.map_flatMap]
    rw [List.flatMap_def, List.flatMap_def]
    refine congrArg List.flatten (List.map_congr_left fun w _ => ?_)
    have e3 : (sg.map fun c => w ++ [c]).filter (okS δ live 0) = (sg.filter fun c => okS δ live 0 w && decide (δ (run δ 0 w) c ∈ live)).map fun c => w ++ [c] := by
      rw [List.filter_map]
      refine congrArg (List.map _) (List.filter_congr fun c _ => ?_)
      show okS δ live 0 (w ++ [c]) = _
      rw [okS_snoc, run_app]
      rfl
    rw [e3]
    by_cases h : okS δ live 0 w = true
    · rw [if_pos h, h]
      unfold gLive gOf
      rw [List.filter_map, List.map_map, List.map_map]
      have e4 : (sg.filter ((fun e : Str × Nat => decide (e.2 ∈ live)) ∘ fun c => (c, δ (run δ 0 w) c))) = sg.filter fun c => true && decide (δ (run δ 0 w) c ∈ live) := List.filter_congr fun c _ => by
        rw [Bool.true_and]
        rfl
      rw [e4]
      refine List.map_congr_left fun c _ => ?_
      show (w ++ [c], δ (run δ 0 w) c) = (w ++ [c], run δ 0 (w ++ [c]))
      rw [run_app]
      rfl
    · rw [if_neg h, Bool.eq_false_iff.mpr h]
      have : (sg.filter fun c => false && decide (δ (run δ 0 w) c ∈ live)) = [] := List.filter_eq_nil_iff.mpr fun c _ => by simp
      rw [this]
      rfl
theorem memL_words (one : ∀ c ∈ sg, ∃ x, c = ⟨#[x]⟩) (pos : 0 < M) (lt : ∀ b, b < M → ∀ c ∈ sg, δ b c < M) (lv : ∀ n, n < M → (n ∈ live ↔ Leads (gOf sg δ) found n)) (k : Nat) : (memL sg δ found live k).map sgL = (levW sg k).filter fun w => decide (run δ 0 w ∈ found) := by
  have h := levM_words (δ := δ) (live := live) one k
  have e : (memL sg δ found live k).map sgL = (((levM sg δ live k).map fun e => (sgL e.1, e.2)).filter fun e => decide (e.2 ∈ found)).map (·.1) := by
    unfold memL
    rw [List.filter_map, List.map_map, List.map_map]
    rfl
  rw [e, h, List.filter_map, List.map_map, List.filter_filter]
  have e2 : ∀ l : List (List Str), l.map ((fun x : List Str × Nat => x.1) ∘ fun w => (w, run δ 0 w)) = l := fun l => by
    rw [show ((fun x : List Str × Nat => x.1) ∘ fun w => (w, run δ 0 w)) = id from rfl, List.map_id]
  rw [e2]
  refine List.filter_congr fun w hw => ?_
  show (decide (run δ 0 w ∈ found) && okS δ live 0 w) = decide (run δ 0 w ∈ found)
  by_cases c : run δ 0 w ∈ found
  · rw [okS_mem lt lv w 0 pos (levW_mem.mp hw).2 c, Bool.and_true]
  · rw [decide_eq_false c, Bool.false_and]
theorem memsL_words (one : ∀ c ∈ sg, ∃ x, c = ⟨#[x]⟩) (pos : 0 < M) (lt : ∀ b, b < M → ∀ c ∈ sg, δ b c < M) (lv : ∀ n, n < M → (n ∈ live ↔ Leads (gOf sg δ) found n)) : ∀ k : Nat, (memsL sg δ found live (k + 1)).map sgL = (allW sg k).filter fun w => decide (run δ 0 w ∈ found)
  | 0 => by
    have h := memL_words (found := found) one pos lt lv 0
    have e : memsL sg δ found live 1 = memL sg δ found live 0 := by
      unfold memsL
      rw [show List.range 1 = [0] from rfl, List.flatMap_singleton]
    rw [e, h]
    rfl
  | k + 1 => by
    have e : memsL sg δ found live (k + 1 + 1) = memsL sg δ found live (k + 1) ++ memL sg δ found live (k + 1) := by
      unfold memsL
      rw [List.range_succ, List.flatMap_append, List.flatMap_singleton]
    have e2 : allW sg (k + 1) = allW sg k ++ levW sg (k + 1) := rfl
    rw [e, e2, List.map_append, List.filter_append, memsL_words one pos lt lv k, memL_words one pos lt lv]
end
theorem allW_short {sg : List Str} : ∀ {k n : Nat}, n ≤ k → (allW sg k).filter (fun w => decide (w.length ≤ n)) = allW sg n
  | 0, n, h => by
    obtain rfl : n = 0 := by omega
    exact List.filter_eq_self.mpr fun w hw => decide_eq_true (allW_mem.mp hw).1
  | k + 1, n, h => by
    by_cases c : n = k + 1
    · subst c
      exact List.filter_eq_self.mpr fun w hw => decide_eq_true (allW_mem.mp hw).1
    · have e2 : allW sg (k + 1) = allW sg k ++ levW sg (k + 1) := rfl
      rw [e2, List.filter_append, allW_short (by omega : n ≤ k), List.filter_eq_nil_iff.mpr fun w hw => by
        have := (levW_mem.mp hw).1
        simp
        omega, List.append_nil]
def strsD (l : List Str) : PyData := .list (l.map PyData.str)
theorem strs_dp {K : PySem.W.Frag} {H : Hp} : ∀ l : List Str, DpAll K H (l.map V.str) (l.map PyData.str)
  | [] => .nil
  | i :: ns => .cons (.str i) (strs_dp ns)
theorem word_ok {z : Str} (h : isWordS z = true) : PyData.strOk z = true := by
  unfold isWordS at h
  unfold PyData.strOk
  rw [← Array.all_toList, List.all_eq_true]
  intro c hc
  have k := List.all_eq_true.mp h c hc
  unfold lowC at k
  simp only [Bool.and_eq_true, decide_eq_true_eq] at k ⊢
  omega
theorem strs_can : ∀ {l : List Str}, (∀ z ∈ l, isWordS z = true) → PyData.canLayAll0 (l.map PyData.str) = true ∧ PyData.depthAll (l.map PyData.str) ≤ 2
  | [], _ => ⟨rfl, by simp [PyData.depthAll]⟩
  | z :: l, h => by
    obtain ⟨k1, k2⟩ := strs_can fun y hy => h y (List.mem_cons_of_mem _ hy)
    refine ⟨?_, ?_⟩
    · show (PyData.canLay0 (.str z) && PyData.canLayAll0 (l.map PyData.str)) = true
      rw [k1, Bool.and_true]
      simpa [PyData.canLay0] using word_ok (h z List.mem_cons_self)
    · simp only [List.map_cons, PyData.depthAll, PyData.depth]
      omega
theorem strs_shaped {l : List Str} (h : ∀ z ∈ l, isWordS z = true) : SeqAt.shaped (strsD l) = true ∧ PyData.eqv (strsD l) (strsD l) = true := by
  obtain ⟨k1, k2⟩ := strs_can h
  have c0 : PyData.canLay0 (strsD l) = true := by
    show PyData.canLay0 (.list (l.map PyData.str)) = true
    rw [PyData.canLay0]
    exact k1
  refine ⟨?_, SeqAt.eqv_refl _ c0⟩
  show (PyData.canLay0 _ && decide _) = true
  rw [c0, Bool.true_and, decide_eq_true_eq]
  simp only [strsD, PyData.depth]
  omega
theorem strs_nil (l : List Str) : PyData.eqv (strsD l) (strsD []) = decide (l = []) := by
  cases l with
  | nil => decide +kernel
  | cons a l =>
    rw [decide_eq_false (by simp)]
    simp [strsD, PyData.eqv, PyData.eqvAll]
/-! ### a generator called by names -/
section
variable {X : Cx}
theorem pgen_kw {E : XK} {k : Nat} {f : Addr} {fd : FuncData} {ps ks : List Str} {sp : SpG} {x : Str} {p pos : Pos} {kws : List Keyword} {tk : TA} {g : List Value → List Value → List Value} {gV : List V → List V → List V} (G : GFn X.prog X.w X.K X.mg X.base k f fd ps sp) (hr : Room k X.A) (hg : Gl X x) (hm : X.mg x = some (.ref f)) (hk : PySem.W.keepIn X.K (.ref f) = true) (hb : KBn X.K fd ps 0 ks g gV)
    (hkw : PK X kws tk) (hall : (backToKw pos (keywordEach kws X.env)).all (·.1.isSome) = true := by rfl) (hks : (backToKw pos (keywordEach kws X.env)).filterMap (·.1) = ks := by rfl)
    (hdb : (x == ("__debug__" : Str)) = false := by decide) (hpl : ((backTo pos (starEach [] X.env)).any (·.1) || (backToKw pos (keywordEach kws X.env)).any (·.1.isNone)) = false := by rfl) :
    PGen X k (.Call (.Name x p) [] kws pos) (fun σ H cont => tk σ H fun zs H1 => zs.length = ks.length ∧ sp (gV [] zs) H1 cont E) E := by
  refine ⟨fun pins s σ H cont I h => ?_⟩
  refine wpAny_Call_Name_kw (ld_glob I hg hm ?_ hdb)
  refine PySem.W.callWith_KW0 (h₀ := X.base) I.ok.mod.kin hk hall ?_ hpl
  refine thn (hkw.run pos pins _ σ H _ I h) fun ws s2 ⟨zs, H2, I2, rz, l2, q2⟩ => ⟨I2.kIn, ?_⟩
  rw [hks]
  have r2 := hb.rel .nil rz
  refine wpAny_call (codeAny_mono (G.run X.A X.stack s2 H2 ⟨[], ks.zip ws⟩ (g [] ws) (gV [] zs) cont E hr I2.env0 (hb.to s2 [] ws I2.kIn rfl (rz.length.symm.trans l2)) r2 q2) fun c s' hq => ?_)
  cases c with
  | error er => exact hq.elim
  | ok fl =>
    cases fl with
    | ret u => exact ⟨H2, s2, [], I2, .nil, hq⟩
    | next => exact hq.elim
    | brk => exact hq.elim
    | cont => exact hq.elim
end
/-! ### the law's lists are the language's -/
def dueP (δ : Nat → Str → Nat) (mem : List Nat) (i : Nat) (y : Str) : Bool := decide (y.length ≤ i) && decide (run δ 0 (sgL y) ∈ mem)
def memP (δ : Nat → Str → Nat) (mem : List Nat) (y : Str) : Bool := decide (run δ 0 (sgL y) ∈ mem)
theorem map_sgL_inj {a b : List Str} (h : a.map sgL = b.map sgL) : a = b := (List.map_inj_right fun x y e => sgL_inj e).mp h
theorem sg_one {z : Str} : ∀ c ∈ sgL z, ∃ x, c = ⟨#[x]⟩ := fun c hc => by
  unfold sgL at hc
  obtain ⟨x, _, rfl⟩ := List.mem_map.mp hc
  exact ⟨x, rfl⟩
section
variable {z : Str} {M N k : Nat} {δ' δ : Nat → Str → Nat} {found live mem : List Nat} {H : Hp} {a : Addr} {zs : List Str}
theorem memP_words (L : LawOk z M δ' found live N δ mem) (n : NotesAt H a z k zs) : (zs.filter (memP δ mem)).map sgL = (allW (sgL z) k).filter fun w => decide (run δ' 0 w ∈ found) := by
  have e : (zs.map sgL).filter (fun w => decide (run δ 0 w ∈ mem)) = (zs.filter (memP δ mem)).map sgL := by
    rw [List.filter_map]
    rfl
  rw [← e, n.all]
  exact List.filter_congr fun w hw => decide_eq_decide.mpr (L.acc w (allW_mem.mp hw).2).symm
theorem due_mems (L : LawOk z M δ' found live N δ mem) (n : NotesAt H a z k zs) {i : Nat} (hi : i ≤ k) : memsL (sgL z) δ' found live (i + 1) = zs.filter (dueP δ mem i) := by
  refine map_sgL_inj ?_
  rw [memsL_words sg_one L.lt.pos L.lt.lt L.lv]
  have e : (zs.map sgL).filter (fun w => decide (w.length ≤ i) && decide (run δ 0 w ∈ mem)) = (zs.filter (dueP δ mem i)).map sgL := by
    rw [List.filter_map]
    refine congrArg (List.map sgL) (List.filter_congr fun y _ => ?_)
    show (decide ((sgL y).length ≤ i) && _) = (decide (y.length ≤ i) && _)
    rw [sgL_len]
    rfl
  rw [← e, n.all, ← allW_short hi, List.filter_filter]
  refine List.filter_congr fun w hw => ?_
  rw [decide_eq_decide.mpr (L.acc w (allW_mem.mp hw).2), Bool.and_comm]
end
theorem txt_of {ys : List Str} {y : Str} (h : sgL y = ys) : Txt.join "" ys = y := sgL_inj (by
  rw [sgL_join, h]
  intro c hc
  rw [← h] at hc
  exact sg_one c hc)
abbrev sMemR : Stmt := top 57
abbrev nMemR : List Str := ["_law_made", "_law_machine", "_law_notes", "_law_size", "_law_due", "_law_firsts", "_law_note"]
def spMemR (C : Addr) (T : List (Addr × Str)) : Sp := fun vs H Q _ => ∃ (p t R E n : Addr) (z : Str) (M k : Nat) (δ' δ : Nat → Str → Nat) (found live mem : List Nat) (rs : List Addr) (zs : List Str), vs = [.ref p, .ref t, .ref n] ∧ LangAt C H p z M δ' found live ∧ MacAt H t z R E rs δ mem ∧ LawOk z M δ' found live rs.length δ mem ∧
  NotesAt H n z k zs ∧ (z.length < 3 → k = 6) ∧ (z.length = 3 → k = 4) ∧ Tabs T H ∧ ∀ H', ExtN H H' → (∀ b, H' b = none → H b = none) → Tabs T H' → Q (.bl true) H'
section
variable {P : Program} {w : World} {K : PySem.W.Frag} {mg : Str → Option Value} {base : Heap}
theorem scMemR : FnScope nMemR ["_law_made", "_law_machine", "_law_notes"] (defScope sMemR) := ⟨rfl, rfl, rfl, by decide +kernel, rfl, by decide +kernel, by decide +kernel⟩
theorem cxF0 {P : Program} {w : World} {outer : List Env} {H : Hp} {s : Shared} {e : Value} {s' : Shared} (c : L2.CX P w outer H s (fun _ _ _ => False) e s') : False := by
  obtain ⟨a, B, H', cls, d, _, _, _, _, _, _, _, hW⟩ := c
  exact hW
theorem passesF0 {X : Cx} : Passes (L2.CX X.prog X.w) X (fun _ _ _ => False) := fun _ _ _ _ _ _ _ c => (cxF0 c).elim
theorem noStop0 {K : PySem.W.Frag} : NoStop K fun _ _ _ => False := fun _ _ _ h => h.elim
theorem ok_memR {T : List (Addr × Str)} {C f fB fM fT pE fE : Addr} {fd fdB fdM fdT fdE : FuncData} {g1 : List Value → List Value → List Value} (F : Fun K "_law_members_right" "_law_members_right" sMemR f fd) (Tc : LgC K C)
    (aB : At K mg "_law_belongs" fB fdB ["_law_machine", "_law_note"] []) (gB : FnOk P w K mg base CX0 1 fB fdB ["_law_machine", "_law_note"] spBelongs)
    (aM : At K mg "members" fM fdM ["language", "most"] []) (gM : GFn P w K mg base 8 fM fdM ["language", "most"] (spMembers C)) (kM : KBn K fdM ["language", "most"] 0 ["most", "language"] g1 (fun vs zs => vs ++ zs.reverse))
    (aT : At K mg "least_text" fT fdT ["language"] []) (gT : FnOk P w K mg base CX0 9 fT fdT ["language"] (spLeastT C T))
    (hE : PropOf K C "is_empty" pE fE) (bE : L2.Binds K fdE ["self"] []) (gE : FnOk P w K mg base CX0 1 fE fdE ["self"] (spEmpty C))
    (zp : mg "repr" = none) (zn : mg "len" = none) (zr : mg "range" = none) (zl : mg "list" = none) :
    FnOk P w K mg base CX0 12 f fd ["_law_made", "_law_machine", "_law_notes"] (spMemR C T) := by
  refine F.ok scMemR (fun vs H Q E h => ?_) (fun cdv A0 outer s H vs Q E hr h => ?_)
  · obtain ⟨p, t, R, E1, n, z, M, k, δ', δ, found, live, mem, rs, zs, rfl, _⟩ := h
    rfl
  · obtain ⟨p, t, R, E1, n, z, M, k, δ', δ, found, live, mem, rs, zs, rfl, LA, MA, LO, NA, k6, k4, hT, kk⟩ := h
    have hu64 := hr.units
    have hr1 := hr.mono (show 1 ≤ 11 by omega)
    have hr2 := hr.mono (show 2 ≤ 11 by omega)
    have hr8 := hr.mono (show 8 ≤ 11 by omega)
    have hr9 := hr.mono (show 9 ≤ 11 by omega)
    refine ⟨_, pss_cons (ps_for PassesOwn.never rfl (pi_range1 (by rfl) zr (pa_cons (pe_ifExp (pt_cmpR op_lt (pe_callB call_len_str (by rfl) zn PySem.boot_len (pa_cons (pe_ix ix_tup (pe_var (i := 1) rfl (.inr (.inl rfl))) pe_int (fun _ _ => rfl)) pa_nil)) pe_int (nomark _)) pe_int pe_int) pa_nil)) (pg_name (i := 3) scMemR.nd rfl (.inr rfl))
        (pss_cons (ps_setLc (i := 4) (own := [("_law_note", 6)]) (g := gName 6) (tt := tAnd (tTest (tOp (rI0 fun i j => V.bl (decide (i ≤ j))) (tCB (fun xs H Q => ∃ z, xs = [V.str z] ∧ z.length ≤ sizeLine ∧ Q (V.int (z.length : Nat)) H) (tCons (tVar 6) tNil)) (tVar 3))) (tB (tCall spBelongs [] (fun _ _ _ => False) (tCons (tVar 1) (tCons (tVar 6) tNil))))) (te := tVar 6) rfl scMemR.nd rfl rfl (sw_true rfl rfl rfl (by decide +kernel)) (pi_list (pv 2)) (blkOk_by (N := nMemR) (sc := defScope sMemR) (by decide +kernel))
            (fun _ _ _ _ _ => pg_name (i := 6) scMemR.nd rfl (Or.inl rfl)) (fun _ _ _ _ _ => pts_one (PW.pt (pw_and (pt_cmpR op_le (pe_callB call_len_str (by rfl) zn PySem.boot_len (pa_cons (pv 6) pa_nil)) (pe_var (i := 3) rfl (.inr (.inl rfl))) (nomark _)) (pw_and1 (pt_val (pe_call (E := fun _ _ _ => False) gB hr1 (by rfl) aB.g aB.kp aB.b .nil pass0 (pa_cons (pe_var (i := 1) rfl (.inr (.inl rfl))) (pa_cons (pv 6) pa_nil)))))))) (fun _ _ _ _ _ => pv 6))
        (pss_one (ps_if (PW.pt (pw_or (pt_cmpR (op_neD hu64) (pe_listG (E := fun _ _ _ => False) (pgen_call gM hr8 (by rfl) aM.g aM.kp aM.b .nil (pa_cons (pv 0) (pa_cons (pe_var (i := 3) rfl (.inr (.inl rfl))) pa_nil))) passesF0 noStop0 hr (by rfl) zl rfl) (pv 4) (nomark _))
          (pw_or1 (pt_cmpR (op_neD hu64) (pe_listG (E := fun _ _ _ => False) (pgen_kw gM hr8 (by rfl) aM.g aM.kp kM (pk_cons (pe_var (i := 3) rfl (.inr (.inl rfl))) (pk_cons (pv 0) pk_nil))) passesF0 noStop0 hr (by rfl) zl rfl) (pv 4) (nomark _))))) pss_dead pss_nil))))
      (pss_cons (ps_setLc (i := 5) (own := [("_law_note", 6)]) (g := gName 6) (tt := tB (tCall spBelongs [] (fun _ _ _ => False) (tCons (tVar 1) (tCons (tVar 6) tNil)))) (te := tVar 6) rfl scMemR.nd rfl rfl (sw_true rfl rfl rfl (by decide +kernel)) (pi_list (pv 2)) (blkOk_by (N := nMemR) (sc := defScope sMemR) (by decide +kernel))
            (fun _ _ _ _ _ => pg_name (i := 6) scMemR.nd rfl (Or.inl rfl)) (fun _ _ _ _ _ => pts_one (pt_val (pe_call (E := fun _ _ _ => False) gB hr1 (by rfl) aB.g aB.kp aB.b .nil pass0 (pa_cons (pe_var (i := 1) rfl (.inr (.inl rfl))) (pa_cons (pv 6) pa_nil))))) (fun _ _ _ _ _ => pv 6))
      (pss_one (ps_ret (pe_and (pe_cmpR op_eq (pe_call (E := fun _ _ _ => False) gT hr9 (by rfl) aT.g aT.kp aT.b .nil pass0 (pa_cons (pv 0) pa_nil)) (pe_ix ix_list (pe_op op_cat (pv 5) (pe_lst (pa_cons pe_non pa_nil))) pe_int (fun _ _ => rfl)) (nomark _))
        (pe_one (pe_cmpR op_eq (pe_callB call_reprB (by rfl) zp (by decide +kernel) (pa_cons (pe_prop (pv 0) Tc.cl hE gE hr2 bE .nil pass0 rfl) pa_nil)) (pe_callB call_reprB (by rfl) zp (by decide +kernel) (pa_cons (pe_cmpR (op_eqD hu64) (pv 5) (pe_lst pa_nil) (nomark _)) pa_nil)) (nomark _))))))), ?_⟩
    have LAx : ∀ {H' : Hp}, Ext H H' → LangAt C H' p z M δ' found live := fun x => LA.extN (ExtN.of x)
    have MAx : ∀ {H' : Hp}, Ext H H' → MacAt H' t z R E1 rs δ mem := fun x => ⟨x _ _ MA.t, x _ _ MA.r, fun i r e => x _ _ (MA.rows i r e), x _ _ MA.e⟩
    have z1 := LO.sg.pos
    have z3 := LO.l3
    have m5 := LO.m5
    have zl1 := NA.len
    have hk6 := NA.k
    have hkM : M ≤ k + 1 := by
      by_cases c : z.length < 3
      · have := k6 c
        omega
      · have := k4 (by omega)
        omega
    have zsz : z.cps.size = z.length := rfl
    have pw : ∀ i, i < k → z.cps.size ^ i ≤ 1000 := fun i hi => by
      refine Nat.le_trans (Nat.pow_le_pow_left (show z.cps.size ≤ 3 by omega) i) (Nat.le_trans (Nat.pow_le_pow_right (by decide) (show i ≤ 6 by omega)) (by decide))
    have wd : ∀ (l : List Str), (∀ y ∈ l, y ∈ zs) → ∀ y ∈ l, isWordS y = true := fun l hl y hy => by
      have h := word_of LO.sg.word (NA.word (hl y hy)).1
      unfold wordOf at h
      rw [Bool.and_eq_true] at h
      exact h.1
    refine ⟨_, rfl, t, _, 0, _, rfl, rfl, SqT.of MA.t, rfl, z, rfl, small_size (by omega), _, _, rfl, rfl, _, rfl, ?_⟩
    by_cases c : z.length < 3
    case' pos =>
      have ek : V.int 6 = V.int (k : Nat) := by rw [k6 c]; rfl
      rw [decide_eq_true (show ((z.length : Nat) : Int) < 3 by omega)]
      refine iteT ?_
      rw [ek]
    case' neg =>
      have ek : V.int 4 = V.int (k : Nat) := by rw [k4 (by omega)]; rfl
      rw [decide_eq_false (show ¬ ((z.length : Nat) : Int) < 3 by omega)]
      refine iteF ?_
      rw [ek]
    all_goals
      refine ⟨(k : Int), rfl, by omega, by omega, ?_⟩
      rw [show ((k : Int)).toNat = k by omega]
      refine for_it (walk_range (lo := 0) (n := k)) (fun i σ H' => ∃ v3 v4, σ = [some (.ref p), some (.ref t), some (.ref n), v3, v4, none, none] ∧ Ext H H') ⟨none, none, rfl, fun _ _ e => e⟩ (fun _ _ _ _ _ => trivial) ?_ ?_
      · rintro i v σ H2 H3 hi ⟨v3, v4, rfl, x3⟩ ⟨rfl, ev⟩
        obtain rfl : v = V.int (i : Nat) := ev.trans (by show V.int (0 + (i : Nat)) = _; rw [Int.zero_add])
        refine ⟨_, rfl, n, rfl, ⟨_, SqL.of (x3 _ _ NA.at_)⟩, fun D nD => ?_⟩
        refine lc_it (walk_list (xs := zs.map V.str)) (fun j H' => Ext H3 H' ∧ H' D = some (.lst (((zs.take j).filter (dueP δ mem i)).map V.str))) ⟨Ext.new nD, upd_same⟩ (fun j H' _ h => SqL.of (h.1 _ _ (x3 _ _ NA.at_))) ?_ ?_
        · rintro j x H4 H5 hj ⟨x5, hD⟩ ⟨rfl, hx⟩
          obtain ⟨y, hy, rfl⟩ := at_map hx
          obtain ⟨yz, y6⟩ := NA.word (List.mem_of_getElem? hy)
          have en : (zs.take (j + 1)).filter (dueP δ mem i) = (zs.take j).filter (dueP δ mem i) ++ if dueP δ mem i y = true then [y] else [] := by
            rw [take_more hy, List.filter_append, List.filter_cons, List.filter_nil]
          have lf : ((zs.take j).filter (dueP δ mem i)).length ≤ 1000 := Nat.le_trans (List.length_filter_le _ _) (Nat.le_trans (List.length_take_le' _ _) zl1)
          have x35 := x3.trans x5
          refine ⟨rfl, _, rfl, y, rfl, small_size (by omega), _, rfl, _, _, rfl, rfl, _, rfl, ?_⟩
          cases h1 : decide (y.length ≤ i) with
          | false =>
            have h1' := of_decide_eq_false h1
            rw [decide_eq_false (show ¬ ((y.length : Nat) : Int) ≤ (i : Int) by omega)]
            have hd : dueP δ mem i y = false := by
              unfold dueP
              rw [h1, Bool.false_and]
            rw [hd, if_neg Bool.false_ne_true, List.append_nil] at en
            refine ⟨x5, ?_⟩
            rw [en]
            exact hD
          | true =>
            have h1' := of_decide_eq_true h1
            rw [decide_eq_true (show ((y.length : Nat) : Int) ≤ (i : Int) by omega)]
            refine iteT ⟨_, rfl, _, rfl, t, y, z, R, E1, rs, δ, mem, 5, rfl, MAx x35, LO.mac, yz, _, rfl, ?_⟩
            have hd : dueP δ mem i y = decide (run δ 0 (sgL y) ∈ mem) := by
              unfold dueP
              rw [h1, Bool.true_and]
            rw [hd] at en
            cases h2 : decide (run δ 0 (sgL y) ∈ mem) with
            | false =>
              rw [h2, if_neg Bool.false_ne_true, List.append_nil] at en
              refine iteF ⟨x5, ?_⟩
              rw [en]
              exact hD
            | true =>
              rw [h2, if_pos rfl] at en
              refine iteT ⟨_, rfl, _, hD, by rw [List.length_map]; exact small_l (by omega), fun a o e => ?_, ?_⟩
              · rw [upd_ne (ne_of_none e nD)]
                exact x5 _ _ e
              · rw [upd_same, en, List.map_append]
                rfl
        · rintro H4 ⟨x4, hD⟩
          rw [List.length_map, List.take_length] at hD
          have x34 := x3.trans x4
          have em := due_mems LO NA (show i ≤ k by omega)
          obtain ⟨sh1, sh2⟩ := strs_shaped (wd (zs.filter (dueP δ mem i)) fun y hy => (List.mem_filter.mp hy).1)
          refine ⟨_, rfl, _, rfl, p, i, z, M, δ', found, live, rfl, LAx x34, LO.lt, by omega, pw i hi, by omega, fun H5 x5 => fun q nq => ?_⟩
          rw [em]
          have hq : (upd H5 q (.lst ((zs.filter (dueP δ mem i)).map V.str))) q = some (.lst ((zs.filter (dueP δ mem i)).map V.str)) := upd_same
          have xq := Ext.new nq (o := .lst ((zs.filter (dueP δ mem i)).map V.str))
          generalize upd H5 q (.lst ((zs.filter (dueP δ mem i)).map V.str)) = H6 at hq xq ⊢
          have x46 := x5.trans xq
          have hD6 := x46 _ _ hD
          refine ⟨_, rfl, strsD (zs.filter (dueP δ mem i)), strsD (zs.filter (dueP δ mem i)), .lst (SqL.of hq) (strs_dp _), .lst (SqL.of hD6) (strs_dp _), sh1, sh1, ?_⟩
          rw [sh2]
          refine ⟨false, rfl, iteF ?_⟩
          have x36 := x34.trans x46
          refine ⟨_, rfl, _, rfl, rfl, p, i, z, M, δ', found, live, rfl, LAx x36, LO.lt, by omega, pw i hi, by omega, fun H7 x7 => fun q2 nq2 => ?_⟩
          rw [em]
          have hq2 : (upd H7 q2 (.lst ((zs.filter (dueP δ mem i)).map V.str))) q2 = some (.lst ((zs.filter (dueP δ mem i)).map V.str)) := upd_same
          have xq2 := Ext.new nq2 (o := .lst ((zs.filter (dueP δ mem i)).map V.str))
          generalize upd H7 q2 (.lst ((zs.filter (dueP δ mem i)).map V.str)) = H8 at hq2 xq2 ⊢
          have x68 := x7.trans xq2
          refine ⟨_, rfl, strsD (zs.filter (dueP δ mem i)), strsD (zs.filter (dueP δ mem i)), .lst (SqL.of hq2) (strs_dp _), .lst (SqL.of (x68 _ _ hD6)) (strs_dp _), sh1, sh1, ?_⟩
          rw [sh2]
          refine ⟨false, rfl, iteF ?_⟩
          exact ⟨_, _, rfl, x36.trans x68⟩
      · rintro σ H2 ⟨v3, v4, rfl, x2⟩
        refine ⟨_, rfl, n, rfl, ⟨_, SqL.of (x2 _ _ NA.at_)⟩, fun D nD => ?_⟩
        refine lc_it (walk_list (xs := zs.map V.str)) (fun j H' => Ext H2 H' ∧ H' D = some (.lst (((zs.take j).filter (memP δ mem)).map V.str))) ⟨Ext.new nD, upd_same⟩ (fun j H' _ h => SqL.of (h.1 _ _ (x2 _ _ NA.at_))) ?_ ?_
        · rintro j x H4 H5 hj ⟨x5, hD⟩ ⟨rfl, hx⟩
          obtain ⟨y, hy, rfl⟩ := at_map hx
          obtain ⟨yz, y6⟩ := NA.word (List.mem_of_getElem? hy)
          have en : (zs.take (j + 1)).filter (memP δ mem) = (zs.take j).filter (memP δ mem) ++ if memP δ mem y = true then [y] else [] := by
            rw [take_more hy, List.filter_append, List.filter_cons, List.filter_nil]
          have lf : ((zs.take j).filter (memP δ mem)).length ≤ 1000 := Nat.le_trans (List.length_filter_le _ _) (Nat.le_trans (List.length_take_le' _ _) zl1)
          have x25 := x2.trans x5
          refine ⟨rfl, _, rfl, _, rfl, t, y, z, R, E1, rs, δ, mem, 5, rfl, MAx x25, LO.mac, yz, _, rfl, ?_⟩
          have hd : memP δ mem y = decide (run δ 0 (sgL y) ∈ mem) := rfl
          rw [hd] at en
          cases h2 : decide (run δ 0 (sgL y) ∈ mem) with
          | false =>
            rw [h2, if_neg Bool.false_ne_true, List.append_nil] at en
            refine iteF ⟨x5, ?_⟩
            rw [en]
            exact hD
          | true =>
            rw [h2, if_pos rfl] at en
            refine iteT ⟨_, rfl, _, hD, by rw [List.length_map]; exact small_l (by omega), fun a o e => ?_, ?_⟩
            · rw [upd_ne (ne_of_none e nD)]
              exact x5 _ _ e
            · rw [upd_same, en, List.map_append]
              rfl
        · rintro H4 ⟨x4, hD⟩
          rw [List.length_map, List.take_length] at hD
          have x24 := x2.trans x4
          have mw := memP_words LO NA
          have ndz := LO.sg.nd
          have hlt : ∀ n, n < M → ∀ e ∈ gOf (sgL z) δ' n, e.2 < M := fun n hn e he => by
            obtain ⟨c, hc, rfl⟩ := List.mem_map.mp he
            exact LO.lt.lt n hn c hc
          have hh := search_head (m := fun n => decide (n ∈ found)) ndz hlt LO.lt.pos hkM
          rw [← mw] at hh
          obtain ⟨sh1, sh2⟩ := strs_shaped (wd (zs.filter (memP δ mem)) fun y hy => (List.mem_filter.mp hy).1)
          obtain ⟨sh3, _⟩ := strs_shaped (l := []) (fun _ h => nomatch h)
          have emp : (!decide (0 ∈ live)) = decide (zs.filter (memP δ mem) = []) := by
            have key : 0 ∈ live ↔ zs.filter (memP δ mem) ≠ [] := by
              rw [LO.lv 0 LO.lt.pos, leads_run]
              constructor
              · rintro ⟨v, hv, hm⟩ hF
                obtain ⟨v', l', hv', hm'⟩ := short_leads (mem := found) LO.lt.lt LO.lt.pos v hv hm
                have hin : v' ∈ (zs.filter (memP δ mem)).map sgL := by
                  rw [mw]
                  exact List.mem_filter.mpr ⟨allW_mem.mpr ⟨by omega, hv'⟩, decide_eq_true hm'⟩
                rw [hF] at hin
                exact nomatch hin
              · intro hF
                obtain ⟨y, hy⟩ := List.exists_mem_of_ne_nil _ hF
                have hin : sgL y ∈ (zs.filter (memP δ mem)).map sgL := List.mem_map.mpr ⟨y, hy, rfl⟩
                rw [mw] at hin
                obtain ⟨h1, h2⟩ := List.mem_filter.mp hin
                exact ⟨sgL y, (allW_mem.mp h1).2, of_decide_eq_true h2⟩
            by_cases h : 0 ∈ live
            · rw [decide_eq_true h, decide_eq_false (key.mp h)]
              rfl
            · rw [decide_eq_false h, decide_eq_true (Classical.byContradiction fun q => h (key.mpr q))]
              rfl
          have lF : (zs.filter (memP δ mem)).length ≤ 1000 := Nat.le_trans (List.length_filter_le _ _) zl1
          generalize zs.filter (memP δ mem) = Fs at hD mw hh sh1 sh2 emp lF ⊢
          refine ⟨_, rfl, p, z, M, δ', found, live, rfl, LAx x24, LO.lt, hT.ext x24, fun H5 x5 nn5 T5 => ?_⟩
          have hD5 := x5 _ _ hD (fun _ h => nomatch h)
          have fin : ∀ {u : V}, scal u ((Fs.map V.str ++ [V.non]).getD 0 .non) = true → u = (Fs.map V.str ++ [V.non]).getD 0 .non → tOp rEq (fun σ H Q => Q u H)
              (tOp (rIxL K) (tOp rCat (tVar 5) (tLst (tCons (tC .non) tNil))) (tC (V.int 0))) [some (.ref p), some (.ref t), some (.ref n), v3, v4, some (.ref D), none] H5 fun v H' => ∃ c, v = .bl c ∧ if c = true then tOp rEq (tCB rReprB (tCons (tProp C (spEmpty C) [] E0 (tVar 0)) tNil))
                (tCB rReprB (tCons (tOp (rEqD K) (tVar 5) (tLst tNil)) tNil)) [some (.ref p), some (.ref t), some (.ref n), v3, v4, some (.ref D), none] H' Q else Q (.bl false) H' := by
            intro u su eu
            refine ⟨_, rfl, by show 1 ≤ sizeLine; decide, fun q nq => ?_⟩
            have xq := Ext.new nq (o := .lst [V.non])
            have hq : (upd H5 q (.lst [V.non])) q = some (.lst [V.non]) := upd_same
            generalize upd H5 q (.lst [V.non]) = H6 at xq hq ⊢
            have hD6 := xq _ _ hD5
            refine ⟨D, q, _, _, rfl, rfl, hD6, hq, big_size (by rw [List.length_map]; show _ + 1 ≤ _; omega), fun q2 nq2 => ?_⟩
            have xq2 := Ext.new nq2 (o := .lst (Fs.map V.str ++ [V.non]))
            have hq2 : (upd H6 q2 (.lst (Fs.map V.str ++ [V.non]))) q2 = some (.lst (Fs.map V.str ++ [V.non])) := upd_same
            generalize upd H6 q2 (.lst (Fs.map V.str ++ [V.non])) = H7 at xq2 hq2 ⊢
            have e0 : (Fs.map V.str ++ [V.non])[0]? = some ((Fs.map V.str ++ [V.non]).getD 0 .non) := by
              rw [List.getD_eq_getElem?_getD]
              cases Fs <;> rfl
            refine ⟨q2, _, _, _, rfl, rfl, SqL.of hq2, atI_nat (j := 0) e0, su, ?_⟩
            rw [decide_eq_true eu]
            refine ⟨_, rfl, iteT ?_⟩
            have x47 := xq.trans xq2
            have x7 : ExtN H4 H7 := x5.trans (ExtN.of x47)
            have la7 := (LAx x24).extN x7
            obtain ⟨dx, fs, i7, no7⟩ := la7.no "is_empty" (by decide)
            refine ⟨_, rfl, p, dx, fs, rfl, i7, p, z, M, δ', found, live, rfl, la7, _, rfl, ?_⟩
            refine ⟨_, rfl, by show 0 ≤ sizeLine; decide, fun q3 nq3 => ?_⟩
            have xq3 := Ext.new nq3 (o := .lst [])
            have hq3 : (upd H7 q3 (.lst [])) q3 = some (.lst (([] : List Str).map V.str)) := upd_same
            generalize upd H7 q3 (.lst []) = H8 at xq3 hq3 ⊢
            refine ⟨strsD Fs, strsD [], .lst (SqL.of (xq3 _ _ (xq2 _ _ hD6))) (strs_dp _), .lst (SqL.of hq3) (strs_dp []), sh1, sh3, _, rfl, ?_⟩
            rw [strs_nil, emp]
            refine ⟨by cases decide (Fs = []) <;> rfl, ?_⟩
            rw [decide_eq_true rfl]
            have x8 : ExtN H H8 := (ExtN.of x24).trans (x7.trans (ExtN.of xq3))
            exact kk _ x8 (fun b e => x24.free (nn5 b (x47.free (xq3.free e)))) ((T5.ext x47).ext xq3)
          cases er : (searchW (gOf (sgL z) δ') (fun n => decide (n ∈ found)) M 0).2 with
          | none =>
            rw [er] at hh
            have hF : Fs = [] := by
              cases Fs with
              | nil => rfl
              | cons y l => cases hh
            exact fin (u := .non) (by rw [hF]; rfl) (by rw [hF]; rfl)
          | some x =>
            rw [er] at hh
            obtain ⟨y, l, hF, ey⟩ : ∃ y l, Fs = y :: l ∧ sgL y = x.2 := by
              cases Fs with
              | nil => cases hh
              | cons y l => exact ⟨y, l, rfl, Option.some.inj hh⟩
            exact fin (u := .str (Txt.join "" x.2)) (by rw [hF]; rfl) (by rw [hF, txt_of ey]; rfl)
end
end Sl
/-! ## A13 -/
set_option Elab.async false
set_option linter.all false
set_option maxRecDepth 100000
set_option maxHeartbeats 4000000
set_option pp.maxSteps 900
set_option pp.deepTerms false
/-! _law_values_right: what is in no language, a sign that leads nowhere -/
namespace Sl
open PySem PySem.Spec PyProof.Rows L2 TxS LamX NdefX
abbrev sValsR : Stmt := top 58
abbrev nValsR : List Str := ["_law_made", "_law_abc", "_law_other", "_law_some", "_law_letter", "_law_one", "_law_spot_here"]
/-- no word of the signs, and stays so -/
inductive Strange (z : Str) (H : Hp) : V → Prop
  | tx {y : Str} : y.length ≤ 1000 → wordOf z y = false → Strange z H (.str y)
  | non : Strange z H .non
  | int (i : Int) : Strange z H (.int i)
  | bl (b : Bool) : Strange z H (.bl b)
  | lst {a : Addr} {xs : List V} : H a = some (.lst xs) → Strange z H (.ref a)
  | tup {a : Addr} {xs : List V} : H a = some (.tup xs) → Strange z H (.ref a)
  | dct {a : Addr} {kvs : List (Key × V)} : H a = some (.dK kvs) → Strange z H (.ref a)
theorem Strange.ext {z : Str} {H H' : Hp} (x : Ext H H') {v : V} (h : Strange z H v) : Strange z H' v := by
  cases h with
  | tx h1 h2 => exact .tx h1 h2
  | non => exact .non
  | int i => exact .int i
  | bl b => exact .bl b
  | lst h => exact .lst (x _ _ h)
  | tup h => exact .tup (x _ _ h)
  | dct h => exact .dct (x _ _ h)
theorem Strange.odd {K : PySem.W.Frag} {z : Str} {H : Hp} {v : V} (h : Strange z H v) : OddV K H z v := by
  cases h with
  | tx h1 h2 => exact .inl ⟨_, rfl, h1, h2⟩
  | non => exact .inr ⟨.non, .base .non, fun z => by cases z⟩
  | int i => exact .inr ⟨.int, .base (.int _), fun z => by cases z⟩
  | bl b => exact .inr ⟨.bl, .base (.bl _), fun z => by cases z⟩
  | lst h => exact .inr ⟨.lst, .base (.lst h), fun z => by cases z⟩
  | tup h => exact .inr ⟨.tup, .base (.tup h), fun z => by cases z⟩
  | dct h => exact .inr ⟨.dct, .base (.dK h), fun z => by cases z⟩
def spValsR (C : Addr) : Sp := fun vs H Q _ => ∃ (p : Addr) (z : Str) (M : Nat) (δ : Nat → Str → Nat) (found live : List Nat), vs = [.ref p, .str z] ∧ LangAt C H p z M δ found live ∧ SgOk z ∧ LgLt z M δ ∧ M ≤ 5 ∧ ∀ H', Ext H H' → Q (.bl true) H'
section
variable {P : Program} {w : World} {K : PySem.W.Frag} {mg : Str → Option Value} {base : Heap}
theorem scValsR : FnScope nValsR ["_law_made", "_law_abc"] (defScope sValsR) := ⟨rfl, rfl, rfl, by decide +kernel, rfl, by decide +kernel, by decide +kernel⟩
theorem ok_valsR {C f fLen fMv fHas pG fG : Addr} {fd fdLen fdMv fdHas fdG : FuncData} (F : Fun K "_law_values_right" "_law_values_right" sValsR f fd) (Tc : LgC K C)
    (mLen : L2.Meth K C "__len__" fLen) (bLen : L2.Binds K fdLen ["self"] []) (gLen : FnOk P w K mg base CX0 1 fLen fdLen ["self"] (spLenL C))
    (mMv : L2.Meth K C "move" fMv) (bMv : L2.Binds K fdMv ["self", "state", "sign"] []) (gMv : FnOk P w K mg base CX0 4 fMv fdMv ["self", "state", "sign"] (spMoveL C))
    (mHas : L2.Meth K C "__contains__" fHas) (bHas : L2.Binds K fdHas ["self", "value"] []) (gHas : FnOk P w K mg base CX0 3 fHas fdHas ["self", "value"] (spHasL K C))
    (hG : PropOf K C "signs" pG fG) (bG : L2.Binds K fdG ["self"] []) (gG : FnOk P w K mg base CX0 1 fG fdG ["self"] (spSigns C))
    (zy : mg "any" = none) (za : mg "all" = none) (zn : mg "len" = none) (zr : mg "range" = none) :
    FnOk P w K mg base CX0 5 f fd ["_law_made", "_law_abc"] (spValsR C) := by
  refine F.ok scValsR (fun vs H Q E h => ?_) (fun cdv A0 outer s H vs Q E hr h => ?_)
  · obtain ⟨p, z, M, δ, found, live, rfl, _⟩ := h
    rfl
  · obtain ⟨p, z, M, δ, found, live, rfl, LA, sg, lt, m5, kk⟩ := h
    have hr2 := hr.mono (show 2 ≤ 4 by omega)
    have hr3 := hr.mono (show 3 ≤ 4 by omega)
    refine ⟨_, pss_cons (ps_set (i := 2) scValsR.nd rfl (.inr rfl) (pe_ix ix_list (pe_lc (own := [("_law_letter", 4)]) (g := gName 4) (tt := tTest (tOp rNotInS (tVar 4) (tVar 1))) (te := tVar 4) rfl scValsR.nd (pi_str pe_str) (blkOk_by (N := nValsR) (sc := defScope sValsR) (by decide +kernel))
          (fun _ _ _ _ _ => pg_name (i := 4) scValsR.nd rfl (Or.inl rfl)) (fun _ _ _ _ _ => pts_one (pt_cmpR op_notInS (pv 4) (pe_var (i := 1) rfl (.inr (.inl rfl))) (by rfl))) (fun _ _ _ _ _ => pv 4)) pe_int (fun _ _ => rfl)))
      (pss_cons (ps_set (i := 3) scValsR.nd rfl (.inl rfl) (pe_lst (pa_cons pe_non (pa_cons pe_int (pa_cons pe_bl (pa_cons pe_int (pa_cons pe_str (pa_cons pe_str (pa_cons (pe_var (i := 2) rfl (.inr (.inl rfl))) (pa_cons (pe_op op_add_str (pe_var (i := 1) rfl (.inr (.inl rfl))) (pe_var (i := 2) rfl (.inr (.inl rfl))))
          (pa_cons (pe_lst (pa_cons pe_str pa_nil)) (pa_cons (pe_tup pa_nil) (pa_cons (pe_tup (pa_cons pe_str pa_nil)) (pa_cons (pe_lst pa_nil) (pa_cons pe_dnewK (pa_cons pe_str pa_nil))))))))))))))))
      (pss_cons (ps_if (pt_val (pe_callB (cr_any rfl) (by rfl) zy (by decide +kernel) (pa_cons (pe_lc (own := [("_law_one", 5)]) (g := gName 5) (tt := tYes) (te := tOp (rInO C (spHasL K C)) (tVar 5) (tVar 0)) rfl scValsR.nd (pi_list (pv 3)) (blkOk_by (N := nValsR) (sc := defScope sValsR) (by decide +kernel))
          (fun _ _ _ _ _ => pg_name (i := 5) scValsR.nd rfl (Or.inl rfl)) (fun _ _ _ _ _ => pts_nil) (fun _ _ _ _ _ => pe_cmpR (op_inO mHas gHas hr3 bHas) (pv 5) (pe_var (i := 0) rfl (.inr (.inl rfl))) (by rfl))) pa_nil))) pss_dead pss_nil)
      (pss_one (ps_ret (pe_and (pe_callB (cr_all rfl) (by rfl) za (by decide +kernel) (pa_cons (pe_lc (own := [("_law_spot_here", 6)]) (g := gName 6) (tt := tYes) (te := tIsN (tMeth C "move" (spMoveL C) [] (fun _ _ _ => False) (tVar 0) (tCons (tVar 6) (tCons (tVar 2) tNil)))) rfl scValsR.nd
          (pi_range1 (by rfl) zr (pa_cons (pe_callB (call_lenO mLen gLen hr2 bLen) (by rfl) zn PySem.boot_len (pa_cons (pe_var (i := 0) rfl (.inr (.inl rfl))) pa_nil)) pa_nil)) (blkOk_by (N := nValsR) (sc := defScope sValsR) (by decide +kernel))
          (fun _ _ _ _ _ => pg_name (i := 6) scValsR.nd rfl (Or.inl rfl)) (fun _ _ _ _ _ => pts_nil) (fun _ _ _ _ _ => pe_cmp (pc_isN (pe_meth (E := fun _ _ _ => False) (pe_var (i := 0) rfl (.inr (.inl rfl))) Tc.cl mMv gMv hr bMv .nil pass0 (pa_cons (pv 6) (pa_cons (pe_var (i := 2) rfl (.inr (.inl rfl))) pa_nil)))))) pa_nil))
        (pe_one (pe_cmpR op_eq (pe_prop (pe_var (i := 0) rfl (.inr (.inl rfl))) Tc.cl hG gG hr2 bG .nil pass0 rfl) (pe_var (i := 1) rfl (.inr (.inl rfl))) (nomark _)))))))), ?_⟩
    have zlen : z.cps.size = z.length := rfl
    have z1 := sg.pos
    have z4 := sg.le
    have LAx : ∀ {H' : Hp}, Ext H H' → LangAt C H' p z M δ found live := fun x => LA.extN (ExtN.of x)
    obtain ⟨dxp, fsp, _, _, _, _, hp, _⟩ := LA.ex
    refine ⟨_, rfl, fun D nD => ?_⟩
    refine lc_it (walk_str (z := Str.ofString "abcdefghijklmnopqrstuvwxyz")) (fun i H' => Ext H H' ∧ H' D = some (.lst (((abc.cps.toList.take i).filter fun c => !decide (c ∈ z.cps.toList)).map fun c => V.str ⟨#[c]⟩))) ⟨Ext.new nD, upd_same⟩ (fun _ _ _ _ => trivial) ?_ ?_
    · rintro i v H6 H7 hi ⟨x6, hD⟩ ⟨rfl, c, hc, rfl⟩
      have hc' : abc.cps.toList[i]? = some c := by rw [Array.getElem?_toList]; exact hc
      refine ⟨rfl, ?_⟩
      refine ⟨_, rfl, _, rfl, c, z, rfl, rfl, _, rfl, ?_⟩
      have lf : ((abc.cps.toList.take i).filter fun c => !decide (c ∈ z.cps.toList)).length ≤ 26 := by
        refine Nat.le_trans (List.length_filter_le _ _) ?_
        rw [List.length_take]
        have : abc.cps.toList.length = 26 := by decide +kernel
        omega
      by_cases m : c ∈ z.cps.toList
      · rw [decide_eq_true m]
        dsimp only
        rw [if_neg (show ¬ ((!true) = true) by decide)]
        refine ⟨x6, ?_⟩
        rw [take_more hc', List.filter_append]
        simp only [List.filter_cons, List.filter_nil, decide_eq_true m]
        simpa using hD
      · rw [decide_eq_false m]
        dsimp only
        rw [if_pos (show (!false) = true by rfl)]
        refine ⟨_, rfl, _, hD, by rw [List.length_map]; exact small1000 (by omega), fun b o e => ?_, ?_⟩
        · rw [upd_ne (ne_of_none e nD)]
          exact x6 _ _ e
        · rw [upd_same, take_more hc', List.filter_append, List.map_append]
          simp only [List.filter_cons, List.filter_nil, decide_eq_false m]
          rfl
    rintro H1 ⟨x1, hD⟩
    have e26 : (Str.ofString "abcdefghijklmnopqrstuvwxyz").cps.size = abc.cps.toList.length := by decide +kernel
    rw [e26, List.take_length] at hD
    obtain ⟨c1, rest, ef⟩ : ∃ c1 rest, (abc.cps.toList.filter fun c => !decide (c ∈ z.cps.toList)) = c1 :: rest := by
      cases e : abc.cps.toList.filter fun c => !decide (c ∈ z.cps.toList) with
      | cons c r => exact ⟨c, r, rfl⟩
      | nil =>
        exfalso
        have nd : abc.cps.toList.Nodup := by decide +kernel
        have q := List.Nodup.length_le_of_subset nd (l₂ := z.cps.toList) fun c hc => by
          by_cases m : c ∈ z.cps.toList
          · exact m
          · have : c ∈ abc.cps.toList.filter fun c => !decide (c ∈ z.cps.toList) := List.mem_filter.mpr ⟨hc, by rw [decide_eq_false m]; rfl⟩
            rw [e] at this
            cases this
        have l26 : abc.cps.toList.length = 26 := by decide +kernel
        rw [l26, Array.length_toList] at q
        omega
    have c1n : c1 ∉ z.cps.toList := by
      have : c1 ∈ abc.cps.toList.filter fun c => !decide (c ∈ z.cps.toList) := by
        rw [ef]
        exact List.mem_cons_self
      have := (List.mem_filter.mp this).2
      intro m
      rw [decide_eq_true m] at this
      cases this
    rw [ef] at hD
    refine ⟨_, _, 0, _, rfl, rfl, SqL.of hD, atI_nat (j := 0) rfl, ?_⟩
    have sz0 : (0 : Nat) ≤ sizeLine := Nat.zero_le _
    have sz1 : (1 : Nat) ≤ sizeLine := by decide
    have lc1 : (⟨#[c1]⟩ : Str).length = 1 := rfl
    refine ⟨_, rfl, _, rfl, _, rfl, _, _, rfl, rfl, small_size (by rw [lc1]; omega), ?_⟩
    refine ⟨sz1, fun l1 n1 => ?_⟩
    refine ⟨sz0, fun t1 n2 => ⟨sz1, fun t2 n3 => ⟨sz0, fun l2 n4 => fun d1 n5 => ⟨by show 14 ≤ sizeLine; decide, fun Z nZ => ?_⟩⟩⟩⟩
    have y1 := Ext.new n1 (o := .lst [V.str (Str.ofString "a")])
    have y2 := Ext.new n2 (o := .tup [])
    have y3 := Ext.new n3 (o := .tup [V.str (Str.ofString "a")])
    have y4 := Ext.new n4 (o := .lst [])
    have y5 := Ext.new n5 (o := .dK [])
    have w0 : ∀ {y : Str}, isWordS y = false → wordOf z y = false := fun {y} e => by
      unfold wordOf
      rw [e, Bool.false_and]
    have w1 : ∀ {y : Str}, c1 ∈ y.cps.toList → wordOf z y = false := fun {y} hy => by
      rw [Bool.eq_false_iff]
      intro e
      unfold wordOf at e
      rw [Bool.and_eq_true, List.all_eq_true] at e
      exact c1n (of_decide_eq_true (e.2 c1 hy))
    have st : ∀ v ∈ ([V.non, V.int 5, V.bl true, V.int 0, V.str (Str.ofString "A"), V.str (Str.ofString " "), V.str ⟨#[c1]⟩, V.str (z ++ ⟨#[c1]⟩), V.ref l1, V.ref t1, V.ref t2, V.ref l2, V.ref d1, V.str (Str.ofString "1")] : List V),
        Strange z (upd (upd (upd (upd (upd H1 l1 (.lst [V.str (Str.ofString "a")])) t1 (.tup [])) t2 (.tup [V.str (Str.ofString "a")])) l2 (.lst [])) d1 (.dK [])) v := by
      intro v hv
      simp only [List.mem_cons, List.not_mem_nil, or_false] at hv
      rcases hv with rfl | rfl | rfl | rfl | rfl | rfl | rfl | rfl | rfl | rfl | rfl | rfl | rfl | rfl
      · exact .non
      · exact .int _
      · exact .bl _
      · exact .int _
      · exact .tx (by decide) (w0 (by decide +kernel))
      · exact .tx (by decide) (w0 (by decide +kernel))
      · exact .tx (by rw [lc1]; omega) (w1 (List.mem_singleton.mpr rfl))
      · refine .tx (by show (z.cps ++ #[c1]).size ≤ 1000; rw [Array.size_append]; show z.cps.size + 1 ≤ 1000; omega) (w1 ?_)
        show c1 ∈ (z.cps ++ #[c1]).toList
        rw [Array.toList_append, List.mem_append]
        exact .inr (List.mem_singleton.mpr rfl)
      · exact .lst ((y2.trans (y3.trans (y4.trans y5))) _ _ upd_same)
      · exact .tup ((y3.trans (y4.trans y5)) _ _ upd_same)
      · exact .tup ((y4.trans y5) _ _ upd_same)
      · exact .lst (y5 _ _ upd_same)
      · exact .dct upd_same
      · exact .tx (by decide) (w0 (by decide +kernel))
    have x5 := x1.trans (y1.trans (y2.trans (y3.trans (y4.trans y5))))
    generalize upd (upd (upd (upd (upd H1 l1 (.lst [V.str (Str.ofString "a")])) t1 (.tup [])) t2 (.tup [V.str (Str.ofString "a")])) l2 (.lst [])) d1 (.dK []) = H5 at st x5 nZ ⊢
    have len14 : ([V.non, V.int 5, V.bl true, V.int 0, V.str (Str.ofString "A"), V.str (Str.ofString " "), V.str ⟨#[c1]⟩, V.str (z ++ ⟨#[c1]⟩), V.ref l1, V.ref t1, V.ref t2, V.ref l2, V.ref d1, V.str (Str.ofString "1")] : List V).length = 14 := rfl
    dsimp only at st len14 ⊢
    generalize ([V.non, V.int 5, V.bl true, V.int 0, V.str (Str.ofString "A"), V.str (Str.ofString " "), V.str ⟨#[c1]⟩, V.str (z ++ ⟨#[c1]⟩), V.ref l1, V.ref t1, V.ref t2, V.ref l2, V.ref d1, V.str (Str.ofString "1")] : List V) = made at st len14 ⊢
    have xZ := Ext.new nZ (o := .lst made)
    have hZ : (upd H5 Z (.lst made)) Z = some (.lst made) := upd_same
    have x6 := x5.trans xZ
    generalize upd H5 Z (.lst made) = H6 at xZ hZ x6 ⊢
    refine ⟨_, rfl, Z, rfl, ⟨_, SqL.of hZ⟩, fun D2 nD2 => ?_⟩
    refine lc_it (walk_list (xs := made)) (fun j H' => Ext H6 H' ∧ H' D2 = some (.lst ((List.replicate j false).map V.bl))) ⟨Ext.new nD2, upd_same⟩ (fun j H' _ h => SqL.of (h.1 _ _ hZ)) ?_ ?_
    · rintro j x H7 H8 hj ⟨x8, hD8⟩ ⟨rfl, hx⟩
      have jl : j < 14 := by
        have := (List.getElem?_eq_some_iff.mp hx).1
        omega
      have sx := (st x (List.mem_of_getElem? hx)).ext (xZ.trans x8)
      have en : (List.replicate (j + 1) false).map V.bl = (List.replicate j false).map V.bl ++ [V.bl false] := by
        rw [List.replicate_succ', List.map_append]
        rfl
      refine ⟨rfl, ?_⟩
      refine ⟨_, rfl, _, rfl, p, dxp, fsp, rfl, x8 _ _ (x6 _ _ hp), p, x, z, M, δ, found, live, rfl, LAx (x6.trans x8), lt.pos, lt.lt, ?_⟩
      rcases sx.odd (K := K) with ⟨y, rfl, y1, y2⟩ | h
      · refine .inl ⟨y, rfl, y1, fun H9 x9 => ⟨_, rfl, _, x9 _ _ hD8, by rw [List.length_map, List.length_replicate]; exact small_l (by omega), fun b o e => ?_, ?_⟩⟩
        · rw [upd_ne (ne_of_none e nD2)]
          exact x9 _ _ (x8 _ _ e)
        · rw [upd_same, en, y2, Bool.false_and]
      · obtain ⟨k, h1, h2⟩ := h
        refine .inr ⟨k, h1, h2, _, rfl, _, hD8, by rw [List.length_map, List.length_replicate]; exact small_l (by omega), fun b o e => ?_, ?_⟩
        · rw [upd_ne (ne_of_none e nD2)]
          exact x8 _ _ e
        · rw [upd_same, en]
    rintro H7 ⟨x7, hD7⟩
    rw [len14] at hD7
    refine ⟨_, _, rfl, SqL.of hD7, ?_⟩
    have a14 : (List.replicate 14 false).any id = false := by decide
    rw [a14]
    refine ⟨false, rfl, iteF ?_⟩
    have x67 := x6.trans x7
    refine ⟨_, rfl, p, dxp, fsp, rfl, x67 _ _ hp, p, z, M, δ, found, live, rfl, LAx x67, M, rfl, by omega, M, rfl, by omega, by omega, fun D3 nD3 => ?_⟩
    rw [show ((M : Int)).toNat = M by omega]
    refine lc_it (walk_range (lo := 0) (n := M)) (fun j H' => Ext H7 H' ∧ H' D3 = some (.lst ((List.replicate j true).map V.bl))) ⟨Ext.new nD3, upd_same⟩ (fun _ _ _ _ => trivial) ?_ ?_
    · rintro j v H8 H9 hj ⟨x9, hD9⟩ ⟨rfl, ev⟩
      obtain rfl : v = V.int (j : Nat) := ev.trans (by show V.int (0 + (j : Nat)) = _; rw [Int.zero_add])
      have en : (List.replicate (j + 1) true).map V.bl = (List.replicate j true).map V.bl ++ [V.bl true] := by
        rw [List.replicate_succ', List.map_append]
        rfl
      refine ⟨rfl, ?_⟩
      obtain ⟨dx2, fs2, i2, no2⟩ := (LAx (x67.trans x9)).no "move" (by decide)
      refine ⟨_, rfl, p, dx2, fs2, rfl, i2, no2, _, rfl, _, rfl, p, j, ⟨#[c1]⟩, z, M, δ, found, live, rfl, LAx (x67.trans x9), hj, ?_⟩
      rw [if_neg (fun h => c1n (one_in.mp h))]
      refine ⟨_, hD9, by rw [List.length_map, List.length_replicate]; exact small_l (by omega), fun b o e => ?_, ?_⟩
      · rw [upd_ne (ne_of_none e nD3)]
        exact x9 _ _ e
      · rw [upd_same, en]
        rfl
    rintro H8 ⟨x8, hD8⟩
    refine ⟨_, _, rfl, SqL.of hD8, ?_⟩
    have aM : (List.replicate M true).all id = true := List.all_eq_true.mpr fun b hb => (List.eq_of_mem_replicate hb)
    rw [aM]
    have x68 := x67.trans x8
    obtain ⟨dx3, fs3, i3, no3⟩ := (LAx x68).no "signs" (by decide)
    refine ⟨true, rfl, iteT ⟨_, rfl, p, dx3, fs3, rfl, i3, p, z, M, δ, found, live, rfl, LAx x68, _, rfl, ?_⟩⟩
    refine ⟨rfl, ?_⟩
    rw [decide_eq_true (rfl : V.str z = V.str z)]
    exact kk _ x68
end
end Sl
/-! ## A8 -/
set_option Elab.async false
set_option linter.all false
set_option maxRecDepth 100000
set_option maxHeartbeats 4000000
/-! zip(a text, a list): its cells are the five made last -/
namespace Sl
open PySem PySem.Spec PyProof.Rows L2
theorem ne_nat {a b : Nat} (h : a ≠ b) : (a : Addr) ≠ (b : Addr) := h
theorem sep_five {n b : Nat} (hb : b < n) : ZipSep2 (n + 4) (n + 2) (n + 3) n (n + 1) [n] [n + 1, b] where
  TIz := ne_nat (by omega)
  TOz := ne_nat (by omega)
  TITO := ne_nat (by omega)
  TIi1 := ne_nat (by omega)
  mem1 := List.mem_cons_self
  zf1 := fun h => absurd (List.mem_singleton.mp h) (ne_nat (by omega))
  Tf1 := fun h => absurd (List.mem_singleton.mp h) (ne_nat (by omega))
  TIi2 := ne_nat (by omega)
  mem2 := List.mem_cons_self
  zf2 := fun h => (List.mem_cons.mp h).elim (ne_nat (by omega)) fun h => absurd (List.mem_singleton.mp h) (ne_nat (by omega))
  Tf2 := fun h => (List.mem_cons.mp h).elim (ne_nat (by omega)) fun h => absurd (List.mem_singleton.mp h) (ne_nat (by omega))
  sep1_2 := fun h => (List.mem_cons.mp h).elim (ne_nat (by omega)) fun h => absurd (List.mem_singleton.mp h) (ne_nat (by omega))
  sep2_1 := fun h => absurd (List.mem_singleton.mp h) (ne_nat (by omega))
abbrev five (n : Nat) : List Addr := [n + 4, n + 2, n + 3, n, n + 1]
theorem five_mem {n c : Nat} (h : c ∈ five n) : n ≤ c ∧ c < n + 5 := by
  simp only [List.mem_cons, List.not_mem_nil, or_false] at h
  omega
theorem five_not {n c : Nat} (h : c ∉ five n) : c ≠ n + 4 ∧ c ≠ n + 3 ∧ c ≠ n ∧ c ≠ n + 1 := by
  simp only [List.mem_cons, List.not_mem_nil, or_false, not_or] at h
  exact ⟨h.1, h.2.2.1, h.2.2.2.1, h.2.2.2.2⟩
/-- how the five stand ahead of turn i -/
structure FiveAt (n b : Nat) (tx : Str) (tt : Tok) (i : Nat) (h : Heap) : Prop where
  z : IsZip h (n + 4) (n + 2) (n + 3) .none
  ti : IsTupOf2 h (n + 2) (.ref n) (.ref (n + 1))
  to : ∃ x y, IsTupOf2 h (n + 3) x y
  a : h.IsStrIter n (strIterType tx) tx tt i
  b : h.IsListIter (n + 1) b i
theorem FiveAt.move {n b : Nat} {tx : Str} {tt : Tok} {i : Nat} {h h' : Heap} (F : FiveAt n b tx tt i h) (k : ∀ c ∈ five n, ∀ o, h.get? c = some o → h'.get? c = some o) : FiveAt n b tx tt i h' := by
  obtain ⟨x, y, q⟩ := F.to
  obtain ⟨o, ho, r⟩ := F.a
  exact ⟨k _ (by simp) _ F.z, k _ (by simp) _ F.ti, ⟨x, y, k _ (by simp) _ q⟩, ⟨o, k _ (by simp) _ ho, r⟩, F.b.at fun o e => k _ (by simp) o e⟩
theorem FiveAt.objs {n b : Nat} {tx : Str} {tt : Tok} {i : Nat} {h : Heap} (F : FiveAt n b tx tt i h) (c : Addr) (hc : c ∈ five n) : ∃ o, h.get? c = some o ∧ ∀ v, o.data ≠ .cell v := by
  obtain ⟨x, y, q⟩ := F.to
  obtain ⟨o1, e1, _, d1⟩ := F.a
  obtain ⟨o2, e2, _, d2⟩ := F.b
  simp only [List.mem_cons, List.not_mem_nil, or_false] at hc
  rcases hc with rfl | rfl | rfl | rfl | rfl
  · exact ⟨_, F.z, fun v z => nomatch z⟩
  · exact ⟨_, F.ti, fun v z => nomatch z⟩
  · exact ⟨_, q, fun v z => nomatch z⟩
  · exact ⟨o1, e1, fun v z => by rw [d1] at z; cases z⟩
  · exact ⟨o2, e2, fun v z => by rw [d2] at z; cases z⟩
theorem FiveAt.under {n b : Nat} {tx : Str} {tt : Tok} {i : Nat} {h : Heap} (F : FiveAt n b tx tt i h) (c : Addr) (hc : c ∈ five n) : c < h.objs.size := by
  obtain ⟨o, e, _⟩ := F.objs c hc
  exact Heap.lt_size e
/-- the signs of a text with the items of the list at b, in new pairs -/
def ItzS (K : PySem.W.Frag) (tx : Str) (b : Addr) : It where
  go := fun i H => ∃ (ys : List V) (c : Nat) (y : V), SqL K H b ys ∧ tx.cps[i]? = some c ∧ ys[i]? = some y
  yld := fun i H v H' => ∃ (T : Addr) (c : Nat) (y : V), v = .ref T ∧ H T = none ∧ H' = upd H T (.tup [.str ⟨#[c]⟩, y]) ∧ tx.cps[i]? = some c ∧ ∀ ys, SqL K H b ys → ys[i]? = some y
  stop := fun i H => ∃ ys : List V, SqL K H b ys ∧ tx.cps.size = i ∧ ys.length = i
theorem turn_zs {P : Program} {w : World} {K : PySem.W.Frag} {elts : List Expr} {kk : Nat} {tpos : Pos} {tx : Str} {tt : Tok} {b n : Nat} (hb : b < n) : Turn P w K (.Tuple elts kk tpos) (ItzS K tx b) (five n) (n + 4) (FiveAt n b tx tt) where
  mem := List.mem_cons_self
  obj := fun i h F => F.objs
  keep := fun i h h' F k => F.move k
  item := by
    rintro X rfl rfl rfl hc i pins s σ H E I hf F ⟨ys, c1, y, hq, hx, hy⟩
    obtain ⟨its, rv, pl, _⟩ := I.list hq
    obtain ⟨u2, hu2, ru2⟩ := rv.get hy
    obtain ⟨x0, y0, hto⟩ := F.to
    have S := sep_five hb
    have hd : X.A.in1.handled = none := I.ok.hd hc
    have li : i < its.length := (List.getElem?_eq_some_iff.mp hu2).1
    have lx : i < tx.cps.size := (Array.getElem?_eq_some_iff.mp hx).1
    have nz := F.under (n + 4) List.mem_cons_self
    refine wpAny_pyNext_zipD2_item S (Draws.text hd n tx tt) (Draws.list hd (n + 1) b (ne_nat (by omega)) its.toArray) F.z F.ti hto F.a ⟨F.b, pl.isList⟩ lx (by simpa using li) ?_
    intro v1 v2 h1 tk ⟨c, t1, hc1, e1⟩ hv2 z1 to1 a1 b1 new1 sz1 k1
    rw [hx] at hc1
    obtain rfl := Option.some.inj hc1
    have e2 : v2 = u2 := by
      have hv2 : its.toArray[i]? = some v2 := hv2
      rw [List.getElem?_toArray, hu2] at hv2
      exact (Option.some.inj hv2).symm
    subst e1 e2
    refine ⟨_, rfl, wpAny_letOwnedTupleGo_zip (s := { s with heap := h1, toks := tk }) z1 fun h2 z2 sb => ?_⟩
    have stay : ∀ d o, d ≠ n + 4 → d ≠ n + 3 → d ≠ n → d ≠ n + 1 → s.heap.get? d = some o → h2.get? d = some o := fun d o d1 d2 d3 d4 e => (sb.2 d d1).trans (k1 d o d1 d2 d3 d4 e)
    have tup2 : h2.get? s.heap.objs.size = some { cls := .type "tuple", data := .seq #[.str ⟨#[c1]⟩ t1, v2] } := (sb.2 _ (Nat.ne_of_gt nz)).trans new1
    have ok2 : ObjOk X.prog X.w (upd H s.heap.objs.size (.tup [.str ⟨#[c1]⟩, y])) h2 s.heap.objs.size (.tup [.str ⟨#[c1]⟩, y]) := ⟨by show 2 ≤ sizeLine; decide, _, .cons ⟨t1, rfl⟩ (.cons ru2 .nil), ⟨_, tup2, rfl, _, rfl⟩⟩
    have I2 := I.turnedNew (t' := tk) (ch := five n) (h' := h2) (fun d o hd e => let ⟨d1, d2, d3, d4⟩ := five_not hd; stay d o d1 d2 d3 d4 e) hf (Nat.le_refl _) ok2
    refine ⟨.ref s.heap.objs.size, _, I2, rfl, ⟨_, c1, y, rfl, I.hok.fresh (Nat.le_refl _), rfl, hx, fun l hl => by rw [I.list_inj hl hq]; exact hy⟩, ?_, fun d hd => ?_⟩
    · obtain ⟨oa, ea, ra⟩ := a1
      exact ⟨z2, stay _ _ (ne_nat (by omega)) (ne_nat (by omega)) (ne_nat (by omega)) (ne_nat (by omega)) F.ti, ⟨_, _, (sb.2 _ (ne_nat (by omega))).trans to1⟩, ⟨oa, (sb.2 _ (ne_nat (by omega))).trans ea, ra⟩, b1.1.at fun o e => (sb.2 _ (ne_nat (by omega))).trans e⟩
    · rw [upd_ne (Nat.ne_of_lt (F.under d hd))]
      exact (hf d hd).1
  done := by
    rintro X rfl rfl rfl hc i pins s σ H E I hf F ⟨ys, hq, lx, ly⟩
    obtain ⟨its, rv, pl, _⟩ := I.list hq
    obtain ⟨x0, y0, hto⟩ := F.to
    have S := sep_five hb
    have hd : X.A.in1.handled = none := I.ok.hd hc
    have li : its.length = i := by rw [← rv.length]; exact ly
    refine wpAny_pyNext_zipD2_end S (Draws.text hd n tx tt) (Draws.list hd (n + 1) b (ne_nat (by omega)) its.toArray) F.z F.ti hto F.a ⟨F.b, pl.isList⟩ (by omega) (by simp; omega) (.inl lx.symm) fun h1 tk k1 => ?_
    exact ⟨rfl, I.turnedL (t' := tk) (ch := five n) (fun d o hd e => let ⟨d1, d2, d3, d4⟩ := five_not hd; k1 d o d1 d2 d3 d4 e) hf⟩
  self := fun A i s Q E F h => wpAny_pyIter_zip F.z h
def iZipS (K : PySem.W.Frag) (ta : TA) : TI := fun σ H R => ta σ H fun vs H1 => ∃ (tx : Str) (b : Addr) (ys : List V), vs = [.str tx, .ref b] ∧ SqL K H1 b ys ∧ R (ItzS K tx b) H1
theorem pi_zipS {X : Cx} {e1 e2 : Expr} {ta : TA} {p pos tpos : Pos} {elts : List Expr} {kk : Nat} (hg : Gl X "zip") (hm : X.mg "zip" = none) (hA : PA X [e1, e2] ta)
    (hs : starEach [e1, e2] X.env = (false, eval e1 X.env) :: starEach [e2] X.env := by rfl) (hp : (backTo pos (starEach [e2] X.env)).any (·.1) = false := by rfl) : PI X (.Tuple elts kk tpos) (.Call (.Name "zip" p) [e1, e2] [] pos) (iZipS X.K ta) := by
  refine ⟨fun pins s σ H R I h => Call_ (ld_blt I hg hm PyProof.Rows.boot_zip (PyProof.Rows.callWith_type1 (thn (hA.run pos pins s σ H _ I h) fun us s1 ⟨vs, H1, I1, r1, tx, b, ys, ev, hq, q⟩ => ?_) hs hp))⟩
  subst ev
  cases r1 with
  | cons ra rr =>
    cases rr with
    | cons rb rn =>
      cases rn
      obtain ⟨tt, rfl⟩ := ra
      cases rb
      obtain ⟨its, rv, pl, _⟩ := I1.list hq
      have lb : b < s1.heap.objs.size := pl.lt
      refine zip_begins2 (begins_text tx tt) (begins_list b its.toArray) trivial pl.isList fun h' hz ti to ga gb sz k => wpAny_pyIter_zip hz ?_
      exact ⟨s1.heap.objs.size + 4, five s1.heap.objs.size, FiveAt s1.heap.objs.size b tx tt, _, H1, rfl, I1.kept (t' := s1.toks) k, turn_zs lb, ⟨hz, ti, ⟨_, _, to⟩, ⟨_, ga, rfl, rfl⟩, ⟨_, gb, rfl, rfl⟩⟩, fun c hc => let z := (five_mem hc).1; I1.fpOk z (I1.hok.fresh z), q⟩
theorem walk_zs {K : PySem.W.Frag} {tx : Str} {b : Addr} {ys : List V} (hl : ys.length = tx.cps.size) : Walk (ItzS K tx b) tx.cps.size (fun H => SqL K H b ys) (YPair (fun i => (tx.cps[i]?).map fun c => V.str ⟨#[c]⟩) (fun i => ys[i]?)) :=
  ⟨fun i H hi h => ⟨ys, tx.cps[i], ys[i], h, Array.getElem?_eq_getElem hi, List.getElem?_eq_getElem (by omega)⟩, fun H h => ⟨ys, h, rfl, hl⟩, fun i H x H' hi h ⟨T, c, y, e1, e2, e3, e4, e5⟩ => ⟨T, _, y, e1, e2, e3, by show (tx.cps[i]?).map _ = _; rw [e4]; rfl, e5 ys h⟩⟩
end Sl
/-! ## A14 -/
set_option Elab.async false
set_option linter.all false
set_option maxRecDepth 100000
set_option maxHeartbeats 4000000
set_option pp.maxSteps 900
set_option pp.deepTerms false
/-! _law_doubled: the same machine with each state several times -/
namespace Sl
open PySem PySem.Spec PyProof.Rows L2 TxS
abbrev sDbl : Stmt := top 52
abbrev nDbl : List Str := ["_law_rng_here", "_law_machine", "_law_abc", "_law_rows", "_law_stops", "_law_many", "_law_times", "_law_left", "_law_order", "_law_lines", "_law_one", "_law_goals", "_law_k", "_law_letter", "_law_goal"]
/-- what the doubled machine has of the first -/
structure DblOk (sg : List Str) (N : Nat) (δ : Nat → Str → Nat) (mem : List Nat) (N' : Nat) (δ' : Nat → Str → Nat) (mem' : List Nat) (ρ : Nat → Nat) : Prop where
  zero : ρ 0 = 0
  lt : ∀ i, i < N' → ρ i < N
  step : ∀ i, i < N' → ∀ c ∈ sg, ρ (δ' i c) = δ (ρ i) c
  mem : ∀ i, i < N' → (i ∈ mem' ↔ ρ i ∈ mem)
def spDbl : Sp := fun vs H Q _ => ∃ (a t R E : Addr) (z : Str) (rs : List Addr) (δ : Nat → Str → Nat) (mem : List Nat), vs = [.ref a, .ref t] ∧ Rng H a ∧ E ≠ a ∧ MacAt H t z R E rs δ mem ∧ MacOk (sgL z) rs.length δ mem 5 ∧ (sgL z).Nodup ∧ (sgL z).length ≤ 100 ∧
  ∀ (H' : Hp) (t' R' E' : Addr) (rs' : List Addr) (δ' : Nat → Str → Nat) (mem' : List Nat) (ρ : Nat → Nat), Rng H' a → Keep a H H' → H R' = none → H E' = none → H t' = none → MacAt H' t' z R' E' rs' δ' mem' → MacOk (sgL z) rs'.length δ' mem' 40 → DblOk (sgL z) rs.length δ mem rs'.length δ' mem' ρ → Q (.ref t') H'
/-- the number of copies keeps within forty -/
theorem copies_le {N m : Nat} (h0 : 0 < N) (h5 : N ≤ 5) (h : (m : Int) < 40 / (N : Int)) : N * (m + 1) ≤ 40 := by
  have : N = 1 ∨ N = 2 ∨ N = 3 ∨ N = 4 ∨ N = 5 := by omega
  rcases this with rfl | rfl | rfl | rfl | rfl <;> omega
theorem range_one (W : Nat) : rgV 1 (W : Int) = ((List.range (W - 1)).map (· + 1)).map fun n => V.int (n : Nat) := by
  unfold rgV
  rw [show ((W : Int) - 1).toNat = W - 1 by omega, List.map_map]
  refine List.map_congr_left fun i _ => ?_
  show V.int (1 + (i : Nat)) = V.int ((i + 1 : Nat) : Int)
  rw [Int.add_comm]
  rfl
structure OrdOk (ord : List Nat) (W : Nat) : Prop where
  len : ord.length = W
  nd : ord.Nodup
  lt : ∀ x ∈ ord, x < W
  all : ∀ x, x < W → x ∈ ord
  zero : ord[0]? = some 0
theorem ord_ok {picked : List Nat} {W : Nat} (h0 : 0 < W) (h : picked.Perm ((List.range (W - 1)).map (· + 1))) : OrdOk (0 :: picked) W := by
  have pm : (0 :: picked).Perm (List.range W) := by
    have e : List.range W = 0 :: (List.range (W - 1)).map (· + 1) := by
      obtain ⟨n, rfl⟩ : ∃ n, W = n + 1 := ⟨W - 1, by omega⟩
      rw [List.range_succ_eq_map]
      rfl
    rw [e]
    exact h.cons 0
  exact ⟨by rw [pm.length_eq, List.length_range], pm.nodup_iff.mpr List.nodup_range, fun x hx => List.mem_range.mp (pm.mem_iff.mp hx), fun x hx => pm.mem_iff.mpr (List.mem_range.mpr hx), rfl⟩
section
variable {P : Program} {w : World} {K : PySem.W.Frag} {mg : Str → Option Value} {base : Heap}
theorem scDbl : FnScope nDbl ["_law_rng_here", "_law_machine"] (defScope sDbl) := ⟨rfl, rfl, rfl, by decide +kernel, rfl, by decide +kernel, by decide +kernel⟩
theorem ok_dbl {f fD : Addr} {fd fdD : FuncData} (F : Fun K "_law_doubled" "_law_doubled" sDbl f fd) (aD : At K mg "_law_draw" fD fdD ["_law_rng_here", "_law_many"] []) (gD : FnOk P w K mg base CX0 1 fD fdD ["_law_rng_here", "_law_many"] spDraw)
    (zn : mg "len" = none) (zl : mg "list" = none) (zr : mg "range" = none) (zd : mg "dict" = none) (zz : mg "zip" = none) (ze : mg "enumerate" = none) : FnOk P w K mg base CX0 2 f fd ["_law_rng_here", "_law_machine"] spDbl := by
  refine F.ok scDbl (fun vs H Q E h => ?_) (fun cdv A0 outer s H vs Q E0 hr h => ?_)
  · obtain ⟨a, t, R, E1, z, rs, δ, mem, rfl, _⟩ := h
    rfl
  · obtain ⟨a, t, R, E1, z, rs, δ, mem, rfl, hR, nEa, MA, MO, ndg, g100, k⟩ := h
    have hu := hu_of hr
    have draw : ∀ {X : Cx} {b : Expr} {tb : TE} , True := fun {_ _ _} => trivial
    refine ⟨_, pss_cons (ps_asg (pv 1) (pg_tup (by rfl) (pgs_cons (pg_name (i := 2) scDbl.nd rfl (.inl rfl)) (pgs_cons (pg_name (i := 3) scDbl.nd rfl (.inr rfl)) (pgs_cons (pg_name (i := 4) scDbl.nd rfl (.inr rfl)) pgs_nil)))))
      (pss_cons (ps_asg (pe_tup (pa_cons (pe_callB call_len_seq (by rfl) zn PySem.boot_len (pa_cons (pe_var (i := 3) rfl (.inr (.inl rfl))) pa_nil)) (pa_cons (pe_op op_add pe_int (pe_call gD hr (by rfl) aD.g aD.kp aD.b .nil pass0 (pa_cons (pe_var (i := 0) rfl (.inr (.inl rfl))) (pa_cons (pe_op op_fdiv pe_int (pe_callB call_len_seq (by rfl) zn PySem.boot_len (pa_cons (pe_var (i := 3) rfl (.inr (.inl rfl))) pa_nil))) pa_nil)))) pa_nil)))
        (pg_tup (by rfl) (pgs_cons (pg_name (i := 5) scDbl.nd rfl (.inr rfl)) (pgs_cons (pg_name (i := 6) scDbl.nd rfl (.inr rfl)) pgs_nil))))
      (pss_cons (ps_set (i := 7) scDbl.nd rfl (.inr rfl) (pe_listRg rfl (by rfl) zl (prg_2 (by rfl) zr pe_int (pe_op op_mul (pe_var (i := 5) rfl (.inr (.inl rfl))) (pe_var (i := 6) rfl (.inr (.inl rfl)))))))
      (pss_cons (ps_set (i := 8) scDbl.nd rfl (.inr rfl) (pe_op op_cat (pe_lst (pa_cons pe_int pa_nil)) (pe_lc (own := [("_law_k", 12)]) (g := gName 12) (tt := tYes) (te := tBM K "list" rPopAt (tVar 7) (tCons (tCall spDraw [] (fun _ _ _ => False) (tCons (tVar 0) (tCons (tCB (rLen K) (tCons (tVar 7) tNil)) tNil))) tNil)) rfl scDbl.nd
          (pi_range1 (by rfl) zr (pa_cons (pe_op op_sub (pe_op op_mul (pe_var (i := 5) rfl (.inr (.inl rfl))) (pe_var (i := 6) rfl (.inr (.inl rfl)))) pe_int) pa_nil)) (blkOk_by (N := nDbl) (sc := defScope sDbl) (by decide +kernel))
          (fun _ _ _ _ _ => pg_name (i := 12) scDbl.nd rfl (Or.inl rfl)) (fun _ _ _ _ _ => pts_nil)
          (fun _ _ _ _ _ => by exact pe_bm PySem.F.plainAttrs_list PySem.F.slot_list_pop PySem.F.type_list_pop mt_popAt (pe_var (i := 7) rfl (.inr (.inl rfl))) (pa_cons (pe_call gD hr (by rfl) aD.g aD.kp aD.b .nil pass0 (pa_cons (pe_var (i := 0) rfl (.inr (.inl rfl))) (pa_cons (pe_callB call_len_seq (by rfl) zn PySem.boot_len (pa_cons (pe_var (i := 7) rfl (.inr (.inl rfl))) pa_nil)) pa_nil))) pa_nil)))))
      (pss_cons (ps_set (i := 9) scDbl.nd rfl (.inl rfl) (pe_lst pa_nil))
      (pss_cons (ps_for PassesOwn.never rfl (pi_list (pe_var (i := 8) rfl (.inr (.inl rfl)))) (pg_name (i := 10) scDbl.nd rfl (.inr rfl))
        (pss_cons (ps_setLc (i := 11) (own := [("_law_letter", 13)]) (g := gName 13) (tt := tYes) (te := tOp (rI0 fun i j => V.int (i + j)) (tDGet (tOp (rIxL K) (tVar 3) (tOp (rI (fun _ j => 0 < j) fun i j => V.int (i % j)) (tVar 10) (tVar 5))) (tVar 13)) (tOp (rI CMul fun i j => V.int (i * j)) (tVar 5) (tCall spDraw [] (fun _ _ _ => False) (tCons (tVar 0) (tCons (tVar 6) tNil))))) rfl scDbl.nd rfl rfl (sw_true rfl rfl rfl (by decide +kernel)) (pi_str (pe_var (i := 2) rfl (.inl rfl))) (blkOk_by (N := nDbl) (sc := defScope sDbl) (by decide +kernel))
            (fun _ _ _ _ _ => pg_name (i := 13) scDbl.nd rfl (Or.inl rfl)) (fun _ _ _ _ _ => pts_nil)
            (fun _ _ _ _ _ => pe_op op_add (pe_dget hu (pe_ix ix_list (pe_var (i := 3) rfl (.inr (.inl rfl))) (pe_op op_mod (pe_var (i := 10) rfl (.inr (.inl rfl))) (pe_var (i := 5) rfl (.inr (.inl rfl)))) (fun _ _ => rfl)) (pv 13) (fun _ _ => rfl)) (pe_op op_mul (pe_var (i := 5) rfl (.inr (.inl rfl))) (pe_call gD hr (by rfl) aD.g aD.kp aD.b .nil pass0 (pa_cons (pe_var (i := 0) rfl (.inr (.inl rfl))) (pa_cons (pe_var (i := 6) rfl (.inr (.inl rfl))) pa_nil))))))
        (pss_one (ps_expr (pe_bm PySem.F.plainAttrs_list PySem.F.slot_list_append PySem.F.type_list_append mt_append (pe_var (i := 9) rfl (.inl rfl)) (pa_cons (pe_callTy (T := "dict") (r := rDictPr K) (cr_dictPr rfl) (by rfl) zd (by decide +kernel) (pa_cons
            (pe_lc (own := [("_law_letter", 13), ("_law_goal", 14)]) (g := gTup K 2 (gCons (gName 13) (gCons (gName 14) gNil))) (tt := tYes) (te := tTup (tCons (tVar 13) (tCons (tBM K "list" (rIndex K) (tVar 8) (tCons (tVar 14) tNil)) tNil))) rfl scDbl.nd (pi_zipS (by rfl) zz (pa_cons (pe_var (i := 2) rfl (.inl rfl)) (pa_cons (pe_var (i := 11) rfl (.inl rfl)) pa_nil))) (blkOk_by (N := nDbl) (sc := defScope sDbl) (by decide +kernel))
              (fun _ _ _ _ _ => pg_tup (by rfl) (pgs_cons (pg_name (i := 13) scDbl.nd rfl (Or.inl rfl)) (pgs_cons (pg_name (i := 14) scDbl.nd rfl (Or.inl rfl)) pgs_nil))) (fun _ _ _ _ _ => pts_nil)
              (fun _ _ _ _ _ => pe_tup (pa_cons (pv 13) (pa_cons (pe_bm PySem.F.plainAttrs_list PySem.F.slot_list_index PySem.F.type_list_index mt_index (pe_var (i := 8) rfl (.inr (.inl rfl))) (pa_cons (pv 14) pa_nil)) pa_nil)))) pa_nil)) pa_nil))))))
      (pss_one (ps_ret (pe_tup (pa_cons (pe_var (i := 2) rfl (.inl rfl)) (pa_cons (pe_var (i := 9) rfl (.inl rfl)) (pa_cons
          (pe_lc (own := [("_law_k", 12), ("_law_one", 10)]) (g := gTup K 2 (gCons (gName 12) (gCons (gName 10) gNil))) (tt := tTest (tOp (rIn K false) (tOp (rI (fun _ j => 0 < j) fun i j => V.int (i % j)) (tVar 10) (tVar 5)) (tVar 4))) (te := tVar 12) rfl scDbl.nd
            (pi_enumK (by rfl) ze (pa_cons (pe_var (i := 8) rfl (.inr (.inl rfl))) pa_nil)) (blkOk_by (N := nDbl) (sc := defScope sDbl) (by decide +kernel))
            (fun _ _ _ _ _ => pg_tup (by rfl) (pgs_cons (pg_name (i := 12) scDbl.nd rfl (Or.inl rfl)) (pgs_cons (pg_name (i := 10) scDbl.nd rfl (Or.inl rfl)) pgs_nil)))
            (fun _ _ _ _ _ => pts_one (pt_cmpR op_in_seq (pe_op op_mod (pe_var (i := 10) rfl (.inl rfl)) (pe_var (i := 5) rfl (.inr (.inl rfl)))) (pe_var (i := 4) rfl (.inr (.inl rfl))) (by rfl)))
            (fun _ _ _ _ _ => pe_var (i := 12) rfl (.inl rfl))) pa_nil))))))))))), ?_⟩
    have N0 := MO.pos
    have N5 := MO.le
    have sz0 : (0 : Nat) ≤ sizeLine := Nat.zero_le _
    have sz1 : (1 : Nat) ≤ sizeLine := by decide
    have sz2 : (2 : Nat) ≤ sizeLine := by decide
    have sz3 : (3 : Nat) ≤ sizeLine := by decide
    have nRa : R ≠ a := hR.lst MA.r fun x y e => by
      cases rs with
      | nil => cases e
      | cons r rs => cases e
    have nta : t ≠ a := by
      obtain ⟨x, y, e, _⟩ := hR.ex
      exact ne_of MA.t e (by intro z; cases z)
    have nra : ∀ i r, rs[i]? = some r → r ≠ a := fun i r hr => by
      obtain ⟨x, y, e, _⟩ := hR.ex
      exact ne_of (MA.rows i r hr) e (by intro z; cases z)
    have MAk : ∀ {H' : Hp}, Keep a H H' → MacAt H' t z R E1 rs δ mem := fun kp => ⟨kp _ _ MA.t nta, kp _ _ MA.r nRa, fun i r e => kp _ _ (MA.rows i r e) (nra i r e), kp _ _ MA.e nEa⟩
    refine ⟨_, rfl, t, _, rfl, SqT.of MA.t, rfl, _, _, rfl, _, _, rfl, _, _, rfl, rfl, ?_⟩
    refine ⟨_, rfl, R, _, rfl, .inl (SqL.of MA.r), ?_⟩
    rw [List.length_map]
    refine ⟨_, rfl, _, rfl, R, _, rfl, .inl (SqL.of MA.r), ?_⟩
    rw [List.length_map]
    refine ⟨_, _, rfl, rfl, ⟨by omega, by omega⟩, a, _, rfl, hR, ?_, ?_, fun d H1 d0 dm hR1 kp1 => ?_⟩
    · have : rs.length = 1 ∨ rs.length = 2 ∨ rs.length = 3 ∨ rs.length = 4 ∨ rs.length = 5 := by omega
      rcases this with e | e | e | e | e <;> (rw [e]; decide)
    · have : rs.length = 1 ∨ rs.length = 2 ∨ rs.length = 3 ∨ rs.length = 4 ∨ rs.length = 5 := by omega
      rcases this with e | e | e | e | e <;> (rw [e]; decide)
    obtain ⟨m, rfl⟩ := Int.eq_ofNat_of_zero_le d0
    have hW40 := copies_le N0 N5 dm
    refine ⟨_, _, rfl, rfl, ?_⟩
    dsimp only
    rw [show (1 + (m : Int)) = ((m + 1 : Nat) : Int) by omega]
    have T0 : 0 < m + 1 := by omega
    generalize m + 1 = T at T0 hW40 ⊢
    clear d0 dm m
    refine ⟨sz2, fun p np => ⟨p, _, rfl, SqT.of upd_same, rfl, _, _, rfl, _, _, rfl, rfl, ?_⟩⟩
    have xp := Ext.new np (o := .tup [V.int (rs.length : Nat), V.int (T : Nat)])
    have hR2 := hR1.ext xp
    have kp2 := kp1.trans (Keep.of (a := a) xp)
    generalize upd H1 p (.tup [V.int (rs.length : Nat), V.int (T : Nat)]) = H2 at hR2 kp2 ⊢
    clear xp np kp1 hR1
    generalize eN : rs.length = N at N0 N5 hW40 ⊢
    have W0 : 0 < N * T := Nat.mul_pos N0 T0
    refine ⟨_, rfl, _, rfl, _, _, rfl, rfl, .inl ⟨by omega, by omega⟩, ?_⟩
    refine ⟨1, ((N * T : Nat) : Int), rfl, congrArg V.int (Int.natCast_mul N T).symm, RgOk.of_le (by omega) (by omega) (by omega) (by omega), fun Lf nLf => ?_⟩
    rw [range_one]
    have aLf : Lf ≠ a := hR2.new nLf
    refine ⟨sz1, fun Z0 nZ0 => ?_⟩
    have nLZ : Lf ≠ Z0 := ne_of_none upd_same nZ0
    refine ⟨_, rfl, _, rfl, _, _, rfl, rfl, .inl ⟨by omega, by omega⟩, ?_⟩
    refine ⟨((N * T : Nat) : Int), 1, congrArg V.int (Int.natCast_mul N T).symm, rfl, ((N * T - 1 : Nat) : Int), by rw [show ((N * T - 1 : Nat) : Int) = ((N * T : Nat) : Int) - 1 by omega], by omega, by omega, fun D nD => ?_⟩
    rw [show ((N * T - 1 : Nat) : Int).toNat = N * T - 1 by omega]
    generalize eW : N * T = W at W0 hW40 nZ0 nD nLZ ⊢
    have nLD : Lf ≠ D := ne_of_none (H := upd (upd H2 Lf _) Z0 (.lst [V.int 0])) (by rw [upd_ne nLZ]; exact upd_same) nD
    have nZD : Z0 ≠ D := ne_of_none (H := upd (upd H2 Lf _) Z0 (.lst [V.int 0])) upd_same nD
    have nD0 : H2 D = none := (Ext.new nLf).free ((Ext.new nZ0).free nD)
    have nZ0' : H2 Z0 = none := (Ext.new nLf).free nZ0
    have aD' : D ≠ a := hR2.new nD0
    have aZ : Z0 ≠ a := hR2.new nZ0'
    have xD := (Ext.new nLf (o := .lst (((List.range (W - 1)).map (· + 1)).map fun n => V.int (n : Nat)))).trans ((Ext.new nZ0 (o := .lst [V.int 0])).trans (Ext.new nD (o := .lst [])))
    refine lc_it (walk_range (lo := 0) (n := W - 1)) (fun i H' => ∃ left picked : List Nat, H' Lf = some (.lst (left.map fun n => V.int (n : Nat))) ∧ H' D = some (.lst (picked.map fun n => V.int (n : Nat))) ∧ H' Z0 = some (.lst [V.int 0]) ∧ (picked ++ left).Perm ((List.range (W - 1)).map (· + 1)) ∧ picked.length = i ∧ Rng H' a ∧ Keep a H2 H')
      ⟨(List.range (W - 1)).map (· + 1), [], by rw [upd_ne nLD, upd_ne nLZ]; exact upd_same, upd_same, by rw [upd_ne nZD]; exact upd_same, List.Perm.refl _, rfl, hR2.ext xD, Keep.of xD⟩ (fun _ _ _ _ => trivial) ?_ ?_
    · rintro i v H3 H4 hi ⟨left, picked, l1, l2, l3, pm, lp, r1, k1⟩ ⟨rfl, rfl⟩
      have ll : picked.length + left.length = W - 1 := by rw [← List.length_append, pm.length_eq, List.length_map, List.length_range]
      refine ⟨rfl, ?_⟩
      dsimp only [tYes]
      rw [if_pos rfl]
      refine ⟨_, rfl, .inl ⟨rfl, _, SqL.of l1⟩, _, rfl, _, rfl, Lf, _, rfl, .inl (SqL.of l1), a, _, rfl, r1, by rw [List.length_map]; omega, by rw [List.length_map]; omega, fun d H5 d0 dn r2 k2 => ?_⟩
      rw [List.length_map] at dn
      obtain ⟨j, rfl⟩ : ∃ j : Nat, d = (j : Int) := ⟨d.toNat, by omega⟩
      have hj : j < left.length := by omega
      have l1' := k2 _ _ l1 aLf
      refine ⟨Lf, _, _, j, .int (left[j] : Nat), rfl, rfl, l1', by omega, by omega, (ixN_seq (ix_nat (by rw [List.length_map]; exact hj))).1, by rw [List.getElem?_map, List.getElem?_eq_getElem hj]; rfl, ?_⟩
      have l2' : (upd H5 Lf (.lst ((left.map fun n => V.int (n : Nat)).eraseIdx j))) D = some (.lst (picked.map fun n => V.int (n : Nat))) := by
        rw [upd_ne nLD.symm]
        exact k2 _ _ l2 aD'
      refine ⟨_, l2', by rw [List.length_map]; exact small_list (by omega), left.eraseIdx j, picked ++ [left[j]], ?_, ?_, ?_, ?_, ?_, ?_, ?_⟩
      · rw [upd_ne nLD, upd_same, erase_map]
      · rw [upd_same, List.map_append]
        rfl
      · rw [upd_ne nZD, upd_ne nLZ.symm]
        exact k2 _ _ l3 aZ
      · refine List.Perm.trans ?_ pm
        rw [List.append_assoc]
        exact List.Perm.append_left _ (pick_perm left j hj)
      · rw [List.length_append, lp]
        rfl
      · obtain ⟨x, y, h, q⟩ := r2.ex
        exact ⟨x, y, by rw [upd_ne aD'.symm, upd_ne aLf.symm]; exact h, q⟩
      · intro b o e nb
        rw [upd_ne (ne_of_none e nD0), upd_ne (ne_of_none e nLf)]
        exact k2 _ _ (k1 b o e nb) nb
    rintro H3 ⟨left, picked, l1, l2, l3, pm, lp, hR3, kp23⟩
    have ll : picked.length + left.length = W - 1 := by rw [← List.length_append, pm.length_eq, List.length_map, List.length_range]
    obtain rfl : left = [] := List.eq_nil_of_length_eq_zero (by omega)
    rw [List.append_nil] at pm
    have OO := ord_ok W0 pm
    refine ⟨Z0, D, _, _, rfl, rfl, l3, l2, small_size (by rw [List.length_map]; show 1 + _ ≤ _; omega), fun O nO => ?_⟩
    have eo : [V.int 0] ++ picked.map (fun n => V.int (n : Nat)) = (0 :: picked).map fun n => V.int (n : Nat) := rfl
    rw [eo]
    generalize 0 :: picked = ord at OO ⊢
    have xO := Ext.new nO (o := .lst (ord.map fun n => V.int (n : Nat)))
    have hO : (upd H3 O (.lst (ord.map fun n => V.int (n : Nat)))) O = some (.lst (ord.map fun n => V.int (n : Nat))) := upd_same
    have aO : O ≠ a := hR3.new nO
    have hR4 := hR3.ext xO
    have kp4 := (kp2.trans kp23).trans (Keep.of (a := a) xO)
    generalize upd H3 O (.lst (ord.map fun n => V.int (n : Nat))) = H4 at hO hR4 kp4 ⊢
    clear xO nO l1 l2 l3 pm lp hR3 kp23 ll eo xD nD nD0 nZ0 nZ0' nLD nZD aD' aZ nLf hR2 kp2 H3 H2 nLZ aLf
    refine ⟨sz0, fun L nL => ⟨_, rfl, O, rfl, ⟨_, SqL.of ((Ext.new nL) _ _ hO)⟩, ?_⟩⟩
    have aL : L ≠ a := hR4.new nL
    have nLO : L ≠ O := (ne_of_none hO nL).symm
    have mlt : ∀ n, n < N → ∀ c ∈ sgL z, δ n c < N := by
      rw [← eN]
      exact MO.lt
    have zl : z.cps.size = (sgL z).length := (sgL_len z).symm
    have lenN : (ord.map fun n => V.int (n : Nat)).length = W := by rw [List.length_map, OO.len]
    refine for_it (walk_list (xs := ord.map fun n => V.int (n : Nat))) (fun j σ H' => ∃ v10 v11, σ = [some (.ref a), some (.ref t), some (.str z), some (.ref R), some (.ref E1), some (.int (N : Nat)), some (.int (T : Nat)), some (.ref Lf), some (.ref O), some (.ref L), v10, v11, none, none, none] ∧ Rng H' a ∧ Keep a H4 H' ∧
        ∃ (rs' : List Addr) (δ' : Nat → Str → Nat), rs'.length = j ∧ H' L = some (.lst (rs'.map V.ref)) ∧ RowsD H' rs' (sgL z) δ' ∧ ∀ n o, n < j → ord[n]? = some o → ∀ c ∈ sgL z, ∃ g, ord[δ' n c]? = some g ∧ g % N = δ (o % N) c)
      ⟨none, none, rfl, hR4.ext (Ext.new nL), Keep.of (Ext.new nL), [], fun _ _ => 0, rfl, upd_same, fun i r e => (by cases i <;> cases e), fun n o hn => absurd hn (Nat.not_lt_zero _)⟩ (fun j σ H' _ ⟨_, _, _, _, kp, _⟩ => SqL.of (kp _ _ hO aO)) ?_ ?_
    · rintro j x σ H5 H6 hj ⟨v10, v11, rfl, hR5, kp5, rs', δ', lrs, hL, hrs, hst⟩ ⟨rfl, hx⟩
      obtain ⟨one, h1, rfl⟩ := at_map hx
      have jW : j < W := by
        rw [← OO.len]
        exact (List.getElem?_eq_some_iff.mp h1).1
      have oN : one % N < N := Nat.mod_lt _ N0
      have MA5 := MAk (kp4.trans kp5)
      obtain ⟨r0, hr0⟩ : ∃ r, rs[one % N]? = some r := ⟨_, List.getElem?_eq_getElem (by omega)⟩
      refine ⟨_, rfl, z, rfl, fun G nG => ?_⟩
      have aG : G ≠ a := hR5.new nG
      have start : ∀ (q : Nat) (c : Str) (g : Nat), (sgL z)[q]? = some c → ([] : List Nat)[q]? = some g → g < W ∧ g % N = δ (one % N) c := fun q c g _ e => by
        rw [List.getElem?_nil] at e
        cases e
      refine lc_it (walk_str (z := z)) (fun i H' => Rng H' a ∧ Keep a H6 H' ∧ ∃ gs : List Nat, H' G = some (.lst (gs.map fun n => V.int (n : Nat))) ∧ gs.length = i ∧ ∀ q c g, (sgL z)[q]? = some c → gs[q]? = some g → g < W ∧ g % N = δ (one % N) c)
        ⟨hR5.ext (Ext.new nG), Keep.of (Ext.new nG), [], upd_same, rfl, start⟩ (fun _ _ _ _ => trivial) ?_ ?_
      · rintro i v H7 H8 hi ⟨hR7, kp7, gs, hG, lgs, hgs⟩ ⟨rfl, c, hc, rfl⟩
        have hsg := sgL_at hc
        have cm := List.mem_of_getElem? hsg
        have MA8 := MAk ((kp4.trans kp5).trans kp7)
        refine ⟨rfl, ?_⟩
        dsimp only [tYes]
        rw [if_pos rfl]
        have g8 : DGet H8 r0 (.str ⟨#[c]⟩) (some (.int (δ (one % N) ⟨#[c]⟩ : Nat))) := by
          have e : valV (rowD (sgL z) (δ (one % N))) (keyC ⟨#[c]⟩) = some (.int (δ (one % N) ⟨#[c]⟩ : Nat)) := row_val cm
          rw [← e]
          exact DGet.k (k := keyC ⟨#[c]⟩) (MA8.rows _ _ hr0)
        refine ⟨_, rfl, _, rfl, _, rfl, _, _, rfl, rfl, by omega, R, _, ((one % N : Nat) : Int), _, rfl, congrArg V.int (Int.natCast_emod one N).symm, SqL.of MA8.r, atI_nat (by rw [List.getElem?_map, hr0]; rfl), _, rfl, r0, _, rfl, g8, ?_⟩
        refine ⟨_, rfl, _, rfl, _, rfl, a, _, rfl, hR7, by omega, ?_, fun d H9 d0 dT hR9 kp9 => ?_⟩
        · have := Nat.le_mul_of_pos_left T N0
          omega
        obtain ⟨m, rfl⟩ := Int.eq_ofNat_of_zero_le d0
        have mT : m < T := by omega
        refine ⟨_, _, rfl, rfl, .inl ⟨by omega, by omega⟩, _, _, rfl, rfl, ?_⟩
        have ev : V.int ((δ (one % N) ⟨#[c]⟩ : Nat) + ((N : Int) * (m : Int))) = V.int ((δ (one % N) ⟨#[c]⟩ + N * m : Nat) : Int) := by
          rw [Int.natCast_add, Int.natCast_mul]
        have dlt := mlt _ oN _ cm
        have gW : δ (one % N) ⟨#[c]⟩ + N * m < W := by
          have h2 : N * (m + 1) ≤ N * T := Nat.mul_le_mul_left N mT
          rw [Nat.mul_succ] at h2
          omega
        have gN : (δ (one % N) ⟨#[c]⟩ + N * m) % N = δ (one % N) ⟨#[c]⟩ := by
          rw [Nat.add_mul_mod_self_left, Nat.mod_eq_of_lt dlt]
        have hG9 := kp9 _ _ hG aG
        have gl : gs.length ≤ 100 := by
          have := (List.getElem?_eq_some_iff.mp hsg).1
          omega
        refine ⟨_, hG9, by rw [List.length_map]; exact small1000 (by omega), ?_, fun b o e n => ?_, gs ++ [δ (one % N) ⟨#[c]⟩ + N * m], ?_, by rw [List.length_append, lgs]; rfl, fun q c' g hq hg => ?_⟩
        · obtain ⟨x, y, e, q⟩ := hR9.ex
          exact ⟨x, y, by rw [upd_ne aG.symm]; exact e, q⟩
        · rw [upd_ne (ne_of_none e nG)]
          exact kp9 _ _ (kp7 _ _ e n) n
        · rw [upd_same, List.map_append]
          exact congrArg (fun v => some (HO.lst (_ ++ [v]))) ev
        · by_cases cq : q < gs.length
          · rw [List.getElem?_append_left cq] at hg
            exact hgs q c' g hq hg
          · have hlt := (List.getElem?_eq_some_iff.mp hg).1
            rw [List.length_append] at hlt
            have hlt : q < gs.length + 1 := hlt
            obtain rfl : q = gs.length := by omega
            rw [List.getElem?_append_right (Nat.le_refl _), Nat.sub_self] at hg
            obtain rfl := Option.some.inj hg
            rw [lgs, hsg] at hq
            obtain rfl := Option.some.inj hq
            exact ⟨gW, gN⟩
      rintro H7 ⟨hR7, kp7, gs, hG, lgs, hgs⟩
      have kp67 := kp5.trans kp7
      have hO7 := kp67 _ _ hO aO
      have hL7 := kp7 _ _ hL aL
      refine ⟨_, rfl, .inl ⟨rfl, _, SqL.of hL7⟩, ?_⟩
      refine ⟨_, rfl, _, rfl, z, G, _, rfl, SqL.of hG, fun D nD => ?_⟩
      have hl : (gs.map fun n => V.int (n : Nat)).length = z.cps.size := by rw [List.length_map, lgs]
      have aD' : D ≠ a := hR7.new nD
      refine lc_it (walk_zs (tx := z) (b := G) hl) (fun i H' => Ext H7 H' ∧ ∃ (ts : List Addr) (d : Str → Nat), H' D = some (.lst (ts.map V.ref)) ∧ Paired (fun (t : Addr) (q : Key × V) => H' t = some (.tup [kV q.1, q.2])) ts (rowD ((sgL z).take i) d) ∧ ∀ c ∈ (sgL z).take i, ∃ g, ord[d c]? = some g ∧ g % N = δ (one % N) c)
        ⟨Ext.new nD, [], fun _ => 0, upd_same, .nil, fun c hc => absurd hc List.not_mem_nil⟩ (fun i H' _ h => SqL.of (h.1 _ _ hG)) ?_ ?_
      · rintro i v H8 H9 hi ⟨x8, ts, d, hD, hts, hdl⟩ ⟨T1, x', y', rfl, nT, rfl, e1, e2⟩
        obtain ⟨g, hg, rfl⟩ := at_map e2
        obtain ⟨c, hc, rfl⟩ : ∃ c, z.cps[i]? = some c ∧ x' = V.str ⟨#[c]⟩ := by
          have e1 : Option.map (fun c => V.str ⟨#[c]⟩) z.cps[i]? = some x' := e1
          cases e : z.cps[i]? with
          | none =>
            rw [e] at e1
            cases e1
          | some c =>
            rw [e] at e1
            exact ⟨c, rfl, (Option.some.inj e1).symm⟩
        have hsg := sgL_at hc
        obtain ⟨gW, gN⟩ := hgs i _ g hsg hg
        obtain ⟨ix, hix⟩ := List.getElem?_of_mem (OO.all g gW)
        have lt : ts.length ≤ 100 := by
          have := Paired.length hts
          unfold rowD at this
          rw [List.length_map, List.length_take] at this
          omega
        refine ⟨T1, _, rfl, SqT.of upd_same, rfl, _, _, rfl, _, _, rfl, rfl, rfl, ?_⟩
        dsimp only [tYes]
        rw [if_pos rfl]
        have xT := Ext.new nT (o := .tup [.str ⟨#[c]⟩, .int (g : Nat)])
        have x9 := x8.trans xT
        have hD9 := xT _ _ hD
        have hts9 := Paired.mapP hts fun p q h => xT _ _ h
        generalize upd H8 T1 (.tup [.str ⟨#[c]⟩, .int (g : Nat)]) = H9 at x9 hD9 hts9 ⊢
        have hO9 := x9 _ _ hO7
        refine ⟨_, rfl, _, rfl, .inl ⟨rfl, _, SqL.of hO9⟩, _, rfl, O, _, .int (g : Nat), ix, .int (g : Nat), rfl, rfl, SqL.of hO9, rfl, flat_nats _, by rw [List.getElem?_map, hix]; rfl, decide_eq_true rfl, fun m z' hm hz' => ?_, ?_⟩
        · obtain ⟨g', hg', rfl⟩ := at_map hz'
          refine decide_eq_false fun e => ?_
          obtain rfl : g' = g := by omega
          have := (List.getElem?_inj (List.getElem?_eq_some_iff.mp hg').1 OO.nd).mp (hg'.trans hix.symm)
          omega
        refine ⟨sz2, fun T2 nT2 => ?_⟩
        have xt := Ext.new nT2 (o := .tup [V.str ⟨#[c]⟩, V.int (ix : Nat)])
        have ht : (upd H9 T2 (.tup [V.str ⟨#[c]⟩, V.int (ix : Nat)])) T2 = some (.tup [V.str ⟨#[c]⟩, V.int (ix : Nat)]) := upd_same
        have hD10 := xt _ _ hD9
        have hts10 := Paired.mapP hts9 fun p q h => xt _ _ h
        have x10 := x9.trans xt
        generalize upd H9 T2 (.tup [V.str ⟨#[c]⟩, V.int (ix : Nat)]) = H10 at ht hD10 hts10 x10 ⊢
        have kp : ∀ a xs, H10 a = some (.tup xs) → (upd H10 D (.lst (ts.map V.ref ++ [.ref T2]))) a = some (.tup xs) := fun a xs h => by
          rw [upd_ne (ne_of h hD10 (by intro z; cases z))]
          exact h
        have cnew : ∀ c' ∈ (sgL z).take i, c' ≠ ⟨#[c]⟩ := fun c' hc' e => by
          have h1 : ((sgL z).take (i + 1)).Nodup := ndg.sublist (List.take_sublist _ _)
          rw [take_more hsg] at h1
          exact (List.nodup_append.mp h1).2.2 c' hc' ⟨#[c]⟩ (by simp) e
        refine ⟨_, hD10, by rw [List.length_map]; exact small1000 (by omega), fun b o e => ?_, ts ++ [T2], fun x => if x = ⟨#[c]⟩ then ix else d x, ?_, ?_, fun c' hc' => ?_⟩
        · rw [upd_ne (ne_of_none e nD)]
          exact x10 _ _ e
        · rw [upd_same, List.map_append]
          rfl
        · rw [take_more hsg]
          have e : rowD ((sgL z).take i ++ [⟨#[c]⟩]) (fun x => if x = ⟨#[c]⟩ then ix else d x) = rowD ((sgL z).take i) d ++ [(keyC ⟨#[c]⟩, V.int (ix : Nat))] := by
            have e1 := row_same (sg := (sgL z).take i) (d := fun x => if x = ⟨#[c]⟩ then ix else d x) (e := d) fun c' hc' => if_neg (cnew c' hc')
            rw [← e1]
            unfold rowD
            rw [List.map_append]
            simp
          rw [e]
          exact Paired.snoc (Paired.mapP hts10 fun p q h => kp _ _ h) (kp _ _ ht)
        · rw [take_more hsg] at hc'
          dsimp only
          by_cases e : c' = ⟨#[c]⟩
          · rw [if_pos e, e]
            exact ⟨g, hix, gN⟩
          · rw [if_neg e]
            rcases List.mem_append.mp hc' with h | h
            · exact hdl c' h
            · exact absurd (List.mem_singleton.mp h) e
      · rintro H8 ⟨x8, ts, d, hD, hts, hdl⟩
        rw [zl, List.take_length] at hts hdl
        refine ⟨D, ts, _, rfl, SqL.of hD, Paired.mapP hts fun p q h => SqT.of h, fun r nr => ?_⟩
        rw [merge_row0 ndg]
        have xr := Ext.new nr (o := .dK (rowD (sgL z) d))
        have hr7 : (upd H8 r (.dK (rowD (sgL z) d))) r = some (.dK (rowD (sgL z) d)) := upd_same
        have hL9 := xr _ _ (x8 _ _ hL7)
        have R9 := (hR7.ext x8).ext xr
        have k9 := (kp67.trans (Keep.of x8)).trans (Keep.of (a := a) xr)
        have row9 : ∀ q kvs, H6 q = some (.dK kvs) → (upd H8 r (.dK (rowD (sgL z) d))) q = some (.dK kvs) := fun q kvs h => xr _ _ (x8 _ _ (kp7 _ _ h (by
          obtain ⟨x, y, e, _⟩ := hR5.ex
          exact ne_of h e (by intro z; cases z))))
        generalize upd H8 r (.dK (rowD (sgL z) d)) = H9 at hr7 hL9 R9 k9 row9 ⊢
        have kd : ∀ q kvs, H9 q = some (.dK kvs) → (upd H9 L (.lst (rs'.map V.ref ++ [.ref r]))) q = some (.dK kvs) := fun q kvs h => by
          rw [upd_ne (ne_of h hL9 (by intro z; cases z))]
          exact h
        refine ⟨L, _, _, rfl, rfl, hL9, by rw [List.length_map]; exact small1000 (by omega), _, _, rfl, ?_, fun b o e n => ?_, rs' ++ [r], fun n => if n = j then d else δ' n, by rw [List.length_append, lrs]; rfl, ?_, fun n q e => ?_, fun n o hn ho c hc => ?_⟩
        · obtain ⟨x, y, e, q⟩ := R9.ex
          exact ⟨x, y, by rw [upd_ne aL.symm]; exact e, q⟩
        · rw [upd_ne (ne_of_none e nL)]
          exact k9 _ _ e n
        · rw [upd_same, List.map_append]
          rfl
        · dsimp only
          by_cases cj : n < rs'.length
          · rw [List.getElem?_append_left cj] at e
            rw [if_neg (by omega)]
            exact kd _ _ (row9 _ _ (hrs n q e))
          · have hlt := (List.getElem?_eq_some_iff.mp e).1
            rw [List.length_append] at hlt
            have hlt : n < rs'.length + 1 := hlt
            obtain rfl : n = rs'.length := by omega
            rw [List.getElem?_append_right (Nat.le_refl _), Nat.sub_self] at e
            obtain rfl := Option.some.inj e
            rw [if_pos lrs]
            exact kd _ _ hr7
        · dsimp only
          by_cases e : n = j
          · rw [if_pos e]
            rw [e, h1] at ho
            obtain rfl := Option.some.inj ho
            exact hdl c hc
          · rw [if_neg e]
            exact hst n o (by omega) ho c hc
    · rintro σ H5 ⟨v10, v11, rfl, hR5, kp5, rs', δ', lrs, hL, hrs, hst⟩
      rw [lenN] at lrs hst
      have hO5 := kp5 _ _ hO aO
      refine ⟨_, rfl, _, rfl, _, rfl, true, O, _, rfl, SqK.l hO5, fun Em nE => ?_⟩
      have lq : ∀ i, i ≤ W → ((List.range i).filter fun q => decide (ord.getD q 0 % N ∈ mem)).length ≤ 40 := fun i hi => by
        refine Nat.le_trans (List.length_filter_le _ _) ?_
        rw [List.length_range]
        omega
      refine lc_it (walk_enumK (xs := ord.map fun n => V.int (n : Nat))) (fun i H' => Ext H5 H' ∧ H' Em = some (.lst (((List.range i).filter fun q => decide (ord.getD q 0 % N ∈ mem)).map fun n => V.int (n : Nat)))) ⟨Ext.new nE, upd_same⟩ (fun i H' _ h => SqK.l (h.1 _ _ hO5)) ?_ ?_
      · rintro i x H6 H7 hi ⟨x6, hE6⟩ ⟨T1, x', y', rfl, nT, rfl, e1, e2⟩
        obtain ⟨o, ho, rfl⟩ := at_map e2
        cases e1
        have iW : i < W := by
          rw [← OO.len]
          exact (List.getElem?_eq_some_iff.mp ho).1
        have eo : ord.getD i 0 = o := by rw [List.getD_eq_getElem?_getD, ho]; rfl
        refine ⟨T1, _, rfl, SqT.of upd_same, rfl, _, _, rfl, _, _, rfl, rfl, rfl, ?_⟩
        have xT := Ext.new nT (o := .tup [.int (i : Nat), .int (o : Nat)])
        have x7 := x6.trans xT
        have hE7 := xT _ _ hE6
        generalize upd H6 T1 (.tup [.int (i : Nat), .int (o : Nat)]) = H7 at x7 hE7 ⊢
        have hE8 := x7 _ _ (kp5 _ _ (kp4 _ _ MA.e nEa) nEa)
        refine ⟨_, rfl, _, rfl, _, _, rfl, rfl, by omega, _, rfl, E1, _, rfl, .inl (SqL.of hE8), rfl, flat_nats _, ?_⟩
        have em : V.int ((o : Int) % (N : Int)) = V.int ((o % N : Nat) : Int) := congrArg V.int (Int.natCast_emod o N).symm
        have ei : inV (V.int ((o : Int) % (N : Int))) (mem.map fun n => V.int (n : Nat)) = decide (o % N ∈ mem) := by rw [em, inV_nat]
        rw [if_neg Bool.false_ne_true]
        refine ⟨_, congrArg V.bl ei, ?_⟩
        have en : (List.range (i + 1)).filter (fun q => decide (ord.getD q 0 % N ∈ mem)) = (List.range i).filter (fun q => decide (ord.getD q 0 % N ∈ mem)) ++ if decide (o % N ∈ mem) = true then [i] else [] := by
          rw [List.range_succ, List.filter_append, List.filter_cons, List.filter_nil, eo]
        have l40 := lq i (by omega)
        cases ch : decide (o % N ∈ mem) with
        | true =>
          rw [ch] at en
          dsimp only
          rw [if_pos rfl]
          refine ⟨_, rfl, _, hE7, by rw [List.length_map]; exact small1000 (by omega), fun a o e => ?_, ?_⟩
          · rw [upd_ne (ne_of_none e nE)]
            exact x7 _ _ e
          · rw [upd_same, en]
            simp
        | false =>
          rw [ch] at en
          dsimp only
          rw [if_neg Bool.false_ne_true]
          refine ⟨x7, ?_⟩
          rw [en]
          simpa using hE7
      · rintro H6 ⟨x6, hE6⟩
        rw [lenN] at hE6
        refine ⟨sz3, fun t' nt' => ?_⟩
        have xt := Ext.new nt' (o := .tup [V.str z, V.ref L, V.ref Em])
        have fr : ∀ {G G' : Hp} {q : Addr}, Keep a G G' → Rng G' a → G' q = none → G q = none := fun kp r n => by
          obtain ⟨x, y, e, _⟩ := r.ex
          exact kp.free e n
        have kp45 := kp4.trans kp5
        have hgt : ∀ i, i < W → ∃ o, ord[i]? = some o ∧ ord.getD i 0 = o := fun i hi => by
          have hi : i < ord.length := by rw [OO.len]; exact hi
          exact ⟨ord[i], List.getElem?_eq_getElem hi, by rw [List.getD_eq_getElem?_getD, List.getElem?_eq_getElem hi]; rfl⟩
        refine k _ t' L Em rs' δ' ((List.range W).filter fun q => decide (ord.getD q 0 % N ∈ mem)) (fun i => ord.getD i 0 % N) ((hR5.ext x6).ext xt) ((kp45.trans (Keep.of x6)).trans (Keep.of xt)) (fr kp4 hR4 nL) (fr kp45 hR5 nE) (fr kp45 hR5 (x6.free nt'))
          ⟨upd_same, xt _ _ (x6 _ _ hL), fun i q e => xt _ _ (x6 _ _ (hrs i q e)), xt _ _ hE6⟩
          ⟨by omega, by omega, fun n hn c hc => ?_, List.nodup_range.sublist List.filter_sublist, fun n hn => ?_⟩ ⟨?_, fun i hi => ?_, fun i hi c hc => ?_, fun i hi => ?_⟩
        · rw [lrs] at hn ⊢
          obtain ⟨o, ho, _⟩ := hgt n hn
          obtain ⟨g, hg, _⟩ := hst n o hn ho c hc
          rw [← OO.len]
          exact (List.getElem?_eq_some_iff.mp hg).1
        · rw [lrs]
          exact List.mem_range.mp (List.mem_filter.mp hn).1
        · show ord.getD 0 0 % N = 0
          rw [List.getD_eq_getElem?_getD, OO.zero]
          exact Nat.zero_mod _
        · rw [eN]
          exact Nat.mod_lt _ N0
        · rw [lrs] at hi
          obtain ⟨o, ho, eo⟩ := hgt i hi
          obtain ⟨g, hg, gN⟩ := hst i o hi ho c hc
          show ord.getD (δ' i c) 0 % N = δ (ord.getD i 0 % N) c
          rw [eo, ← gN, List.getD_eq_getElem?_getD, hg]
          rfl
        · rw [lrs] at hi
          rw [List.mem_filter, List.mem_range, decide_eq_true_eq]
          exact ⟨fun h => h.2, fun h => ⟨hi, h⟩⟩
end
end Sl
/-! ## A15 -/
set_option Elab.async false
set_option linter.all false
set_option maxRecDepth 100000
set_option maxHeartbeats 4000000
set_option pp.maxSteps 900
set_option pp.deepTerms false
/-! what the languages of both machines have in common; == with a tuple -/
namespace Sl
open PySem PySem.Spec PyProof.Rows L2 TxS LamX NdefX
section
variable {sg : List Str} {M N N' : Nat} {δ' δ : Nat → Str → Nat} {found mem mem' : List Nat} {ρ : Nat → Nat}
/-- the least machine has no more states than any that accepts the same -/
theorem can_le (A : Can sg M δ' found) (pos : 0 < N) (lt : ∀ n, n < N → ∀ c ∈ sg, δ n c < N) (acc : ∀ w : List Str, (∀ c ∈ w, c ∈ sg) → (run δ' 0 w ∈ found ↔ run δ 0 w ∈ mem)) : M ≤ N := by
  classical
  let f : Nat → Nat := fun b => if h : b < M then run δ 0 (A.reach b h).choose else 0
  have fl : ∀ b, b < M → f b < N := fun b hb => by
    show (if h : b < M then run δ 0 (A.reach b h).choose else 0) < N
    rw [dif_pos hb]
    exact run_lt lt _ 0 pos (A.reach b hb).choose_spec.1
  have inj : ∀ a, a < M → ∀ b, b < M → f a = f b → a = b := fun a ha b hb e => by
    have e : (if h : a < M then run δ 0 (A.reach a h).choose else 0) = (if h : b < M then run δ 0 (A.reach b h).choose else 0) := e
    rw [dif_pos ha, dif_pos hb] at e
    obtain ⟨h1, e1⟩ := (A.reach a ha).choose_spec
    obtain ⟨h2, e2⟩ := (A.reach b hb).choose_spec
    generalize (A.reach a ha).choose = u at h1 e1 e
    generalize (A.reach b hb).choose = v at h2 e2 e
    refine A.dist a ha b hb fun w hw => ?_
    rw [← e1, ← e2, ← run_app, ← run_app, acc _ fun c hc => (List.mem_append.mp hc).elim (h1 c) (hw c), acc _ fun c hc => (List.mem_append.mp hc).elim (h2 c) (hw c), run_app, run_app, e]
  have nd : ((List.range M).map f).Nodup := by
    unfold List.Nodup
    rw [List.pairwise_map]
    refine (List.nodup_range (n := M)).imp_of_mem fun {a b} ha hb ne e => ne (inj a (List.mem_range.mp ha) b (List.mem_range.mp hb) e)
  have h := nodup_len nd fun x hx => by
    obtain ⟨b, hb, rfl⟩ := List.mem_map.mp hx
    exact fl b (List.mem_range.mp hb)
  rwa [List.length_map, List.length_range] at h
theorem dbl_run (D : DblOk sg N δ mem N' δ' mem' ρ) (lt : ∀ n, n < N' → ∀ c ∈ sg, δ' n c < N') : ∀ (w : List Str) (i : Nat), i < N' → (∀ c ∈ w, c ∈ sg) → ρ (run δ' i w) = run δ (ρ i) w
  | [], _, _, _ => rfl
  | c :: w, i, hi, hw => by
    have hc := hw c List.mem_cons_self
    rw [run_cons, run_cons, dbl_run D lt w _ (lt i hi c hc) fun d h => hw d (List.mem_cons_of_mem _ h), D.step i hi c hc]
theorem dbl_acc (D : DblOk sg N δ mem N' δ' mem' ρ) (lt : ∀ n, n < N' → ∀ c ∈ sg, δ' n c < N') {i : Nat} (hi : i < N') {w : List Str} (hw : ∀ c ∈ w, c ∈ sg) : run δ' i w ∈ mem' ↔ run δ (ρ i) w ∈ mem := by
  rw [D.mem _ (run_lt lt w i hi hw), dbl_run D lt w i hi hw]
theorem dbl_few (D : DblOk sg N δ mem N' δ' mem' ρ) (lt : ∀ n, n < N' → ∀ c ∈ sg, δ' n c < N') (n6 : N ≤ 6) : Few sg δ' mem' N' 6 :=
  ⟨ρ, fun n hn => Nat.lt_of_lt_of_le (D.lt n hn) n6, fun n hn m hm e w hw => by rw [dbl_acc D lt hn hw, dbl_acc D lt hm hw, e]⟩
/-- the law's machine, or one that accepts the same -/
structure SameAs (sg : List Str) (δ : Nat → Str → Nat) (mem : List Nat) (N' : Nat) (δ' : Nat → Str → Nat) (mem' : List Nat) : Prop where
  ok : MacOk sg N' δ' mem' 40
  few : Few sg δ' mem' N' 6
  acc : ∀ w : List Str, (∀ c ∈ w, c ∈ sg) → (run δ' 0 w ∈ mem' ↔ run δ 0 w ∈ mem)
theorem same_own (MO : MacOk sg N δ mem 5) : SameAs sg δ mem N δ mem :=
  ⟨⟨MO.pos, Nat.le_trans MO.le (by decide), MO.lt, MO.nd, MO.ml⟩, few_all (Nat.le_trans MO.le (by decide)), fun _ _ => Iff.rfl⟩
theorem same_dbl (MO : MacOk sg N δ mem 5) (MD : MacOk sg N' δ' mem' 40) (D : DblOk sg N δ mem N' δ' mem' ρ) : SameAs sg δ mem N' δ' mem' :=
  ⟨MD, dbl_few D MD.lt (Nat.le_trans MO.le (by decide)), fun w hw => by rw [dbl_acc D MD.lt MD.pos hw, D.zero]⟩
theorem few_rev (f : Few sg δ mem N 6) : Few sg δ mem.reverse N 6 := by
  obtain ⟨ρ, h1, h2⟩ := f
  refine ⟨ρ, h1, fun n hn m hm e w hw => ?_⟩
  rw [List.mem_reverse, List.mem_reverse]
  exact h2 n hn m hm e w hw
end
theorem LangAt.stay {C : Addr} {H H' : Hp} {p : Addr} {z : Str} {M : Nat} {d : Nat → Str → Nat} {found live : List Nat} (L : LangAt C H p z M d found live) (x : StayN H H') : LangAt C H' p z M d found live := by
  obtain ⟨dx, fs, L, rs, Me, Li, h1, h2, h3, h4, h5, h6, h7, h8, h9, h10, h11⟩ := L.ex
  exact ⟨dx, fs, L, rs, Me, Li, x _ _ h1 (by intro ps q; cases q), h2, h3, x _ _ h4 (by intro ps q; cases q), h5, fun i r e => x _ _ (h6 i r e) (by intro ps q; cases q), h7, x _ _ h8 (by intro ps q; cases q), h9, x _ _ h10 (by intro ps q; cases q), h11⟩
theorem tabs_keep {T : List (Addr × Str)} {a : Addr} {H H' : Hp} (t : Tabs T H) (r : Rng H a) (k : Keep a H H') : Tabs T H' := fun q hq => by
  obtain ⟨ps, a1, a2, a3⟩ := t q hq
  obtain ⟨x1, y1, e1, _⟩ := r.ex
  refine ⟨ps, k _ _ a1 (ne_of a1 e1 (by intro z; cases z)), a2, fun pos cv hc => ?_⟩
  obtain ⟨c, e, a4⟩ := a3 pos cv hc
  exact ⟨c, e, k _ _ a4 (ne_of a4 e1 (by intro z; unfold CodeO at z; cases z))⟩
/-- the own == of the class at C -/
structure EqC (K : PySem.W.Frag) (C f : Addr) (fd : FuncData) : Prop where
  hs : PySem.W.findIn K (.ref C) "__eq__" = some (some (.ref f))
  hf : PySem.W.isFn K (.ref f) = true
  hb : Binds K fd ["self", "other"] []
  ne : PySem.W.findIn K (.ref C) "__ne__" = some (some (.builtin "object.__ne__"))
  hm : PySem.W.mroIn K C (.type "object") = some true
  nf : PySem.W.notFirst K C (.ref C) = true
/-- what is known of a made language -/
theorem law_ok {z : Str} {M N N' : Nat} {δ' δ ε : Nat → Str → Nat} {found live mem mem' : List Nat} (sg : SgOk z) (l3 : z.length ≤ 3) (MO : MacOk (sgL z) N δ mem 5) (S : SameAs (sgL z) δ mem N' ε mem') (LO : LeastOf (sgL z) ε mem'.reverse N' M δ' found) (lv : ∀ n, n < M → (n ∈ live ↔ Leads (gOf (sgL z) δ') found n)) : LawOk z M δ' found live N δ mem := by
  have acc : ∀ w : List Str, (∀ c ∈ w, c ∈ sgL z) → (run δ' 0 w ∈ found ↔ run δ 0 w ∈ mem) := fun w hw => by
    rw [LO.acc w hw, List.mem_reverse]
    exact S.acc w hw
  have m5 : M ≤ 5 := Nat.le_trans (can_le LO.can MO.pos MO.lt acc) MO.le
  have zl : z.cps.size ≤ 3 := l3
  exact ⟨sg, l3, ⟨LO.pos, by omega, LO.lt, by omega⟩, m5, LO.can, acc, lv, MO⟩
/-- what stood when it was made but for two places -/
theorem LangNew.keepS {C a S : Addr} {H2 H3 H' : Hp} {x : Addr} {z : Str} {M : Nat} {δ : Nat → Str → Nat} {found live : List Nat} (N : LangNew C H2 H3 x z M δ found live) (nx : H2 x = none) (ha : H2 a ≠ none) (hS : H2 S ≠ none) (k : ∀ b o, H3 b = some o → (∀ ps, o ≠ .tbl ps) → b ≠ a → b ≠ S → H' b = some o) : LangNew C H2 H' x z M δ found live := by
  obtain ⟨dx, fs, L, rr, Me, Li, ⟨h1, h2, h3, h4, h5, h6, h7, h8, h9, h10, h11⟩, f1, f2, f3, f4⟩ := N.ex
  have na : ∀ {b : Addr}, H2 b = none → b ≠ a := fun e c => ha (c ▸ e)
  have nS : ∀ {b : Addr}, H2 b = none → b ≠ S := fun e c => hS (c ▸ e)
  exact ⟨dx, fs, L, rr, Me, Li, ⟨k _ _ h1 (by intro ps q; cases q) (na nx) (nS nx), h2, h3, k _ _ h4 (by intro ps q; cases q) (na f1) (nS f1), h5, fun i q e => k _ _ (h6 i q e) (by intro ps q; cases q) (na (f2 q (List.mem_of_getElem? e))) (nS (f2 q (List.mem_of_getElem? e))), h7, k _ _ h8 (by intro ps q; cases q) (na f3) (nS f3), h9, k _ _ h10 (by intro ps q; cases q) (na f4) (nS f4), h11⟩, f1, f2, f3, f4⟩
/-- == with a language of the same rows, with a tuple -/
def spEqH (K : PySem.W.Frag) (C : Addr) : Sp := fun vs H Q _ => ∃ (p q : Addr) (z : Str) (M : Nat) (δ : Nat → Str → Nat) (found live : List Nat), vs = [.ref p, .ref q] ∧ LangAt C H p z M δ found live ∧
  ((∃ (δ' : Nat → Str → Nat) (live' : List Nat), LangAt C H q z M δ' found live' ∧ (∀ i, i < M → ∀ c ∈ sgL z, δ i c = δ' i c) ∧ Q (.bl true) H) ∨ ∃ xs : List V, H q = some (.tup xs) ∧ Q (.bl false) H)
section
variable {P : Program} {w : World} {K : PySem.W.Frag} {mg : Str → Option Value} {base : Heap}
theorem ok_eqH {f C : Addr} {fd : FuncData} (F : Fun K "__eq__" "Language.__eq__" sEqL f fd) (T : LgC K C) (iC : C8.InsC K C) (gC : mg "Language" = some (.ref C)) (kT : PySem.W.kitOne K (.type "tuple") (.ref C) = some false) (zz : mg "isinstance" = none) :
    FnOk P w K mg base CX0 1 f fd ["self", "other"] (spEqH K C) := by
  refine F.ok scEqL (fun vs H Q E h => ?_) (fun cdv A0 outer s H vs Q E hr h => ?_)
  · obtain ⟨p, q, z, M, δ, found, live, rfl, _⟩ := h
    rfl
  · obtain ⟨p, q, z, M, δ, found, live, rfl, LA, h⟩ := h
    have hu0 := hr.units
    obtain ⟨dx, fs, L, rs, Me, Li, hp, f1, f2, hL, lrs, hrs, f3, hMe, _⟩ := LA.ex
    refine ⟨_, pss_cons (ps_if (pt_not (pt_val (pe_callB call_isi (by rfl) zz (by decide +kernel) (pa_cons (pv 1) (pa_cons (pe_glob (v := .ref C) (by rfl) gC (show RelV (V.ref C) (Value.ref C) from rfl)) pa_nil))))) (pss_one (ps_ret pe_bl)) pss_nil)
      (pss_one (ps_ret (pe_and (pe_cmpR op_eq (pe_fld (pv 0) rfl) (pe_fld (pv 1) rfl) (nomark _))
        (pe_and (pe_cmpR (op_eqV hu0) (pe_fld (pv 0) rfl) (pe_fld (pv 1) rfl) (nomark _))
        (pe_one (pe_cmpR (op_eqD hu0) (pe_fld (pv 0) rfl) (pe_fld (pv 1) rfl) (nomark _))))))), ?_⟩
    rcases h with ⟨δ', live', LB, ee, k⟩ | ⟨xs, hq, k⟩
    · obtain ⟨dy, gs, L', rs', Me', Li', hq, g1, g2, hL', lrs', hrs', g3, hMe', _⟩ := LB.ex
      refine ⟨_, rfl, .ref q, .ref C, .ref C, .ref C, true, rfl, .own C, .base (TyOf.ins hq iC.cl iC.ha iC.hn iC.htk iC.hm), iC.me, true, rfl, iteF ?_⟩
      refine ⟨_, rfl, p, C, dx, fs, _, rfl, hp, T.cl, T.nG, f1, _, rfl, q, C, dy, gs, _, rfl, hq, T.cl, T.nG, g1, rfl, ?_⟩
      have e1 : decide (V.str z = V.str z) = true := decide_eq_true rfl
      rw [e1]
      refine ⟨_, rfl, iteT ?_⟩
      refine ⟨_, rfl, p, C, dx, fs, _, rfl, hp, T.cl, T.nS, f2, _, rfl, q, C, dy, gs, _, rfl, hq, T.cl, T.nS, g2, 2, by decide, .inl ⟨L, L', _, _, rfl, rfl, SqL.of hL, SqL.of hL', rows_eqV (by rw [lrs, lrs']) hrs hrs' (by rw [lrs]; exact ee)⟩, ?_⟩
      refine ⟨_, rfl, iteT ?_⟩
      refine ⟨_, rfl, p, C, dx, fs, _, rfl, hp, T.cl, T.nM, f3, _, rfl, q, C, dy, gs, _, rfl, hq, T.cl, T.nM, g3, .tuple _, .tuple _, .tup (SqT.of hMe) (nats_dp found), .tup (SqT.of hMe') (nats_dp found), nats_shaped found, nats_shaped found, ?_⟩
      have e2 : PyData.eqv (.tuple (found.map fun n => PyData.int (n : Nat))) (.tuple (found.map fun n => PyData.int (n : Nat))) = true := by
        simp only [PyData.eqv, nats_eqv]
      rw [e2]
      exact k
    · refine ⟨_, rfl, .ref q, .ref C, .type "tuple", .ref C, false, rfl, .own C, .base (.tup hq), kT, false, rfl, iteT ?_⟩
      exact k
end
end Sl
/-! ## A16 -/
set_option Elab.async false
set_option linter.all false
set_option maxRecDepth 100000
set_option maxHeartbeats 4000000
set_option pp.maxSteps 900
set_option pp.deepTerms false
/-! _law_right -/
namespace Sl
open PySem PySem.Spec PyProof.Rows L2 TxS LamX NdefX
abbrev sRight : Stmt := top 59
abbrev nRight : List Str := ["_law_rng_here", "_law_abc", "_law_machine", "_law_wide", "_law_notes", "_law_some", "_law_one", "_law_lines", "_law_stops", "_law_made", "_law_line"]
def spRight (T : List (Addr × Str)) : Sp := fun vs H Q _ => ∃ a : Addr, vs = [.ref a] ∧ Rng H a ∧ Tabs T H ∧ ∀ H', KeepN a H H' → Tabs T H' → Q (.bl true) H'
theorem rows_same {H : Hp} {sg : List Str} {rs : List Addr} {d e : Nat → Str → Nat} (h : RowsD H rs sg d) (k : ∀ b, b < rs.length → ∀ c ∈ sg, d b c = e b c) : RowsD H rs sg e := fun i r q => by
  rw [h i r q, row_same (k i (List.getElem?_eq_some_iff.mp q).1)]
theorem LangAt.same {C : Addr} {H : Hp} {p : Addr} {z : Str} {M : Nat} {d e : Nat → Str → Nat} {found live : List Nat} (L : LangAt C H p z M d found live) (h : ∀ b, b < M → ∀ c ∈ sgL z, d b c = e b c) : LangAt C H p z M e found live := by
  obtain ⟨dx, fs, L, rs, Me, Li, h1, h2, h3, h4, h5, h6, r⟩ := L.ex
  exact ⟨dx, fs, L, rs, Me, Li, h1, h2, h3, h4, h5, rows_same h6 (by rw [h5]; exact h), r⟩
theorem MacAt.ext {H H' : Hp} (x : Ext H H') {t R E : Addr} {z : Str} {rs : List Addr} {δ : Nat → Str → Nat} {mem : List Nat} (h : MacAt H t z R E rs δ mem) : MacAt H' t z R E rs δ mem := ⟨x _ _ h.t, x _ _ h.r, h.rows.ext x, x _ _ h.e⟩
theorem MacAt.stay {H H' : Hp} (x : StayN H H') {t R E : Addr} {z : Str} {rs : List Addr} {δ : Nat → Str → Nat} {mem : List Nat} (h : MacAt H t z R E rs δ mem) : MacAt H' t z R E rs δ mem :=
  ⟨x _ _ h.t (by intro ps q; cases q), x _ _ h.r (by intro ps q; cases q), fun i r e => x _ _ (h.rows i r e) (by intro ps q; cases q), x _ _ h.e (by intro ps q; cases q)⟩
/-- .. but for two places -/
def StayS (a S : Addr) (H H' : Hp) : Prop := ∀ b o, H b = some o → (∀ ps, o ≠ .tbl ps) → b ≠ a → b ≠ S → H' b = some o
theorem MacAt.stayS {a S : Addr} {H H' : Hp} (x : StayS a S H H') {t R E : Addr} {z : Str} {rs : List Addr} {δ : Nat → Str → Nat} {mem : List Nat} (h : MacAt H t z R E rs δ mem) (rg : Rng H a) (Ra : R ≠ a) (Ea : E ≠ a) {xs : List V} (hS : H S = some (.lst xs)) (RS : R ≠ S) (ES : E ≠ S) : MacAt H' t z R E rs δ mem := by
  obtain ⟨x1, y1, e1, _⟩ := rg.ex
  exact ⟨x _ _ h.t (by intro ps q; cases q) (ne_of h.t e1 (by intro z; cases z)) (ne_of h.t hS (by intro z; cases z)), x _ _ h.r (by intro ps q; cases q) Ra RS, fun i r e => x _ _ (h.rows i r e) (by intro ps q; cases q) (ne_of (h.rows i r e) e1 (by intro z; cases z)) (ne_of (h.rows i r e) hS (by intro z; cases z)), x _ _ h.e (by intro ps q; cases q) Ea ES⟩
/-- a language of the machine, made since H2 -/
def LawNew (C : Addr) (H2 H' : Hp) (z : Str) (N : Nat) (δ : Nat → Str → Nat) (mem : List Nat) (x : Addr) : Prop := H2 x = none ∧ ∃ (M : Nat) (δ' : Nat → Str → Nat) (found live : List Nat), LangNew C H2 H' x z M δ' found live ∧ LawOk z M δ' found live N δ mem
theorem made_langR {K : PySem.W.Frag} {C : Addr} {T : List (Addr × Str)} {H : Hp} {kb km : Bool} {st ms : Addr} {z : Str} {rows : List Addr} {mem : List Nat} {δ : Nat → Str → Nat} {R : Addr → Hp → Prop} {E : XK} (m : MkL K T H kb km st ms z rows mem δ)
    (o : ∀ (H' : Hp) (x : Addr) (M : Nat) (δ' : Nat → Str → Nat) (found live : List Nat), StayN H H' → (∀ b, H' b = none → H b = none) → Tabs T H' → H x = none → LangNew C H H' x z M δ' found live → LeastOf (sgL z) δ mem rows.length M δ' found → (∀ n, n < M → (n ∈ live ↔ Leads (gOf (sgL z) δ') found n)) → R x H') :
    ∀ x dx, H x = none → H dx = none → dx ≠ x → spLInit K C T [.ref x, .str z, .ref st, .ref ms] (upd (upd H dx (.own x)) x (.ins C dx [])) (fun v H3 => v = .non ∧ R x H3) E := by
  intro x dx nx ndx ne
  have e1 : Ext H (upd (upd H dx (.own x)) x (.ins C dx [])) := (Ext.new ndx).trans (Ext.new (by rw [upd_ne (Ne.symm ne)]; exact nx))
  have i1 : (upd (upd H dx (.own x)) x (.ins C dx [])) x = some (.ins C dx []) := upd_same
  generalize upd (upd H dx (.own x)) x (.ins C dx []) = H1 at e1 i1 ⊢
  refine ⟨x, dx, kb, km, z, st, ms, rows, mem, δ, rfl, i1, m.sg, m.st_.ext e1, rowsD_at (m.rw_.ext e1), rowsD_len (m.rw_.ext e1), m.ms_.ext e1, m.ok.nd, m.ok.ml, m.ok.pos, m.ok.le, m.few, m.ok.lt, m.tb.ext e1, fun H' M δ' found live kn nn T' LN LO lv => ⟨rfl, ?_⟩⟩
  refine o H' x M δ' found live (fun b u e n => kn b u (e1 _ _ e) n (ne_of_none e nx)) (fun b e => e1.free (nn b e)) T' nx ?_ LO lv
  obtain ⟨dx', fs, L, rs, Me, Li, h, f1, f2, f3, f4⟩ := LN.ex
  exact ⟨dx', fs, L, rs, Me, Li, h, e1.free f1, fun r hr => e1.free (f2 r hr), e1.free f3, e1.free f4⟩
section
variable {P : Program} {w : World} {K : PySem.W.Frag} {mg : Str → Option Value} {base : Heap}
theorem scRight : FnScope nRight ["_law_rng_here"] (defScope sRight) := ⟨rfl, rfl, rfl, by decide +kernel, rfl, by decide +kernel, by decide +kernel⟩
theorem ok_right {T : List (Addr × Str)} {f fD fLt fC fDb fTx fW fA fM fV fE fRep fI C : Addr} {fd fdD fdLt fdC fdDb fdTx fdW fdA fdM fdV fdE fdRep fdI : FuncData} (F : Fun K "_law_right" "_law_right" sRight f fd)
    (aD : At K mg "_law_draw" fD fdD ["_law_rng_here", "_law_many"] []) (gD : FnOk P w K mg base CX0 1 fD fdD ["_law_rng_here", "_law_many"] spDraw)
    (aLt : At K mg "_law_letters" fLt fdLt ["_law_rng_here", "_law_many"] []) (gLt : FnOk P w K mg base CX0 2 fLt fdLt ["_law_rng_here", "_law_many"] spLetters)
    (aC : At K mg "_law_class" fC fdC ["_law_rng_here", "_law_cap", "_law_abc"] []) (gC : FnOk P w K mg base CX0 2 fC fdC ["_law_rng_here", "_law_cap", "_law_abc"] spClass)
    (aDb : At K mg "_law_doubled" fDb fdDb ["_law_rng_here", "_law_machine"] []) (gDb : FnOk P w K mg base CX0 2 fDb fdDb ["_law_rng_here", "_law_machine"] spDbl)
    (aTx : At K mg "_law_texts" fTx fdTx ["_law_abc", "_law_cap"] []) (gTx : FnOk P w K mg base CX0 1 fTx fdTx ["_law_abc", "_law_cap"] spTexts)
    (aW : At K mg "_law_walks_right" fW fdW ["_law_made", "_law_machine", "_law_notes"] []) (gW : FnG P w K mg base CX0 6 fW fdW ["_law_made", "_law_machine", "_law_notes"] (spWalksR C))
    (aA : At K mg "_law_apart" fA fdA ["_law_made", "_law_abc"] []) (gA : FnG P w K mg base CX0 5 fA fdA ["_law_made", "_law_abc"] (spApart C))
    (aM : At K mg "_law_members_right" fM fdM ["_law_made", "_law_machine", "_law_notes"] []) (gM : FnOk P w K mg base CX0 12 fM fdM ["_law_made", "_law_machine", "_law_notes"] (spMemR C T))
    (aV : At K mg "_law_values_right" fV fdV ["_law_made", "_law_abc"] []) (gV : FnOk P w K mg base CX0 5 fV fdV ["_law_made", "_law_abc"] (spValsR C))
    (iC : C8.InsC K C) (eC : EqC K C fE fdE) (fT : PySem.W.notFirst K C (.type "tuple") = true) (gE : FnOk P w K mg base CX0 1 fE fdE ["self", "other"] (spEqH K C))
    (mRep : L2.Meth K C "__repr__" fRep) (bRep : L2.Binds K fdRep ["self"] []) (gRep : FnG P w K mg base CX0 1 fRep fdRep ["self"] (spReprL C))
    (gL : mg "Language" = some (.ref C)) (Mk : Mk K C fI) (gI : FnOk P w K mg base CX0 6 fI fdI ["self", "signs", "states", "member_states"] (spLInit K C T)) (bI : L2.Binds K fdI ["self", "signs", "states", "member_states"] [])
    (zp : mg "repr" = none) (zs : mg "sorted" = none) (zn : mg "len" = none) (zd : mg "dict" = none) (zt : mg "tuple" = none) (zl : mg "list" = none) : FnG P w K mg base CX0 13 f fd ["_law_rng_here"] (spRight T) := by
  refine Sl.Fun.okG F scRight (fun vs H Q E h => ?_) (fun cdv A0 outer s H vs Q E gd hr h => ?_)
  · obtain ⟨a, rfl, _⟩ := h
    rfl
  · obtain ⟨a, rfl, hR, hT, kk⟩ := h
    have hr1 := hr.mono (show 1 ≤ 12 by omega)
    have hr2 := hr.mono (show 2 ≤ 12 by omega)
    have hr5 := hr.mono (show 5 ≤ 12 by omega)
    have hr6 := hr.mono (show 6 ≤ 12 by omega)
    have hr7 := hr.mono (show 7 ≤ 12 by omega)
    refine ⟨_, pss_cons (ps_set (i := 1) scRight.nd rfl (.inl rfl) (pe_join pe_str (pe_callB cr_sortedS (by rfl) zs (by decide +kernel) (pa_cons (pe_call (E := fun _ _ _ => False) gLt hr2 (by rfl) aLt.g aLt.kp aLt.b .nil pass0 (pa_cons (pv 0) (pa_cons (pe_op op_add pe_int (pe_call (E := fun _ _ _ => False) gD hr1 (by rfl) aD.g aD.kp aD.b .nil pass0 (pa_cons (pv 0) (pa_cons pe_int pa_nil)))) pa_nil))) pa_nil))))
      (pss_cons (ps_set (i := 2) scRight.nd rfl (.inl rfl) (pe_call (E := fun _ _ _ => False) gC hr2 (by rfl) aC.g aC.kp aC.b .nil pass0 (pa_cons (pv 0) (pa_cons pe_int (pa_cons (pv 1) pa_nil)))))
      (pss_cons (ps_set (i := 3) scRight.nd rfl (.inl rfl) (pe_call (E := fun _ _ _ => False) gDb hr2 (by rfl) aDb.g aDb.kp aDb.b .nil pass0 (pa_cons (pv 0) (pa_cons (pv 2) pa_nil))))
      (pss_cons (ps_set (i := 4) scRight.nd rfl (.inl rfl) (pe_call (E := fun _ _ _ => False) gTx hr1 (by rfl) aTx.g aTx.kp aTx.b .nil pass0 (pa_cons (pv 1) (pa_cons (pe_ifExp (pt_cmpR op_lt (pe_callB call_len_str (by rfl) zn PySem.boot_len (pa_cons (pv 1) pa_nil)) pe_int (nomark _)) pe_int pe_int) pa_nil))))
      (pss_cons (ps_set (i := 5) scRight.nd rfl (.inl rfl) (pe_lst pa_nil))
      (pss_cons (ps_for (passes_of rfl) rfl (pi_tup (pe_tup (pa_cons (pv 2) (pa_cons (pv 3) pa_nil)))) (pg_name (i := 6) scRight.nd rfl (.inl rfl))
        (pss_cons (ps_par (i := 7) (j := 8) (by rfl) scRight.nd rfl rfl (by decide) rfl rfl (pa_cons (pe_lc (own := [("_law_line", 10)]) (g := gName 10) (tt := tYes) (te := tCB rDictC (tCons (tVar 10) tNil)) rfl scRight.nd (pi_list (pe_ix ix_tup (pv 6) pe_int (fun _ _ => rfl)))
              (blkOk_by (N := nRight) (sc := defScope sRight) (by decide +kernel)) (fun _ _ _ _ _ => pg_name (i := 10) scRight.nd rfl (Or.inl rfl)) (fun _ _ _ _ _ => pts_nil) (fun _ _ _ _ _ => pe_callTy (T := "dict") (r := rDictC) call_dictD (by rfl) zd (by decide +kernel) (pa_cons (pv 10) pa_nil)))
            (pa_cons (pe_revL (pe_callTy call_list_of (by rfl) zl (by decide +kernel) (pa_cons (pe_ix ix_tup (pv 6) pe_int (fun _ _ => rfl)) pa_nil))) pa_nil)) (by rfl))
        (pss_cons (ps_expr (pe_bm PySem.F.plainAttrs_list PySem.F.slot_list_append PySem.F.type_list_append mt_append (pv 5) (pa_cons (pe_make (E := fun _ _ _ => False) Mk gI hr7 (by rfl) gL bI .nil pass0 (pa_cons (pv 1)
              (pa_cons (pe_ix ix_list (pe_lst (pa_cons (pv 7) (pa_cons (pe_callTy call_tuple_of (by rfl) zt (by decide +kernel) (pa_cons (pv 7) pa_nil)) pa_nil))) (pe_call (E := fun _ _ _ => False) gD hr1 (by rfl) aD.g aD.kp aD.b .nil pass0 (pa_cons (pv 0) (pa_cons pe_int pa_nil))) (fun _ _ => rfl))
              (pa_cons (pe_ix ix_list (pe_lst (pa_cons (pv 8) (pa_cons (pe_callTy call_tuple_of (by rfl) zt (by decide +kernel) (pa_cons (pv 8) pa_nil)) pa_nil))) (pe_call (E := fun _ _ _ => False) gD hr1 (by rfl) aD.g aD.kp aD.b .nil pass0 (pa_cons (pv 0) (pa_cons pe_int pa_nil))) (fun _ _ => rfl)) pa_nil)))) pa_nil)))
        (pss_cons (ps_expr (pe_dclear (pe_ix ix_list (pv 7) pe_int (fun _ _ => rfl))))
        (pss_one (ps_expr (pe_bm PySem.F.plainAttrs_list PySem.F.slot_list_append PySem.F.type_list_append mt_append (pv 8) (pa_cons pe_int pa_nil))))))))
      (pss_cons (ps_for (passes_of rfl) rfl (pi_list (pv 5)) (pg_name (i := 9) scRight.nd rfl (.inl rfl))
        (pss_cons (ps_if (PW.pt (pw_or (pt_not (pt_val (pe_callG (E := fun _ _ _ => False) gW gd hr6 (by rfl) aW.g aW.kp aW.b pass0 (pa_cons (pv 9) (pa_cons (pv 2) (pa_cons (pv 4) pa_nil))))))
            (pw_or1 (pt_not (pt_val (pe_callG (E := fun _ _ _ => False) gA gd hr5 (by rfl) aA.g aA.kp aA.b pass0 (pa_cons (pv 9) (pa_cons (pv 1) pa_nil)))))))) pss_dead pss_nil)
        (pss_one (ps_if (PW.pt (pw_or (pt_not (pt_val (pe_call (E := fun _ _ _ => False) gM hr (by rfl) aM.g aM.kp aM.b .nil pass0 (pa_cons (pv 9) (pa_cons (pv 2) (pa_cons (pv 4) pa_nil))))))
            (pw_or1 (pt_not (pt_val (pe_call (E := fun _ _ _ => False) gV hr5 (by rfl) aV.g aV.kp aV.b .nil pass0 (pa_cons (pv 9) (pa_cons (pv 1) pa_nil)))))))) pss_dead pss_nil))))
      (pss_one (ps_ret (pe_and (pe_cmpR (op_eqO (E := fun _ _ _ => False) gE hr1 eC.hs eC.hf eC.hb (fun _ _ _ _ _ _ _ z => z.elim)) (pe_ix ix_list (pv 5) pe_int (fun _ _ => rfl)) (pe_ix ix_list (pv 5) pe_int (fun _ _ => rfl)) (nomark _))
        (pe_and (pe_not (pe_cmpR (op_neO (E := fun _ _ _ => False) gE hr2 eC.hm eC.ne eC.hs eC.hf eC.hb (fun _ _ _ _ _ _ _ z => z.elim)) (pe_ix ix_list (pv 5) pe_int (fun _ _ => rfl)) (pe_ix ix_list (pv 5) pe_int (fun _ _ => rfl)) (nomark _)))
        (pe_and (pe_cmpR (op_neO (E := fun _ _ _ => False) gE hr2 eC.hm eC.ne eC.hs eC.hf eC.hb (fun _ _ _ _ _ _ _ z => z.elim)) (pe_ix ix_list (pv 5) pe_int (fun _ _ => rfl)) (pv 2) (nomark _))
        (pe_one (pe_cmpR op_eq (pe_callB (call_reprO mRep gRep gd hr2 bRep) (by rfl) zp (by decide +kernel) (pa_cons (pe_ix ix_list (pv 5) pe_int (fun _ _ => rfl)) pa_nil)) (pe_callB (call_reprO mRep gRep gd hr2 bRep) (by rfl) zp (by decide +kernel) (pa_cons (pe_ix ix_list (pv 5) pe_int (fun _ _ => rfl)) pa_nil)) (nomark _)))))))))))))), ?_⟩
    have stE : ∀ {Ha Hb : Hp}, Ext Ha Hb → StayN Ha Hb := fun x b o e _ => x b o e
    have sz0 : (0 : Nat) ≤ sizeLine := Nat.zero_le _
    have sz2 : (2 : Nat) ≤ sizeLine := by decide
    refine ⟨⟨_, rfl⟩, _, rfl, _, rfl, a, 3, rfl, hR, by decide, by decide, fun d H1 d0 d3 hR1 kp1 => ?_⟩
    obtain ⟨md, rfl⟩ := Int.eq_ofNat_of_zero_le d0
    refine ⟨_, _, rfl, rfl, a, md + 1, ?_, hR1, by omega, fun H2 L zs hR2 kp2 nL hL ln nd memz => ?_⟩
    · show [V.ref a, V.int (1 + (md : Int))] = [V.ref a, V.int ((md + 1 : Nat) : Int)]
      rw [show (1 + (md : Int)) = ((md + 1 : Nat) : Int) by omega]
    refine ⟨L, zs, rfl, SqL.of hL, by omega, fun ys p pm hs np => ?_⟩
    obtain ⟨sg, es⟩ := sg_of (ys := ys) (by rw [pm.length_eq]; omega) (by rw [pm.length_eq]; omega) hs (pm.nodup_iff.mpr nd) fun z hz => memz z (pm.mem_iff.mp hz)
    refine ⟨Str.ofString "", p, ys, rfl, rfl, .inl (SqL.of upd_same), ?_, ?_⟩
    · have e0 : (Str.ofString "").length = 0 := rfl
      rw [e0, sum_one fun z hz => let ⟨c, e, _⟩ := abc_sign (memz z (pm.mem_iff.mp hz)); by rw [e]; rfl, pm.length_eq]
      omega
    have l3 : (Txt.join "" ys).length ≤ 3 := by
      have e1 : (sgL (Txt.join "" ys)).length = (Txt.join "" ys).length := sgL_len _
      rw [es, pm.length_eq] at e1
      omega
    generalize Txt.join "" ys = z at sg es l3 ⊢
    have y3 := Ext.new np (o := .lst (ys.map V.str))
    generalize upd H2 p (.lst (ys.map V.str)) = H3 at y3 ⊢
    have hR3 := hR2.ext y3
    have l4 : (sgL z).length ≤ 4 := by
      rw [sgL_len]
      exact sg.le
    -- the machine, the doubled machine
    refine ⟨_, rfl, _, rfl, a, 5, z, rfl, hR3, by decide, by decide, sg.nd, by omega, fun H4 t R E1 rs δ mem hR4 kp4 nR nE nt MA MO => ?_⟩
    have nRa : R ≠ a := hR3.new nR
    have nEa : E1 ≠ a := hR3.new nE
    refine ⟨_, rfl, _, rfl, a, t, R, E1, z, rs, δ, mem, rfl, hR4, nEa, MA, MO, sg.nd, by omega, fun H5 t2 R2 E2 rs2 ε mem2 ρ hR5 kp5 nR2 nE2 nt2 MA2 MO2 DB => ?_⟩
    have nRa2 : R2 ≠ a := hR4.new nR2
    have nEa2 : E2 ≠ a := hR4.new nE2
    have T5 : Tabs T H5 := tabs_keep (tabs_keep ((tabs_keep (tabs_keep hT hR kp1) hR1 kp2).ext y3) hR3 kp4) hR4 kp5
    have kn5 : KeepN a H H5 := fun b o e n nb => kp5 _ _ (kp4 _ _ (y3 _ _ (kp2 _ _ (kp1 _ _ e nb) nb)) nb) nb
    have MA5 : MacAt H5 t z R E1 rs δ mem := by
      obtain ⟨x1, y1, e1, _⟩ := hR4.ex
      exact ⟨kp5 _ _ MA.t (ne_of MA.t e1 (by intro z; cases z)), kp5 _ _ MA.r nRa, fun i r e => kp5 _ _ (MA.rows i r e) (ne_of (MA.rows i r e) e1 (by intro z; cases z)), kp5 _ _ MA.e nEa⟩
    have S1 := same_own MO
    have S2 := same_dbl MO MO2 DB
    -- the notes
    obtain ⟨k, k6, k4⟩ : ∃ k : Nat, (z.length < 3 → k = 6) ∧ (z.length = 3 → k = 4) := by
      by_cases c : z.length < 3
      · exact ⟨6, fun _ => rfl, fun e => by omega⟩
      · exact ⟨4, fun h => absurd h c, fun _ => rfl⟩
    have kle : k ≤ 6 := by
      by_cases c : z.length < 3
      · have := k6 c
        omega
      · have := k4 (by omega)
        omega
    have k4' : 4 ≤ k := by
      by_cases c : z.length < 3
      · have := k6 c
        omega
      · have := k4 (by omega)
        omega
    refine ⟨_, rfl, _, rfl, z, rfl, small_size (by omega), _, _, rfl, rfl, _, rfl, ?_⟩
    by_cases c : z.length < 3
    case' pos =>
      have ek : V.int 6 = V.int (k : Nat) := by rw [k6 c]; rfl
      rw [decide_eq_true (show ((z.length : Nat) : Int) < 3 by omega)]
      refine iteT ?_
      rw [ek]
    case' neg =>
      have ek : V.int 4 = V.int (k : Nat) := by rw [k4 (by omega)]; rfl
      rw [decide_eq_false (show ¬ ((z.length : Nat) : Int) < 3 by omega)]
      refine iteF ?_
      rw [ek]
    all_goals
      refine ⟨z, k, rfl, sg.pos, sg.le, by omega, fun H6 Ln ns x6 nLn hLn en lns => ?_⟩
      have lns' : ns.length ≤ 1000 := by
        have := notes_few (z := z) (k := k) sg.pos l3 (fun h => Nat.le_of_eq (k6 h)) (fun h => Nat.le_of_eq (k4 h))
        rw [← en, List.length_map] at this
        omega
      have hR6 := hR5.ext x6
      refine ⟨sz0, fun S nS => ?_⟩
      have x7 := Ext.new nS (o := .lst [])
      have hS7 : (upd H6 S (.lst [])) S = some (.lst []) := upd_same
      have aS : S ≠ a := hR6.new nS
      have RS1 : R ≠ S := ne_of_none (x6 _ _ MA5.r) nS
      have ES1 : E1 ≠ S := ne_of_none (x6 _ _ MA5.e) nS
      have RS2 : R2 ≠ S := ne_of_none (x6 _ _ MA2.r) nS
      have ES2 : E2 ≠ S := ne_of_none (x6 _ _ MA2.e) nS
      have nLS : Ln ≠ S := ne_of_none hLn nS
      have nLa : Ln ≠ a := hR5.new nLn
      generalize upd H6 S (.lst []) = H7 at x7 hS7 ⊢
      refine ⟨_, rfl, _, rfl, sz2, fun tp ntp => ⟨tp, rfl, ⟨_, SqT.of upd_same⟩, ?_⟩⟩
      have x8 := Ext.new ntp (o := .tup [V.ref t, V.ref t2])
      have htp : (upd H7 tp (.tup [V.ref t, V.ref t2])) tp = some (.tup [V.ref t, V.ref t2]) := upd_same
      have hS := x8 _ _ hS7
      have x58 := (x6.trans x7).trans x8
      generalize upd H7 tp (.tup [V.ref t, V.ref t2]) = H8 at x8 htp hS x58 ⊢
      have hR8 := hR5.ext x58
      have T8 := T5.ext x58
      have M8 := MA5.ext x58
      have M82 := MA2.ext x58
      have NA8 : NotesAt H8 Ln z k ns := ⟨x8 _ _ (x7 _ _ hLn), en, lns', kle⟩
      have kn8 : StayS a S H H8 := fun b o e n nb _ => x58 _ _ (kn5 _ _ e n nb)
      have kSb : ∀ b o, H b = some o → (∀ ps, o ≠ .tbl ps) → b ≠ a → b ≠ S := fun b o e n nb => ne_of_none (x6 _ _ (kn5 _ _ e n nb)) nS
      have aS8 : H8 a ≠ none := by
        obtain ⟨x1, y1, e1, _⟩ := hR8.ex
        rw [e1]
        exact Option.some_ne_none _
      have hS8 : H8 S ≠ none := by
        rw [hS]
        exact Option.some_ne_none _
      have tpa : tp ≠ a := by
        obtain ⟨x1, y1, e1, _⟩ := hR8.ex
        exact ne_of htp e1 (by intro z; cases z)
      have tpS : tp ≠ S := ne_of htp hS (by intro z; cases z)
      clear kn5 T5 kp1 kp2 kp4 kp5 y3
      refine for_it (walk_tup (xs := [V.ref t, V.ref t2])) (fun i σ H' => ∃ (v6 v7 v8 : Option V) (langs : List Addr), σ = [some (.ref a), some (.str z), some (.ref t), some (.ref t2), some (.ref Ln), some (.ref S), v6, v7, v8, none, none] ∧ Rng H' a ∧ StayS a S H8 H' ∧ (∀ b, H' b = none → H8 b = none) ∧ Tabs T H' ∧ H' S = some (.lst (langs.map V.ref)) ∧ langs.length = i ∧ ∀ x ∈ langs, LawNew C H8 H' z rs.length δ mem x)
        ⟨none, none, none, [], rfl, hR8, fun _ _ e _ _ _ => e, fun _ e => e, T8, hS, rfl, fun x hx => (nomatch hx)⟩ (fun i σ H' _ ⟨_, _, _, _, _, _, st, _⟩ => SqT.of (st _ _ htp (by intro ps q; cases q) tpa tpS)) ?_ ?_
      · rintro i x σ H9 H9' hi ⟨v6, v7, v8, langs, rfl, hR9, st9, nn9, T9, hS9, ll, hlg⟩ ⟨rfl, hx⟩
        obtain ⟨tq, Rq, Eq, rsq, δq, memq, rfl, MAq, SA, Rqa, Eqa, i2⟩ : ∃ (tq Rq Eq : Addr) (rsq : List Addr) (δq : Nat → Str → Nat) (memq : List Nat), x = .ref tq ∧ MacAt H9' tq z Rq Eq rsq δq memq ∧ SameAs (sgL z) δ mem rsq.length δq memq ∧ Rq ≠ a ∧ Eq ≠ a ∧ i < 2 := by
          cases i with
          | zero =>
            obtain rfl := Option.some.inj hx
            exact ⟨t, R, E1, rs, δ, mem, rfl, M8.stayS st9 hR8 nRa nEa hS RS1 ES1, S1, nRa, nEa, by decide⟩
          | succ i =>
            cases i with
            | zero =>
              obtain rfl := Option.some.inj hx
              exact ⟨t2, R2, E2, rs2, ε, mem2, rfl, M82.stayS st9 hR8 nRa2 nEa2 hS RS2 ES2, S2, nRa2, nEa2, by decide⟩
            | succ i => cases hx
        have hN := SA.ok.le
        have N0 := SA.ok.pos
        refine ⟨_, rfl, tq, _, 1, _, rfl, rfl, SqT.of MAq.t, rfl, Rq, rfl, ⟨_, SqL.of MAq.r⟩, fun L2 nL2 => ?_⟩
        refine lc_it (walk_list (xs := rsq.map V.ref)) (fun i H' => Ext H9' H' ∧ ∃ ds : List Addr, ds.length = i ∧ H' L2 = some (.lst (ds.map V.ref)) ∧ RowsD H' ds (sgL z) δq ∧ ∀ d ∈ ds, H9' d = none) ⟨Ext.new nL2, [], rfl, upd_same, fun i r e => (by cases i <;> cases e), fun d hd => (nomatch hd)⟩ (fun i H' _ h => SqL.of (h.1 _ _ MAq.r)) ?_ ?_
        · rintro j x G1 G2 hj ⟨x2, ds, lds, hL2, hds, dn⟩ ⟨rfl, hx⟩
          obtain ⟨r, hr, rfl⟩ := at_map hx
          rw [List.length_map] at hj
          refine ⟨rfl, ?_⟩
          dsimp only [tYes]
          rw [if_pos rfl]
          refine ⟨_, rfl, r, _, rfl, Rd.of (x2 _ _ (MAq.rows j r hr)), fun p np => ?_⟩
          have xp := Ext.new np (o := .dK (rowD (sgL z) (δq j)))
          have hp : (upd G2 p (.dK (rowD (sgL z) (δq j)))) p = some (.dK (rowD (sgL z) (δq j))) := upd_same
          have hL3 := xp _ _ hL2
          generalize upd G2 p (.dK (rowD (sgL z) (δq j))) = G3 at xp hp hL3 ⊢
          have kd : ∀ q kvs, G3 q = some (.dK kvs) → (upd G3 L2 (.lst (ds.map V.ref ++ [.ref p]))) q = some (.dK kvs) := fun q kvs h => by
            rw [upd_ne (ne_of h hL3 (by intro z; cases z))]
            exact h
          refine ⟨_, hL3, by rw [List.length_map]; exact small1000 (by omega), fun b o e => ?_, ds ++ [p], by rw [List.length_append, lds]; rfl, ?_, fun j q e => ?_, fun d hd => ?_⟩
          · rw [upd_ne (ne_of_none e nL2)]
            exact xp _ _ (x2 _ _ e)
          · rw [upd_same, List.map_append]
            rfl
          · by_cases cj : j < ds.length
            · rw [List.getElem?_append_left cj] at e
              exact kd _ _ (xp _ _ (hds j q e))
            · have hlt := (List.getElem?_eq_some_iff.mp e).1
              rw [List.length_append] at hlt
              have hlt : j < ds.length + 1 := hlt
              obtain rfl : j = ds.length := by omega
              rw [List.getElem?_append_right (Nat.le_refl _), Nat.sub_self] at e
              obtain rfl := Option.some.inj e
              rw [lds]
              exact kd _ _ hp
          · rcases List.mem_append.mp hd with h | h
            · exact dn d h
            · rw [List.mem_singleton.mp h]
              exact x2.free np
        rintro H10 ⟨x10, ds, lds, hL2, hds, dn⟩
        rw [List.length_map] at lds
        -- the states to stop at
        refine ⟨_, rfl, tq, _, 2, _, rfl, rfl, SqT.of (x10 _ _ MAq.t), rfl, Eq, _, rfl, .inl (SqL.of (x10 _ _ MAq.e)), fun l nl => ⟨l, _, rfl, SqL.of upd_same, fun Ld nLd => ⟨_, _, rfl, ?_⟩⟩⟩
        rw [← List.map_reverse]
        have xl := (Ext.new nl (o := .lst (memq.map fun n => V.int (n : Nat)))).trans (Ext.new nLd (o := .lst (memq.reverse.map fun n => V.int (n : Nat))))
        have nLd0 : H10 Ld = none := (Ext.new nl).free nLd
        have hLd : (upd (upd H10 l (.lst (memq.map fun n => V.int (n : Nat)))) Ld (.lst (memq.reverse.map fun n => V.int (n : Nat)))) Ld = some (.lst (memq.reverse.map fun n => V.int (n : Nat))) := upd_same
        have nLdL : Ld ≠ L2 := (ne_of_none hL2 nLd0).symm
        generalize upd (upd H10 l (.lst (memq.map fun n => V.int (n : Nat)))) Ld (.lst (memq.reverse.map fun n => V.int (n : Nat))) = H11 at xl hLd ⊢
        have x11 := x10.trans xl
        have hL211 := xl _ _ hL2
        have row11 := hds.ext xl
        have hR11 := hR9.ext x11
        have aL2 : L2 ≠ a := hR9.new nL2
        have aLd : Ld ≠ a := hR9.new (x10.free nLd0)
        -- handed as lists or tuples
        refine ⟨_, rfl, .inl ⟨rfl, _, SqL.of (x11 _ _ hS9)⟩, _, rfl, _, rfl, _, rfl, L2, _, rfl, .inl ⟨SqL.of hL211, fun T1 nT => ⟨sz2, fun p np => ?_⟩⟩⟩
        have xTp := (Ext.new nT (o := .tup (ds.map V.ref))).trans (Ext.new np (o := .lst [V.ref L2, V.ref T1]))
        have hT1 := Ext.new np (o := .lst [V.ref L2, V.ref T1]) _ _ (upd_same (H := H11) (a := T1) (o := .tup (ds.map V.ref)))
        have hp4 : (upd (upd H11 T1 (.tup (ds.map V.ref))) p (.lst [V.ref L2, V.ref T1])) p = some (.lst [V.ref L2, V.ref T1]) := upd_same
        have np3 : H11 p = none := (Ext.new nT (o := .tup (ds.map V.ref))).free np
        generalize upd (upd H11 T1 (.tup (ds.map V.ref))) p (.lst [V.ref L2, V.ref T1]) = H12 at xTp hT1 hp4 ⊢
        have npa : p ≠ a := hR11.new np3
        have nTa : T1 ≠ a := hR11.new nT
        refine ⟨_, rfl, a, 2, rfl, hR11.ext xTp, by decide, by decide, fun d H13 d0 d2 hR13 kp13 => ?_⟩
        have kp913 : Keep a H9' H13 := (Keep.of (x11.trans xTp)).trans kp13
        have ra : ∀ {q : Addr} {kvs : List (Key × V)}, H11 q = some (.dK kvs) → H13 q = some (.dK kvs) := fun {q kvs} h => kp13 _ _ (xTp _ _ h) (by
          obtain ⟨x1, y1, e1, _⟩ := hR11.ex
          exact ne_of h e1 (by intro z; cases z))
        have row13 : RowsD H13 ds (sgL z) δq := fun i r e => ra (row11 i r e)
        have L213 := kp13 _ _ (xTp _ _ hL211) aL2
        have Ld13 := kp13 _ _ (xTp _ _ hLd) aLd
        obtain ⟨kb, st, hv, hst, nst⟩ : ∃ (kb : Bool) (st : Addr), atI [V.ref L2, V.ref T1] d = some (.ref st) ∧ SqK K kb H13 st (ds.map V.ref) ∧ st ≠ a := by
          have c : d = 0 ∨ d = 1 := by omega
          rcases c with rfl | rfl
          · exact ⟨true, L2, rfl, SqK.l L213, aL2⟩
          · exact ⟨false, T1, rfl, SqK.t (kp13 _ _ hT1 nTa), nTa⟩
        refine ⟨p, _, d, _, rfl, rfl, SqL.of (kp13 _ _ hp4 npa), hv, ?_⟩
        refine ⟨_, rfl, _, rfl, Ld, _, rfl, .inl ⟨SqL.of Ld13, fun T2 nT2 => ⟨sz2, fun p2 np2 => ?_⟩⟩⟩
        have xT2 := (Ext.new nT2 (o := .tup (memq.reverse.map fun n => V.int (n : Nat)))).trans (Ext.new np2 (o := .lst [V.ref Ld, V.ref T2]))
        have hT2 := Ext.new np2 (o := .lst [V.ref Ld, V.ref T2]) _ _ (upd_same (H := H13) (a := T2) (o := .tup (memq.reverse.map fun n => V.int (n : Nat))))
        have hp5 : (upd (upd H13 T2 (.tup (memq.reverse.map fun n => V.int (n : Nat)))) p2 (.lst [V.ref Ld, V.ref T2])) p2 = some (.lst [V.ref Ld, V.ref T2]) := upd_same
        have np23 : H13 p2 = none := (Ext.new nT2 (o := .tup (memq.reverse.map fun n => V.int (n : Nat)))).free np2
        generalize upd (upd H13 T2 (.tup (memq.reverse.map fun n => V.int (n : Nat)))) p2 (.lst [V.ref Ld, V.ref T2]) = H14 at xT2 hT2 hp5 ⊢
        have np2a : p2 ≠ a := hR13.new np23
        have nT2a : T2 ≠ a := hR13.new nT2
        refine ⟨_, rfl, a, 2, rfl, hR13.ext xT2, by decide, by decide, fun d' H15 d0' d2' hR15 kp15 => ?_⟩
        have kp915 : Keep a H9' H15 := (kp913.trans (Keep.of xT2)).trans kp15
        have row15 : RowsD H15 ds (sgL z) δq := fun i r e => kp15 _ _ (xT2 _ _ (row13 i r e)) (by
          obtain ⟨x1, y1, e1, _⟩ := hR13.ex
          exact ne_of (row13 i r e) e1 (by intro z; cases z))
        have L215 := kp15 _ _ (xT2 _ _ L213) aL2
        have Ld15 := kp15 _ _ (xT2 _ _ Ld13) aLd
        have st15 : SqK K kb H15 st (ds.map V.ref) := (hst.ext xT2).keep kp15 nst
        obtain ⟨km, ms, hv', hms⟩ : ∃ (km : Bool) (ms : Addr), atI [V.ref Ld, V.ref T2] d' = some (.ref ms) ∧ SqK K km H15 ms (memq.reverse.map fun n => V.int (n : Nat)) := by
          have c : d' = 0 ∨ d' = 1 := by omega
          rcases c with rfl | rfl
          · exact ⟨true, Ld, rfl, SqK.l Ld15⟩
          · exact ⟨false, T2, rfl, SqK.t (kp15 _ _ hT2 nT2a)⟩
        refine ⟨p2, _, d', _, rfl, rfl, SqL.of (kp15 _ _ hp5 np2a), hv', ?_⟩
        have T15 : Tabs T H15 := tabs_keep T9 hR9 kp915
        have fr15 : ∀ b, H15 b = none → H9' b = none := fun b e => by
          obtain ⟨x1, y1, e1, _⟩ := hR15.ex
          exact kp915.free e1 e
        have S15 := kp915 _ _ hS9 aS
        have okm : MacOk (sgL z) ds.length δq memq.reverse 40 := by
          rw [lds]
          exact ⟨N0, hN, SA.ok.lt, (List.reverse_perm _).nodup_iff.mpr SA.ok.nd, fun n hn => SA.ok.ml n (List.mem_reverse.mp hn)⟩
        have fewm : Few (sgL z) δq memq.reverse ds.length 6 := by
          rw [lds]
          exact few_rev SA.few
        refine made_langR ⟨sg, st15, row15, hms, okm, fewm, T15⟩ fun H16 x M δ' found live st16 nn16 T16 nx LN LO lv => ?_
        have S16 := st16 _ _ S15 (by intro ps q; cases q)
        refine ⟨S, _, _, rfl, rfl, S16, by rw [List.length_map]; exact small1000 (by omega), ?_⟩
        -- what was handed in is spoilt
        obtain ⟨d0r, hd0⟩ : ∃ d, ds[0]? = some d := ⟨_, List.getElem?_eq_getElem (by omega)⟩
        have hd16 := st16 _ _ (row15 0 d0r hd0) (by intro ps q; cases q)
        have L216 := st16 _ _ L215 (by intro ps q; cases q)
        have Ld16 := st16 _ _ Ld15 (by intro ps q; cases q)
        have hdn : H9' d0r = none := dn d0r (List.mem_of_getElem? hd0)
        have nSd : S ≠ d0r := ne_of_none hS9 hdn
        have nSL : S ≠ L2 := ne_of_none hS9 nL2
        have nSLd : S ≠ Ld := ne_of_none hS9 (x10.free nLd0)
        have L217 : (upd H16 S (.lst (langs.map V.ref ++ [.ref x]))) L2 = some (.lst (ds.map V.ref)) := by
          rw [upd_ne nSL.symm]
          exact L216
        have hd17 : (upd H16 S (.lst (langs.map V.ref ++ [.ref x]))) d0r = some (.dK (rowD (sgL z) (δq 0))) := by
          rw [upd_ne nSd.symm]
          exact hd16
        have ndL : Ld ≠ d0r := ne_of Ld16 hd16 (by intro z; cases z)
        refine ⟨_, rfl, L2, _, 0, _, rfl, rfl, SqL.of L217, atI_nat (j := 0) (by rw [List.getElem?_map, hd0]; rfl), ?_⟩
        refine ⟨.inr (.inr (.inl ⟨rfl, .inl ⟨_, hd17⟩⟩)), d0r, _, rfl, rfl, hd17, ?_⟩
        have Ld18 : (upd (upd H16 S (.lst (langs.map V.ref ++ [.ref x]))) d0r (.dK [])) Ld = some (.lst (memq.reverse.map fun n => V.int (n : Nat))) := by
          rw [upd_ne ndL, upd_ne nSLd.symm]
          exact Ld16
        have lm : memq.length ≤ 40 := Nat.le_trans (nodup_len SA.ok.nd SA.ok.ml) hN
        refine ⟨_, rfl, .inl ⟨rfl, _, SqL.of Ld18⟩, Ld, _, _, rfl, rfl, Ld18, by rw [List.length_map, List.length_reverse]; exact small1000 (by omega), ?_⟩
        have k19 : ∀ b o, H16 b = some o → b ≠ S → b ≠ d0r → b ≠ Ld → (upd (upd (upd H16 S (.lst (langs.map V.ref ++ [.ref x]))) d0r (.dK [])) Ld (.lst (memq.reverse.map (fun n => V.int (n : Nat)) ++ [.int 0]))) b = some o := fun b o e n1 n2 n3 => by
          rw [upd_ne n3, upd_ne n2, upd_ne n1]
          exact e
        have T19 : Tabs T (upd (upd (upd H16 S (.lst (langs.map V.ref ++ [.ref x]))) d0r (.dK [])) Ld (.lst (memq.reverse.map (fun n => V.int (n : Nat)) ++ [.int 0]))) := tabs_put (tabs_put (tabs_put T16 S16 (by intro ps q; cases q) (by intro c q z; unfold CodeO at z; cases z)) hd17 (by intro ps q; cases q) (by intro c q z; unfold CodeO at z; cases z)) Ld18 (by intro ps q; cases q) (by intro c q z; unfold CodeO at z; cases z)
        have S19 : (upd (upd (upd H16 S (.lst (langs.map V.ref ++ [.ref x]))) d0r (.dK [])) Ld (.lst (memq.reverse.map (fun n => V.int (n : Nat)) ++ [.int 0]))) S = some (.lst ((langs ++ [x]).map V.ref)) := by
          rw [upd_ne nSLd, upd_ne nSd, upd_same, List.map_append]
          rfl
        have nn19 : ∀ b, (upd (upd (upd H16 S (.lst (langs.map V.ref ++ [.ref x]))) d0r (.dK [])) Ld (.lst (memq.reverse.map (fun n => V.int (n : Nat)) ++ [.int 0]))) b = none → H16 b = none := fun b e => by
          by_cases c1 : b = Ld
          · rw [c1, upd_same] at e
            cases e
          · rw [upd_ne c1] at e
            by_cases c2 : b = d0r
            · rw [c2, upd_same] at e
              cases e
            · rw [upd_ne c2] at e
              by_cases c3 : b = S
              · rw [c3, upd_same] at e
                cases e
              · rwa [upd_ne c3] at e
        generalize upd (upd (upd H16 S (.lst (langs.map V.ref ++ [.ref x]))) d0r (.dK [])) Ld (.lst (memq.reverse.map (fun n => V.int (n : Nat)) ++ [.int 0])) = H19 at k19 T19 S19 nn19 ⊢
        have st919 : StayS a S H9' H19 := fun b o e n na nS => k19 _ _ (st16 _ _ (kp915 _ _ e na) n) nS (ne_of_none e hdn) (ne_of_none e (x10.free nLd0))
        have nx9 : H9' x = none := fr15 _ nx
        refine ⟨_, _, _, langs ++ [x], rfl, ?_, fun b o e n na nS => st919 _ _ (st9 _ _ e n na nS) n na nS, fun b e => nn9 _ (fr15 _ (nn16 _ (nn19 _ e))), T19, S19, by rw [List.length_append, ll]; rfl, fun y hy => ?_⟩
        · obtain ⟨x1, y1, e, q⟩ := hR15.ex
          refine ⟨x1, y1, k19 _ _ (st16 _ _ e (by intro ps q; cases q)) aS.symm ?_ aLd.symm, q⟩
          exact ne_of (st16 _ _ e (by intro ps q; cases q)) hd16 (by intro z; cases z)
        · rcases List.mem_append.mp hy with h | h
          · obtain ⟨ny, M, δ', found, live, LNy, LOy⟩ := hlg y h
            exact ⟨ny, M, δ', found, live, LNy.keepS ny aS8 hS8 st919, LOy⟩
          · rw [List.mem_singleton.mp h]
            refine ⟨nn9 _ nx9, M, δ', found, live, ?_, law_ok sg l3 MO SA (by rw [← lds]; exact LO) lv⟩
            obtain ⟨dx, fs, L, rr, Me, Li, ⟨h1, h2, h3, h4, h5, h6, h7, h8, h9, h10, h11⟩, f1, f2, f3, f4⟩ := LN.ex
            have ap : ∀ {q : Addr}, H15 q = none → q ≠ S ∧ q ≠ d0r ∧ q ≠ Ld := fun {q} e => ⟨(ne_of_none S15 e).symm, (ne_of_none (row15 0 d0r hd0) e).symm, (ne_of_none Ld15 e).symm⟩
            have up : ∀ {q : Addr}, H15 q = none → H8 q = none := fun e => nn9 _ (fr15 _ e)
            refine ⟨dx, fs, L, rr, Me, Li, ⟨k19 _ _ h1 (ap nx).1 (ap nx).2.1 (ap nx).2.2, h2, h3, k19 _ _ h4 (ap f1).1 (ap f1).2.1 (ap f1).2.2, h5, fun i r e => ?_, h7, k19 _ _ h8 (ap f3).1 (ap f3).2.1 (ap f3).2.2, h9, k19 _ _ h10 (ap f4).1 (ap f4).2.1 (ap f4).2.2, h11⟩, up f1, fun r hr => up (f2 r hr), up f3, up f4⟩
            have q := ap (f2 r (List.mem_of_getElem? e))
            exact k19 _ _ (h6 i r e) q.1 q.2.1 q.2.2
      · rintro σ H9 ⟨v6, v7, v8, langs, rfl, hR9, st9, nn9, T9, hS9, ll, hlg⟩
        obtain ⟨x0, x1, rfl⟩ : ∃ x0 x1, langs = [x0, x1] := by
          match langs, ll with
          | [x0, x1], _ => exact ⟨x0, x1, rfl⟩
        have hlen : ([V.ref t, V.ref t2] : List V).length = 2 := rfl
        have M9 := M8.stayS st9 hR8 nRa nEa hS RS1 ES1
        have NA9 : NotesAt H9 Ln z k ns := ⟨st9 _ _ NA8.at_ (by intro ps q; cases q) nLa nLS, en, lns', kle⟩
        have atX : ∀ x ∈ [x0, x1], ∃ (M : Nat) (δ' : Nat → Str → Nat) (found live : List Nat), LangAt C H9 x z M δ' found live ∧ LawOk z M δ' found live rs.length δ mem := fun x hx => by
          obtain ⟨_, M, δ', found, live, LN, LO⟩ := hlg x hx
          exact ⟨M, δ', found, live, LN.at_, LO⟩
        have NAs : ∀ {H' : Hp}, StayN H9 H' → NotesAt H' Ln z k ns := fun st => ⟨st _ _ NA9.at_ (by intro ps q; cases q), en, lns', kle⟩
        refine ⟨_, rfl, S, rfl, ⟨_, SqL.of hS9⟩, ?_⟩
        refine for_it (walk_list (xs := [x0, x1].map V.ref)) (fun i σ H' => ∃ v9 : Option V, σ = [some (.ref a), some (.str z), some (.ref t), some (.ref t2), some (.ref Ln), some (.ref S), v6, v7, v8, v9, none] ∧ StayN H9 H' ∧ Tabs T H') ⟨none, rfl, fun _ _ e _ => e, T9⟩ (fun i σ H' _ ⟨_, _, st, _⟩ => SqL.of (st _ _ hS9 (by intro ps q; cases q))) ?_ ?_
        · rintro i v σ G1 G2 hi ⟨v9, rfl, st1, Tg1⟩ ⟨rfl, hv⟩
          obtain ⟨x, hx, rfl⟩ := at_map hv
          obtain ⟨M, δ', found, live, LA, LO⟩ := atX x (List.mem_of_getElem? hx)
          have m5 := LO.m5
          refine ⟨_, rfl, _, rfl, _, rfl, x, t, R, E1, Ln, z, M, k, δ', δ, found, live, mem, rs, ns, rfl, LA.stay st1, M9.stay st1, LO, NAs st1, by omega, fun G3 x3 => ⟨true, rfl, iteF ?_⟩⟩
          have st3 : StayN H9 G3 := fun b o e n => x3 _ _ (st1 _ _ e n)
          refine ⟨_, rfl, _, rfl, x, z, M, δ', found, live, rfl, LA.stay st3, sg, l3, LO.lt, m5, LO.can, fun G4 x4 => ⟨true, rfl, iteF ?_⟩⟩
          have st4 : StayN H9 G4 := fun b o e n => x4 _ _ (st3 _ _ e n)
          refine ⟨_, rfl, _, rfl, _, rfl, x, t, R, E1, Ln, z, M, k, δ', δ, found, live, mem, rs, ns, rfl, LA.stay st4, M9.stay st4, LO, NAs st4, k6, k4, (Tg1.ext x3).ext x4, fun G5 x5 nn5 T5 => ⟨true, rfl, iteF ?_⟩⟩
          have st5 : StayN H9 G5 := fun b o e n => x5 _ _ (st4 _ _ e n) n
          refine ⟨_, rfl, _, rfl, x, z, M, δ', found, live, rfl, LA.stay st5, sg, LO.lt, m5, fun G6 x6 => ⟨true, rfl, iteF ?_⟩⟩
          exact ⟨_, rfl, fun b o e n => x6 _ _ (st5 _ _ e n), T5.ext x6⟩
        · rintro σ G1 ⟨v9, rfl, st1, Tg1⟩
          obtain ⟨M0, δ0, fo0, li0, L0, O0⟩ := atX x0 List.mem_cons_self
          obtain ⟨M1, δ1, fo1, li1, L1, O1⟩ := atX x1 (List.mem_cons_of_mem _ List.mem_cons_self)
          obtain ⟨rfl, eδ, rfl⟩ := can_uniq O0.can O1.can fun w hw => (O0.acc w hw).trans (O1.acc w hw).symm
          have A0' := L0.stay st1
          have A1' := (L1.stay st1).same (e := δ0) fun b hb c hc => (eδ b hb c hc).symm
          have M10 := M9.stay st1
          have hS10 := st1 _ _ hS9 (by intro ps q; cases q)
          have tyOf : ∀ {G : Hp} {q : Addr} {M : Nat} {d : Nat → Str → Nat} {fo li : List Nat}, LangAt C G q z M d fo li → ∃ dx fs, G q = some (.ins C dx fs) := fun h => by
            obtain ⟨dx, fs, _, _, _, _, h1, _⟩ := h.ex
            exact ⟨dx, fs, h1⟩
          have ty : ∀ {G : Hp} {q dx : Addr} {fs : List (Str × V)}, G q = some (.ins C dx fs) → TyX K G (.ref q) (.ref C) := fun h => .base (TyOf.ins h iC.cl iC.ha iC.hn iC.htk iC.hm)
          obtain ⟨dx0, fs0, hp0⟩ := tyOf A0'
          obtain ⟨dx1, fs1, hp1⟩ := tyOf A1'
          have i0 : atI ([x0, x1].map V.ref) 0 = some (V.ref x0) := atI_nat (j := 0) rfl
          have i1 : atI ([x0, x1].map V.ref) 1 = some (V.ref x1) := atI_nat (j := 1) rfl
          refine ⟨_, rfl, S, _, 0, _, rfl, rfl, SqL.of hS10, i0, _, rfl, S, _, 1, _, rfl, rfl, SqL.of hS10, i1, x0, dx0, fs0, .ref C, rfl, hp0, ty hp1, eC.nf, x0, x1, z, M0, δ0, fo0, li0, rfl, A0', .inl ⟨δ0, li1, A1', fun _ _ _ _ => rfl, ⟨_, rfl⟩, ?_⟩⟩
          refine ⟨_, rfl, iteT ?_⟩
          refine ⟨_, rfl, S, _, 0, _, rfl, rfl, SqL.of hS10, i0, _, rfl, S, _, 1, _, rfl, rfl, SqL.of hS10, i1, x0, dx0, fs0, .ref C, rfl, hp0, ty hp1, eC.nf, x0, x1, z, M0, δ0, fo0, li0, rfl, A0', .inl ⟨δ0, li1, A1', fun _ _ _ _ => rfl, true, rfl, ?_⟩⟩
          refine ⟨_, rfl, _, rfl, iteT ?_⟩
          refine ⟨_, rfl, S, _, 0, _, rfl, rfl, SqL.of hS10, i0, _, rfl, x0, dx0, fs0, .type "tuple", rfl, hp0, .base (.tup M10.t), fT, x0, t, z, M0, δ0, fo0, li0, rfl, A0', .inr ⟨_, M10.t, false, rfl, ?_⟩⟩
          refine ⟨_, rfl, iteT ?_⟩
          have ndf : fo0.Nodup := by
            rw [O0.can.asc]
            exact List.nodup_range.sublist List.filter_sublist
          have flf : ∀ b ∈ fo0, b < M0 := fun b hb => by
            rw [O0.can.asc] at hb
            exact List.mem_range.mp (List.mem_filter.mp hb).1
          have m5 := O0.m5
          have SH : LgShow z δ0 M0 fo0 := lg_show sg (by omega) O0.lt.lt flf ndf
          refine ⟨_, rfl, S, _, 0, _, rfl, rfl, SqL.of hS10, i0, x0, dx0, fs0, rfl, hp0, x0, z, M0, δ0, fo0, li0, rfl, A0', SH, _, rfl, ?_⟩
          refine ⟨_, rfl, S, _, 1, _, rfl, rfl, SqL.of hS10, i1, x1, dx1, fs1, rfl, hp1, x1, z, M0, δ0, fo0, li1, rfl, A1', SH, _, rfl, ?_⟩
          refine ⟨rfl, ?_⟩
          rw [decide_eq_true (rfl : V.str (shownLg z δ0 M0 fo0) = V.str (shownLg z δ0 M0 fo0))]
          exact kk G1 (fun b o e n nb => st1 _ _ (st9 _ _ (kn8 _ _ e n nb (kSb _ _ e n nb)) n nb (kSb _ _ e n nb)) n) Tg1
end
end Sl
/-! ## A17 -/
set_option Elab.async false
set_option linter.all false
set_option maxRecDepth 100000
set_option maxHeartbeats 4000000
/-! _law_rng (k11), law -/
namespace Sl
open PySem PySem.Spec PyProof.Rows L2 TxS LamX NdefX
/-- a new drawing object -/
def spRng (K : PySem.W.Frag) : Sp := fun vs H Q _ => ∃ (S : Addr) (ns : List Int) (k : Nat), vs = [.ref S, .int k] ∧ SqL K H S (ns.map V.int) ∧ ns.length ≤ 63 ∧ k ≤ 100 ∧ ∀ (H' : Hp) (a : Addr), Ext H H' → H a = none → Rng H' a → Q (.ref a) H'
section
variable {P : Program} {w : World} {K : PySem.W.Frag} {mg : Str → Option Value} {base : Heap}
theorem scRng : FnScope ["_law_script", "_law_k", "_law_cell"] ["_law_script", "_law_k"] (defScope sRng) := ⟨rfl, rfl, rfl, by decide +kernel, rfl, by decide +kernel, by decide +kernel⟩
theorem ok_rng {f : Addr} {fd : FuncData} (F : Fun K "_law_rng" "_law_rng" sRng f fd) (zn : mg "len" = none) (zm : mg "max" = none) (za : mg "abs" = none) (zi : mg "int" = none) : FnOk P w K mg base CX0 1 f fd ["_law_script", "_law_k"] (spRng K) := by
  refine F.ok scRng (fun vs H Q E h => ?_) (fun cdv A0 outer s H vs Q E0 hr h => ?_)
  · obtain ⟨S, ns, k, rfl, _⟩ := h
    rfl
  · obtain ⟨S, ns, kk, rfl, hS, h63, k100, k⟩ := h
    refine ⟨_, pss_cons (ps_set (i := 2) scRng.nd rfl (.inl rfl) (pe_op op_add (pe_op op_mul pe_int (pv 1)) pe_int))
      (pss_cons (ps_if (pt_cmpR op_lt (pv 1) (pe_callB call_len_seq (by rfl) zn PySem.boot_len (pa_cons (pv 0) pa_nil)) (nomark _)) (pss_one (ps_set (i := 2) scRng.nd rfl (.inl rfl) (pe_ix ix_list (pv 0) (pv 1) (fun _ _ => rfl)))) pss_nil)
      (pss_one (ps_ret (pe_lst (pa_cons (pe_callB (call_max2 rfl) (by rfl) zm (by decide +kernel) (pa_cons pe_int (pa_cons (pe_op op_sub (pe_callB call_abs (by rfl) za (by decide +kernel) (pa_cons (pv 2) pa_nil)) (pe_op op_pow pe_int pe_int)) pa_nil)))
        (pa_cons (pe_op op_add (pe_op op_mod (pe_op op_mul (pe_callTy call_int1 (by rfl) zi (by decide +kernel) (pa_cons (pe_op op_add (pe_op op_mod (pe_callTy call_int1 (by rfl) zi (by decide +kernel) (pa_cons (pe_callB call_abs (by rfl) za (by decide +kernel) (pa_cons (pv 2) pa_nil)) pa_nil)) pe_int) pe_int) pa_nil))
          (pe_op op_pow (pe_op op_add (pe_op op_mul pe_int (pv 1)) pe_int) pe_int)) pe_int) pe_int) pa_nil)))))), ?_⟩
    have fin : ∀ c : Int, ∃ x y : Int, (0 ≤ (if (if c < 0 then -c else c) - 10 ^ (18 : Int).toNat > 0 then (if c < 0 then -c else c) - 10 ^ (18 : Int).toNat else 0)) ∧ (0 ≤ ((if c < 0 then -c else c) % 2147483549 + 1) * (2 * (kk : Int) + 3) ^ (3 : Int).toNat % 2147483543 + 1 ∧ ((if c < 0 then -c else c) % 2147483549 + 1) * (2 * (kk : Int) + 3) ^ (3 : Int).toNat % 2147483543 + 1 < 2147483648) ∧
        (0 ≤ (if c < 0 then -c else c) % 2147483549 ∧ (if c < 0 then -c else c) % 2147483549 < 2147483549) := fun c => by
      refine ⟨0, 0, ?_, ?_, Int.emod_nonneg _ (by decide), Int.emod_lt_of_pos _ (by decide)⟩
      · split <;> omega
      · have h1 := Int.emod_nonneg (((if c < 0 then -c else c) % 2147483549 + 1) * (2 * (kk : Int) + 3) ^ (3 : Int).toNat) (show (2147483543 : Int) ≠ 0 by decide)
        have h2 := Int.emod_lt_of_pos (((if c < 0 then -c else c) % 2147483549 + 1) * (2 * (kk : Int) + 3) ^ (3 : Int).toNat) (show (0 : Int) < 2147483543 by decide)
        omega
    refine ⟨_, rfl, _, _, rfl, rfl, .inl ⟨by decide, by decide⟩, _, _, rfl, rfl, ?_⟩
    refine ⟨_, rfl, _, rfl, S, _, rfl, .inl hS, _, _, rfl, rfl, _, rfl, ?_⟩
    refine ite2 (fun c => ?_) (fun c => ?_)
    · have c := of_decide_eq_true c
      rw [List.length_map] at c
      have hk : kk < ns.length := by omega
      refine ⟨_, rfl, _, rfl, S, _, _, .int ns[kk], rfl, rfl, hS, atI_nat (by rw [List.getElem?_map, List.getElem?_eq_getElem hk]; rfl), ?_⟩
      obtain ⟨_, _, f1, f2, f3⟩ := fin ns[kk]
      refine ⟨_, rfl, _, rfl, _, _, rfl, rfl, ⟨by decide, by decide, by decide⟩, _, _, rfl, rfl, _, _, rfl, _, rfl, _, rfl, .inl ⟨_, rfl, _, _, rfl, rfl, (by show (0 : Int) < 2147483549; decide), _, _, rfl, rfl, .inl ⟨_, rfl, _, rfl, _, _, rfl, rfl, .inl ⟨by decide, by decide⟩, _, _, rfl, rfl, _, _, rfl, rfl, ⟨by decide, by decide, ?_⟩, _, _, rfl, rfl, .inl ⟨by omega, by omega⟩, _, _, rfl, rfl, (by show (0 : Int) < 2147483543; decide), _, _, rfl, rfl, by show 2 ≤ sizeLine; decide, fun p np => k _ p (Ext.new np) np ⟨_, _, upd_same, f1, f2.1, f2.2⟩⟩⟩⟩
      show (2 * (kk : Int) + 3).natAbs < 2 ^ 64
      omega
    · obtain ⟨_, _, f1, f2, f3⟩ := fin (11 * kk + 5)
      refine ⟨_, rfl, _, rfl, _, _, rfl, rfl, ⟨by decide, by decide, by decide⟩, _, _, rfl, rfl, _, _, rfl, _, rfl, _, rfl, .inl ⟨_, rfl, _, _, rfl, rfl, (by show (0 : Int) < 2147483549; decide), _, _, rfl, rfl, .inl ⟨_, rfl, _, rfl, _, _, rfl, rfl, .inl ⟨by decide, by decide⟩, _, _, rfl, rfl, _, _, rfl, rfl, ⟨by decide, by decide, ?_⟩, _, _, rfl, rfl, .inl ⟨by omega, by omega⟩, _, _, rfl, rfl, (by show (0 : Int) < 2147483543; decide), _, _, rfl, rfl, by show 2 ≤ sizeLine; decide, fun p np => k _ p (Ext.new np) np ⟨_, _, upd_same, f1, f2.1, f2.2⟩⟩⟩⟩
      show (2 * (kk : Int) + 3).natAbs < 2 ^ 64
      omega
end
abbrev sLaw : Stmt := top 60
def spLaw (K : PySem.W.Frag) (T : List (Addr × Str)) : Sp := fun vs H Q _ => ∃ (S : Addr) (ns : List Int), vs = [.ref S] ∧ SqL K H S (ns.map V.int) ∧ ns.length ≤ 63 ∧ Tabs T H ∧ ∀ H', Q (.bl true) H'
theorem sql_keepN {K : PySem.W.Frag} {H H' : Hp} {S : Addr} {xs : List V} (x : StayN H H') (h : SqL K H S xs) : SqL K H' S xs := by
  rcases h with (h | ⟨o, h⟩) | h
  · exact .inl (.inl (x _ _ h (by intro ps q; cases q)))
  · exact .inl (.inr ⟨o, x _ _ h (by intro ps q; cases q)⟩)
  · exact .inr h
section
variable {P : Program} {w : World} {K : PySem.W.Frag} {mg : Str → Option Value} {base : Heap}
theorem scLaw : FnScope ["_law_script", "_law_k"] ["_law_script"] (defScope sLaw) := ⟨rfl, rfl, rfl, by decide +kernel, rfl, by decide +kernel, by decide +kernel⟩
theorem ok_law {T : List (Addr × Str)} {f fR fG : Addr} {fd fdR fdG : FuncData} (F : Fun K "law" "law" sLaw f fd) (aR : At K mg "_law_right" fR fdR ["_law_rng_here"] []) (gR : FnG P w K mg base CX0 13 fR fdR ["_law_rng_here"] (spRight T))
    (aG : At K mg "_law_rng" fG fdG ["_law_script", "_law_k"] []) (gG : FnOk P w K mg base CX0 1 fG fdG ["_law_script", "_law_k"] (spRng K))
    (za : mg "all" = none) (zr : mg "range" = none) (zx : mg "max" = none) (zm : mg "min" = none) (zn : mg "len" = none) : FnG P w K mg base CX0 14 f fd ["_law_script"] (spLaw K T) := by
  refine Sl.Fun.okG F scLaw (fun vs H Q E h => ?_) (fun cdv A0 outer s H vs Q E0 gd hr h => ?_)
  · obtain ⟨S, ns, rfl, _⟩ := h
    rfl
  · obtain ⟨S, ns, rfl, hS, h63, hT, k⟩ := h
    have hr1 : Room 1 _ := hr.mono (by decide)
    refine ⟨_, pss_one (ps_ret (pe_callB (cr_all rfl) (by rfl) za (by decide +kernel) (pa_cons (pe_lc (own := [("_law_k", 1)]) (g := gName 1) (tt := tYes) (te := tCall (spRight T) [] (fun _ _ _ => False) (tCons (tCall (spRng K) [] (fun _ _ _ => False) (tCons (tVar 0) (tCons (tVar 1) tNil))) tNil)) rfl scLaw.nd
        (pi_range1 rfl zr (pa_cons (pe_callB (call_max2 rfl) (by rfl) zx (by decide +kernel) (pa_cons pe_int (pa_cons (pe_callB (call_min2 rfl) (by rfl) zm (by decide +kernel) (pa_cons (pe_callB call_len_seq (by rfl) zn PySem.boot_len (pa_cons (pv 0) pa_nil)) (pa_cons pe_int pa_nil))) pa_nil))) pa_nil)) (blkOk_by (N := ["_law_script", "_law_k"]) (sc := defScope sLaw) (by decide +kernel))
        (fun _ _ _ _ _ => pg_name (i := 1) scLaw.nd rfl (Or.inl rfl)) (fun _ _ _ _ _ => pts_nil) (fun _ _ _ _ _ => pe_callG gR gd hr (by rfl) aR.g aR.kp aR.b pass0 (pa_cons (pe_call gG hr1 (by rfl) aG.g aG.kp aG.b .nil pass0 (pa_cons (pe_var (i := 0) rfl (.inr (.inl rfl))) (pa_cons (pv 1) pa_nil))) pa_nil))) pa_nil))), ?_⟩
    have hl : (ns.map V.int).length = ns.length := List.length_map _
    refine ⟨_, rfl, S, _, rfl, .inl hS, _, _, rfl, _, _, rfl, ?_⟩
    rw [hl]
    generalize hm : (if (4 : Int) < (ns.length : Nat) then (4 : Int) else ((ns.length : Nat) : Int)) = m
    generalize hn : (if m > 1 then m else 1) = n0
    have n1 : 0 ≤ n0 ∧ n0 ≤ 5 := by
      have : m ≤ 5 := by
        rw [← hm]
        split <;> omega
      rw [← hn]
      split <;> omega
    obtain ⟨n, rfl⟩ : ∃ n : Nat, n0 = (n : Int) := ⟨n0.toNat, by omega⟩
    refine ⟨(n : Int), rfl, by omega, by omega, fun D nD => ?_⟩
    rw [show ((n : Int)).toNat = n by omega]
    refine lc_it (walk_range (lo := 0) (n := n)) (fun i H' => StayN H H' ∧ Tabs T H' ∧ H' D = some (.lst ((List.replicate i true).map V.bl))) ⟨fun b o e _ => Ext.new nD _ _ e, hT.ext (Ext.new nD), upd_same⟩ (fun _ _ _ _ => trivial) ?_ ?_
    · rintro i v H0 H1 hi ⟨x1, T1, d1⟩ ⟨rfl, rfl⟩
      refine ⟨rfl, ?_⟩
      dsimp only [tYes]
      rw [if_pos rfl]
      refine ⟨_, rfl, _, rfl, S, ns, i, by simp, sql_keepN x1 hS, h63, by omega, fun H2 a x2 na ra => ⟨a, rfl, ra, T1.ext x2, fun H3 k3 T3 => ?_⟩⟩
      have d2 := x2 _ _ d1
      have nDa : D ≠ a := fun e => by
        rw [e, na] at d1
        cases d1
      have d3 := k3 _ _ d2 (by intro ps q; cases q) nDa
      refine ⟨_, d3, by rw [List.length_map, List.length_replicate]; exact small_list (by omega), fun b o e n => ?_, tabs_put T3 d3 (by intro ps q; cases q) (by intro c q z; unfold CodeO at z; cases z), ?_⟩
      · rw [upd_ne (ne_of_none e nD)]
        exact k3 _ _ (x2 _ _ (x1 _ _ e n)) n (ne_of_none (x1 _ _ e n) na)
      · rw [upd_same, List.replicate_succ', List.map_append]
        rfl
    · rintro H1 ⟨x1, T1, d1⟩
      refine ⟨D, List.replicate n true, rfl, SqL.of d1, ?_⟩
      have e : (List.replicate n true).all id = true := by
        rw [List.all_eq_true]
        intro b hb
        rw [(List.mem_replicate.mp hb).2]
        rfl
      rw [e]
      exact k H1
end
end Sl
/-! ## E1 -/
set_option Elab.async false
set_option linter.all false
set_option maxRecDepth 100000
set_option maxHeartbeats 4000000
/-! the end: four defs make lambdas; the tables of their code objects are taken out of the written part and told besides -/
namespace Sl
open PySem PySem.Spec PyProof.Rows L2 TxS LamX NdefX
/-- all but what stands at ps -/
def dropL (ps : List Addr) (K : PySem.W.Frag) : PySem.W.Frag := K.filter fun q => !(ps.elem q.1)
theorem dropL_self {ps : List Addr} {p : Addr} (hp : p ∈ ps) : ∀ K : PySem.W.Frag, (dropL ps K).lookup p = none
  | [] => rfl
  | (b, u) :: r => by
    unfold dropL
    rw [List.filter_cons]
    cases e : ps.elem b with
    | true =>
      simp only [Bool.not_true, Bool.false_eq_true, if_false]
      exact dropL_self hp r
    | false =>
      have q : (p == b) = false := beq_eq_false_iff_ne.mpr fun c => by
        subst c
        rw [List.elem_eq_true_of_mem hp] at e
        cases e
      simp only [Bool.not_false, if_true]
      rw [List.lookup_cons, q]
      exact dropL_self hp r
theorem dropL_at {ps : List Addr} {a : Addr} {o : Obj} : ∀ {K : PySem.W.Frag}, (dropL ps K).lookup a = some o → K.lookup a = some o
  | [], h => h
  | (b, u) :: r, h => by
    by_cases m : a ∈ ps
    · rw [dropL_self m] at h
      cases h
    unfold dropL at h
    rw [List.filter_cons] at h
    cases e : ps.elem b with
    | true =>
      rw [e] at h
      simp only [Bool.not_true, Bool.false_eq_true, if_false] at h
      have q : (a == b) = false := beq_eq_false_iff_ne.mpr fun c => m (by
        subst c
        exact List.elem_iff.mp e)
      rw [List.lookup_cons, q]
      exact dropL_at h
    | false =>
      rw [e] at h
      simp only [Bool.not_false, if_true] at h
      rw [List.lookup_cons] at h ⊢
      cases c : (a == b) with
      | true =>
        rw [c] at h
        exact h
      | false =>
        rw [c] at h
        exact dropL_at h
theorem dropL_in {ps : List Addr} {K : PySem.W.Frag} {h : Heap} (X : K.In h) : (dropL ps K).In h := fun b o e => X b o (dropL_at e)
theorem same {α : Type} {F : PySem.W.Frag → α} {ps : List Addr} {K K1 : PySem.W.Frag} {r : α} (h : K1 = dropL ps K) (_y : F K = r) (x : F (dropL ps K) = r) : F K1 = r := by
  rw [h]
  exact x
abbrev noRows : Obj := { cls := .none, data := .fields #[] }
section
variable {P : Program} {w : World} {K : PySem.W.Frag} {mg mb : Str → Option Value} {CX : CXT} {k : Nat} {fa a : Addr} {cs : List (Addr × Addr)} {fd : FuncData} {x : Str} {sp : Sp} {z : Shared} {us : List Value} {js : List Int}
abbrev EndOk (z : Shared) : Result → Shared → Prop := fun r t => r = .ok (.ret (.bool true)) ∧ OldK z.heap t.heap ∧ t.os = z.os ∧ AllBare t.gens
/-- what the head's heap says of the names and of the tables -/
structure EndAtL (K : PySem.W.Frag) (mg mb : Str → Option Value) (cs : List (Addr × Addr)) (z : Shared) : Prop where
  inz : K.In z.heap
  ng : z.heap.Ns mainGlobals mg
  nb : z.heap.Ns builtinsNs mb
  eb : ∀ y : Str, y ≠ "__name__" → mb y = bootBuiltins y
  nl : z.heap.NoLimit
  gn : z.gens = #[]
  bi : ∃ (m : Addr) (o : Obj), mg "__builtins__" = some (.ref m) ∧ m ≠ builtinsNs ∧ z.heap.get? m = some o ∧ o.cls = .type "module" ∧ o.dict = some builtinsNs ∧ o.data = .plain
  em : ∀ p ∈ cs, z.heap.get? p.2 = some noRows
  hd : ∀ p ∈ cs, PySem.W.CodeHd z.heap p.1 p.2
theorem end_tabs1 {T : Hp} (W : EndAtL K mg mb cs z) (at_ : z.heap.get? a = some { cls := .type "list", data := .seq us.toArray }) (rm : Room k callerA)
    (F : ∀ base : Heap, K.In base → base.Ns mainGlobals mg → (∀ p ∈ cs, TabB base mg p.1 p.2) → FnG P w K mg base CX k fa fd [x] sp) (bd : ∀ (t : Shared) (u : Value), BindsTo t fd ⟨[u], []⟩ [(x, u)])
    (pr : sp [.ref a] T (fun v _ => v = .bl true) fun _ _ _ => False) (no : ∀ H e t, CX [] H z (fun _ _ _ => False) e t → False)
    (tp : ∀ p ∈ cs, T p.2 = some (.tbl #[])) (on : ∀ b, (∀ p ∈ cs, b ≠ p.2) → T b = none ∨ ∃ o ys, T b = some (.frz o (.lst ys))) (ok : HOk P w T z.heap) (one : ∀ b, T b ≠ none → b = a ∨ ∃ p ∈ cs, b = p.2) (out : ∀ b, T b ≠ none → K.lookup b = none) :
    codeAny (model P w) callerA (.call (.ref fa) ⟨[.ref a], []⟩) (EndOk z) z := by
  have free : ∀ {b : Addr} {o : Obj}, z.heap.get? b = some o → o ≠ { cls := .type "list", data := .seq us.toArray } → o ≠ noRows → T b = none := fun {b o} e n1 n2 => by
    cases q : T b with
    | none => rfl
    | some u =>
      rcases one b (by rw [q]; exact Option.some_ne_none u) with r | ⟨p, hp, r⟩
      · rw [r] at e
        exact absurd (Option.some.inj (e.symm.trans at_)) n1
      · rw [r] at e
        exact absurd (Option.some.inj (e.symm.trans (W.em p hp))) n2
  have inB : K.In (hidT z.heap T) := fun b o e => hidT_get (W.inz b o e) (by
    cases q : T b with
    | none => rfl
    | some u =>
      have k := out b (by rw [q]; exact Option.some_ne_none u)
      rw [e] at k
      cases k)
  have spc : ∀ {b : Addr} {m : Str → Option Value}, z.heap.Ns b m → (hidT z.heap T).Ns b m := fun {b m} h => by
    obtain ⟨o, es, ep, e, d, r⟩ := h
    refine ⟨o, es, ep, hidT_get e (free e (fun c => ?_) fun c => ?_), d, r⟩
    · rw [c] at d
      cases d
    · rw [c] at d
      cases d
  have lm : (hidT z.heap T).NoLimit := by
    obtain ⟨m, n1, n2⟩ := W.nl
    exact ⟨m, spc n1, n2⟩
  have tb : ∀ p ∈ cs, TabB (hidT z.heap T) mg p.1 p.2 := fun p hp => by
    refine ⟨?_, ?_, fun y => ?_⟩
    · obtain ⟨o, vs, file, tf, fl, tg, inF, tx, tt, e1, e2, e3, r⟩ := W.hd p hp
      refine ⟨o, vs, file, tf, fl, tg, inF, tx, tt, hidT_get e1 (free e1 (fun c => ?_) fun c => ?_), e2, e3, r⟩
      · rw [c] at e3
        cases e3
      · rw [c] at e2
        cases e2
    · obtain ⟨m, o, e1, e2, e3, e4, e5, e6⟩ := W.bi
      have nG : m ≠ mainGlobals := fun c => by
        obtain ⟨o', es, ep, q1, q2, _⟩ := W.ng
        rw [c, q1] at e3
        cases e3
        rw [q2] at e6
        cases e6
      have nP : m ≠ p.2 := fun c => by
        rw [c, W.em p hp] at e3
        cases e3
        cases e6
      refine ⟨m, o, e1, e2, nG, nP, hidT_get e3 (free e3 (fun c => ?_) fun c => ?_), e4, e5, e6⟩
      · rw [c] at e6
        cases e6
      · rw [c] at e6
        cases e6
    · obtain ⟨o', es, ep, q1, q2, _⟩ := W.ng
      rw [y, W.em p hp] at q1
      cases q1
      cases q2
  have ev : Env0 P w K mg (hidT z.heap T) callerA [] z T :=
    ⟨rfl, ⟨inB, spc W.ng, ⟨mb, spc W.nb, W.eb⟩, lm⟩, fun _ _ e => of_hidT e, Nat.le_of_eq (hidT_size _ _), trivial, fun b hb => (List.not_mem_nil (show b ∈ ([] : List Addr) from hb)).elim, ok, .of_eq W.gn⟩
  refine codeAny_mono ((F _ inB (spc W.ng) tb).run callerA [] z T ⟨[.ref a], []⟩ [.ref a] [.ref a] _ _ rfl rm ev (bd z (.ref a)) (.cons rfl .nil) pr) fun r t q => ?_
  rcases r with e | fl
  · exact (no T e t q).elim
  cases fl with
  | next => exact q.elim
  | brk => exact q.elim
  | cont => exact q.elim
  | ret u =>
    obtain ⟨v, T', o1, o2, un, ok', rv, rfl⟩ := q
    obtain rfl : u = Value.bool true := rv
    have same : ∀ b o, (∀ p ∈ cs, b ≠ p.2) → z.heap.get? b = some o → t.heap.get? b = some o := fun b o ne e => by
      rcases on b ne with n | ⟨o', ys, n⟩
      · exact un.keep b o e n (fun c => (List.not_mem_nil (show b ∈ ([] : List Addr) from c)).elim) (List.not_mem_nil)
      · obtain ⟨e1, _⟩ := ok b _ n
        obtain ⟨e2, _⟩ := ok' b _ (un.frzs b o' _ n)
        rw [e1] at e
        cases e
        exact e2
    have grew : ∀ p ∈ cs, ∃ more : Array Value, t.heap.get? p.2 = some { cls := .none, data := .fields (#[] ++ more) } := fun p hp => by
      obtain ⟨more, um⟩ := un.tbls p.2 #[] (tp p hp)
      exact ⟨more, ok' p.2 _ um⟩
    refine ⟨rfl, ⟨fun b o e => ?_, fun b o e => ?_⟩, o1, o2⟩
    · by_cases q : ∃ p ∈ cs, b = p.2
      · obtain ⟨p, hp, rfl⟩ := q
        rw [W.em p hp] at e
        cases e
        obtain ⟨more, g⟩ := grew p hp
        exact .inr (.inl ⟨((W.hd p hp).tab (W.em p hp)).isCodeTable, rfl, #[], more, rfl, g⟩)
      · exact .inl (same b o (fun p hp c => q ⟨p, hp, c⟩) e)
    · by_cases q : ∃ p ∈ cs, b = p.2
      · obtain ⟨p, hp, rfl⟩ := q
        obtain ⟨more, g⟩ := grew p hp
        exact ⟨_, g⟩
      · exact ⟨o, same b o (fun p hp c => q ⟨p, hp, c⟩) e⟩
theorem end_tabs (W : EndAtL K mg mb cs z) (kp : ∀ p ∈ cs, K.lookup p.2 = none) (at_ : z.heap.get? a = some { cls := .type "list", data := .seq us.toArray }) (ia : IntsAre us js) (sz : js.length ≤ sizeLine) (rm : Room k callerA)
    (F : ∀ base : Heap, K.In base → base.Ns mainGlobals mg → (∀ p ∈ cs, TabB base mg p.1 p.2) → FnG P w K mg base CX k fa fd [x] sp) (bd : ∀ (t : Shared) (u : Value), BindsTo t fd ⟨[u], []⟩ [(x, u)])
    (pr : ∀ T : Hp, (∀ p ∈ cs, T p.2 = some (.tbl #[])) → SqL K T a (js.map V.int) → sp [.ref a] T (fun v _ => v = .bl true) fun _ _ _ => False) (no : ∀ H e t, CX [] H z (fun _ _ _ => False) e t → False) :
    codeAny (model P w) callerA (.call (.ref fa) ⟨[.ref a], []⟩) (EndOk z) z := by
  classical
  have rv := vals_ints ia
  have ln := ia.length
  have pa : ∀ p ∈ cs, a ≠ p.2 := fun p hp e => by
    rw [e, W.em p hp] at at_
    cases at_
  cases own : K.lookup a with
  | some o =>
    have e := W.inz a o own
    rw [at_] at e
    cases e
    let T0 : Hp := fun b => if ∃ p ∈ cs, b = p.2 then some (.tbl #[]) else none
    have tp : ∀ p ∈ cs, T0 p.2 = some (.tbl #[]) := fun p hp => if_pos ⟨p, hp, rfl⟩
    have tn : ∀ {b}, (¬ ∃ p ∈ cs, b = p.2) → T0 b = none := fun {b} q => if_neg q
    have to : ∀ {b}, T0 b ≠ none → ∃ p ∈ cs, b = p.2 := fun {b} q => Classical.byContradiction fun r => q (tn r)
    refine end_tabs1 (T := T0) W at_ rm F bd (pr T0 tp (.inr ⟨_, us.toArray, _, own, rfl, rfl, rfl, ?_, ?_⟩)) no tp (fun b q => .inl (tn fun ⟨p, hp, c⟩ => q p hp c)) (fun b u q => ?_) (fun b q => .inr (to q)) fun b q => ?_
    · rw [List.size_toArray, ln]
      exact sz
    · simpa using rv
    · obtain ⟨p, hp, r⟩ := to (b := b) (by rw [q]; exact Option.some_ne_none u)
      subst r
      rw [tp p hp] at q
      cases q
      exact W.em p hp
    · obtain ⟨p, hp, r⟩ := to q
      rw [r]
      exact kp p hp
  | none =>
    let T0 : Hp := fun b => if ∃ p ∈ cs, b = p.2 then some (.tbl #[]) else if b = a then some (.frz { cls := .type "list", data := .seq us.toArray } (.lst (js.map V.int))) else none
    have tp : ∀ p ∈ cs, T0 p.2 = some (.tbl #[]) := fun p hp => if_pos ⟨p, hp, rfl⟩
    have ta : T0 a = some (.frz { cls := .type "list", data := .seq us.toArray } (.lst (js.map V.int))) := (if_neg fun ⟨p, hp, c⟩ => pa p hp c).trans (if_pos rfl)
    have tn : ∀ {b}, (¬ ∃ p ∈ cs, b = p.2) → b ≠ a → T0 b = none := fun {b} q r => (if_neg q).trans (if_neg r)
    have to : ∀ {b}, T0 b ≠ none → b = a ∨ ∃ p ∈ cs, b = p.2 := fun {b} q => by
      by_cases r : ∃ p ∈ cs, b = p.2
      · exact .inr r
      by_cases s : b = a
      · exact .inl s
      exact absurd (tn r s) q
    refine end_tabs1 (T := T0) W at_ rm F bd (pr T0 tp (.inl (.inr ⟨_, ta⟩))) no tp (fun b q => ?_) (fun b u q => ?_) (fun b q => to q) fun b q => ?_
    · by_cases s : b = a
      · subst s
        exact .inr ⟨_, _, ta⟩
      · exact .inl (tn (fun ⟨p, hp, c⟩ => q p hp c) s)
    · rcases to (b := b) (by rw [q]; exact Option.some_ne_none u) with r | ⟨p, hp, r⟩
      · subst r
        rw [ta] at q
        cases q
        exact ⟨at_, by rw [List.length_map]; exact sz, us, _, rv, at_⟩
      · subst r
        rw [tp p hp] at q
        cases q
        exact W.em p hp
    · rcases to q with r | ⟨p, hp, r⟩
      · rw [r]
        exact own
      · rw [r]
        exact kp p hp
end
theorem walk_ofL {l : PySem.W.OpenLaw} {n k : Nat} {q : Program} {loose : List Str} {XP : (Str → Option Value) → Heap → Prop} {YP : World → Heap → Prop} {d : DefRec} {K : Params → PySem.W.Frag} {sp : PySem.W.Frag → Sp} {x : Str} {cs : List (Addr × Addr)}
    (m : l.most = some n) (m2 : n ≤ sizeLine) (nd : d.params.defaults = []) (rm : Room k callerA) (inY : ∀ (w : World) (h : Heap), YP w h → (K w.params).In h)
    (F : ∀ (w : World) (mg : Str → Option Value) (fa : Addr) (h : Heap) (K1 : PySem.W.Frag), K1 = dropL (cs.map (·.2)) (K w.params) → K1.In h → h.Ns mainGlobals mg → mg d.name = some (.ref fa) →
      (∀ p ∈ cs, (K w.params).lookup p.2 = some noRows) ∧ (∀ p ∈ cs, PySem.W.codeHdIn (K w.params) p.1 p.2 = true) ∧
      ∃ fd : FuncData, (∀ (t : Shared) (u : Value), BindsTo t fd ⟨[u], []⟩ [(x, u)]) ∧ ∀ base : Heap, K1.In base → base.Ns mainGlobals mg → (∀ p ∈ cs, TabB base mg p.1 p.2) → FnG l.prog w K1 mg base CX0 k fa fd [x] (sp K1))
    (pr : ∀ (K : PySem.W.Frag) (H : Hp) (a : Addr) (js : List Int), js.length ≤ n → (∀ p ∈ cs, H p.2 = some (.tbl #[])) → SqL K H a (js.map V.int) → sp K [.ref a] H (fun v _ => v = .bl true) fun _ _ _ => False) :
    PySem.W.WalkO q loose XP YP l.row.toRowW d [] (fun f vs => PySem.call f vs) := by
  refine Att.attach_call m nd fun w t0 t1 mg mb fa o pm cd doc a us js G Y ho hd hcd hmg hobj hints hlen hg => ?_
  have X := inY w _ Y
  obtain ⟨l1, l2, fd, b, f⟩ := F w mg fa _ _ rfl (dropL_in X) G.T.g hmg
  exact end_tabs (sp := sp _) ⟨dropL_in X, G.T.g, G.T.b, G.T.builtins, G.T.nolimit, hg, G.T.bmain, fun p hp => X _ _ (l1 p hp), fun p hp => PySem.W.codeHd_of_K X (l2 p hp)⟩ (fun p hp => dropL_self (List.mem_map.mpr ⟨p, hp, rfl⟩) _) hobj hints (Nat.le_trans hlen m2) rm f b (fun T h1 h2 => pr _ T a js hlen h1 h2) fun _ _ _ c => c
/-! ### what the top has written -/
/-- a def of the module -/
structure Std (K : PySem.W.Frag) (x : Str) (st : Stmt) (f : Addr) : Prop where
  ns : PySem.W.nsIn K mainGlobals x = some (some (.ref f))
  fn : ∃ fd, Fun K x x st f fd
theorem std_of {K : PySem.W.Frag} {x : Str} {st : Stmt} {f : Addr} {oc : Value} {od an : Option Addr} {osl : Array (Option Value)} {kV doc pm cdv ct : Value} (n : PySem.W.nsIn K mainGlobals x = some (some (.ref f)))
    (l : K.lookup f = some ⟨oc, od, .func (PySem.W.fnOf x x (defArgs st) (defBody st) (defScope st) .none kV doc pm an cdv ct), osl⟩) (c : PySem.W.codeIn K cdv x = true) (k : PySem.W.keepIn K (.ref f) = true) : Std K x st f := ⟨n, _, fun_mk l c k⟩
/-- a def that makes lambdas: its code object -/
structure StdT (K : PySem.W.Frag) (x : Str) (st : Stmt) (f c : Addr) : Prop where
  ns : PySem.W.nsIn K mainGlobals x = some (some (.ref f))
  fn : ∃ fd, Fun K x x st f fd ∧ fd.code = .ref c
theorem stdt_of {K : PySem.W.Frag} {x : Str} {st : Stmt} {f c : Addr} {oc : Value} {od an : Option Addr} {osl : Array (Option Value)} {kV doc pm ct : Value} (n : PySem.W.nsIn K mainGlobals x = some (some (.ref f)))
    (l : K.lookup f = some ⟨oc, od, .func (PySem.W.fnOf x x (defArgs st) (defBody st) (defScope st) .none kV doc pm an (.ref c) ct), osl⟩) (co : PySem.W.codeIn K (.ref c) x = true) (k : PySem.W.keepIn K (.ref f) = true) : StdT K x st f c := ⟨n, _, fun_mk l co k, rfl⟩
/-- a def of the class -/
structure InCls (K : PySem.W.Frag) (C : Addr) (x q : Str) (st : Stmt) (f : Addr) : Prop where
  m : Meth K C x f
  fn : ∃ fd, Fun K x q st f fd
theorem incls_of {K : PySem.W.Frag} {C : Addr} {x q : Str} {st : Stmt} {f : Addr} {oc : Value} {od an : Option Addr} {osl : Array (Option Value)} {kV doc pm cdv ct : Value} (n : PySem.W.findIn K (.ref C) x = some (some (.ref f))) (i : PySem.W.isFn K (.ref f) = true)
    (l : K.lookup f = some ⟨oc, od, .func (PySem.W.fnOf x q (defArgs st) (defBody st) (defScope st) .none kV doc pm an cdv ct), osl⟩) (c : PySem.W.codeIn K cdv q = true) (k : PySem.W.keepIn K (.ref f) = true) : InCls K C x q st f := ⟨⟨n, i, k⟩, _, fun_mk l c k⟩
/-- the property's getter -/
structure InProp (K : PySem.W.Frag) (C : Addr) (x q : Str) (st : Stmt) (p f : Addr) : Prop where
  m : PropOf K C x p f
  fn : ∃ fd, Fun K x q st f fd
theorem inprop_of {K : PySem.W.Frag} {C : Addr} {x q : Str} {st : Stmt} {p f : Addr} {rest : List Value} {oc : Value} {od an : Option Addr} {osl : Array (Option Value)} {kV doc pm cdv ct : Value} (n : PySem.W.findIn K (.ref C) x = some (some (.ref p)))
    (g : PySem.W.specialIn K (.ref p) "__get__" = some (some (.builtin "property.__get__"))) (t : PySem.W.takesIn K (.ref p) = some true) (r : PySem.W.recIn K p "property" = some (.ref f :: rest))
    (l : K.lookup f = some ⟨oc, od, .func (PySem.W.fnOf x q (defArgs st) (defBody st) (defScope st) .none kV doc pm an cdv ct), osl⟩) (c : PySem.W.codeIn K cdv q = true) (k : PySem.W.keepIn K (.ref f) = true) : InProp K C x q st p f := ⟨⟨n, g, t, rest, r⟩, _, fun_mk l c k⟩
/-- the class, with its __init__ and its constant -/
structure LgAll (K : PySem.W.Frag) (C fI c : Addr) (u6 : Value) : Prop where
  ns : PySem.W.nsIn K mainGlobals "Language" = some (some (.ref C))
  lg : LgC K C
  isc : C8.InsC K C
  mak : Mk K C fI
  con : Con K C "MAX_STATES" (.int 6) u6
  ini : ∃ fd, Fun K "__init__" "Language.__init__" sLInit fI fd ∧ fd.code = .ref c
theorem lgall_of {K : PySem.W.Frag} {C fI cI : Addr} {t6 : Tok} {oc : Value} {od an : Option Addr} {osl : Array (Option Value)} {kV doc pm ct : Value}
    (ns : PySem.W.nsIn K mainGlobals "Language" = some (some (.ref C)))
    (pg : PySem.W.plainGet K C Str.empty = true) (hd : PySem.W.hasDictIn K C = true) (po : PySem.W.plainOver K C = true) (sa : PySem.W.findIn K (.ref C) "__setattr__" = some (some (.builtin "object.__setattr__")))
    (n1 : PySem.W.findIn K (.ref C) "_signs" = some none) (n2 : PySem.W.findIn K (.ref C) "_states" = some none) (n3 : PySem.W.findIn K (.ref C) "_members" = some none) (n4 : PySem.W.findIn K (.ref C) "_live" = some none)
    (mk : PySem.W.makesIn K C = true) (i : PySem.W.findIn K (.ref C) "__init__" = some (some (.ref fI))) (fn : PySem.W.isFn K (.ref fI) = true) (kC : PySem.W.keepIn K (.ref C) = true)
    (i1 : PySem.W.findIn K (.ref C) "__class__" = some (some (.builtin "object.__class__"))) (i2 : PySem.W.specialIn K (.builtin "object.__class__") "__get__" = some (some (.builtin "getset_descriptor.__get__"))) (i3 : PySem.W.takesIn K (.builtin "object.__class__") = some true) (i4 : PySem.W.mroIn K C (.type "object") = some true) (i5 : PySem.W.kitOne K (.ref C) (.ref C) = some true)
    (c1 : PySem.W.findIn K (.ref C) "MAX_STATES" = some (some (.int 6 t6))) (c2 : PySem.W.specialIn K (.int 6 t6) "__get__" = some none)
    (l : K.lookup fI = some ⟨oc, od, .func (PySem.W.fnOf "__init__" "Language.__init__" (defArgs sLInit) (defBody sLInit) (defScope sLInit) .none kV doc pm an (.ref cI) ct), osl⟩) (c : PySem.W.codeIn K (.ref cI) "Language.__init__" = true) (k : PySem.W.keepIn K (.ref fI) = true) : LgAll K C fI cI (.int 6 t6) :=
  ⟨ns, ⟨⟨pg, hd, po, sa⟩, n1, n2, n3, n4⟩, ⟨⟨pg, hd, po, sa⟩, i1, i2, i3, i4, i5⟩, ⟨mk, i, fn, kC⟩, ⟨c1, ⟨t6, rfl⟩, c2, by decide +kernel⟩, _, fun_mk l c k, rfl⟩
theorem vals_rev : ∀ {vs : List V} {us : List Value}, Vals vs us → Vals vs.reverse us.reverse
  | _, _, .nil => .nil
  | _, _, .cons r rs => by
    rw [List.reverse_cons, List.reverse_cons]
    exact (vals_rev rs).append (.cons r .nil)
theorem kb_mems {K : PySem.W.Frag} {f : Addr} {fd : FuncData} (F : Fun K "members" "members" sMembers f fd) : KBn K fd ["language", "most"] 0 ["most", "language"] (fun us ws => us ++ ws.reverse) (fun vs zs => vs ++ zs.reverse) := by
  obtain ⟨oc, od, kV, doc, pm, an, cdv, ct, osl, e, _⟩ := F.ex
  subst e
  exact ⟨fun s us ws _ h1 h2 => match us, ws, h1, h2 with
    | [], [_, _], _, _ => .of_eq rfl, fun r1 r2 => r1.append (vals_rev r2)⟩
theorem sys_of {K : PySem.W.Frag} {o : Obj} (h : K.lookup sysModules = some o) : ∃ o, K.lookup sysModules = some o := ⟨o, h⟩
theorem tab_uniq {p : Addr} {nm : Str} : ∀ {T : List (Addr × Str)}, (T.map (·.1)).Nodup → (p, nm) ∈ T → ∀ q ∈ T, q.1 = p → q.2 = nm
  | [], _, h, _, _, _ => nomatch h
  | t :: T, nd, h, q, hq, e => by
    rw [List.map_cons] at nd
    obtain ⟨n1, n2⟩ := List.nodup_cons.mp nd
    rcases List.mem_cons.mp h with rfl | h'
    · rcases List.mem_cons.mp hq with rfl | hq
      · rfl
      · exact absurd (List.mem_map.mpr ⟨q, hq, e⟩) n1
    · rcases List.mem_cons.mp hq with rfl | hq
      · exact absurd (show q.1 ∈ T.map (·.1) from List.mem_map.mpr ⟨(p, nm), h', e.symm⟩) n1
      · exact tab_uniq n2 h' q hq e

theorem pin4 {K K1 : PySem.W.Frag} {C : Addr} {f1 d1 c1 p1 : Addr} {oc1 : Value} {od1 an1 : Option Addr} {osl1 : Array (Option Value)} {kV1 doc1 pm1 ct1 cc1 : Value} {cd1 : Option Addr} {vs1 : Array Value} {cs1 : Array (Option Value)} {f2 d2 c2 p2 : Addr} {oc2 : Value} {od2 an2 : Option Addr} {osl2 : Array (Option Value)} {kV2 doc2 pm2 ct2 cc2 : Value} {cd2 : Option Addr} {vs2 : Array Value} {cs2 : Array (Option Value)} {f3 d3 c3 p3 : Addr} {oc3 : Value} {od3 an3 : Option Addr} {osl3 : Array (Option Value)} {kV3 doc3 pm3 ct3 cc3 : Value} {cd3 : Option Addr} {vs3 : Array Value} {cs3 : Array (Option Value)} {f4 d4 c4 p4 : Addr} {oc4 : Value} {od4 an4 : Option Addr} {osl4 : Array (Option Value)} {kV4 doc4 pm4 ct4 cc4 : Value} {cd4 : Option Addr} {vs4 : Array Value} {cs4 : Array (Option Value)} {goal : Prop} (_h : K1 = dropL (List.map (fun q => q.2) [(c1, p1), (c2, p2), (c3, p3), (c4, p4)]) K) (_nC : PySem.W.nsIn K mainGlobals "Language" = some (some (.ref C)))
    (_n1 : PySem.W.nsIn K mainGlobals "reached" = some (some (.ref f1))) (_l1 : K.lookup f1 = some ⟨oc1, od1, .func (PySem.W.fnOf "reached" "reached" (defArgs sReached) (defBody sReached) (defScope sReached) .none kV1 doc1 pm1 an1 (.ref d1) ct1), osl1⟩) (_e1 : d1 = c1) (_lc1 : K.lookup d1 = some ⟨cc1, cd1, .fields vs1, cs1⟩) (_v1 : vs1[11]? = some (.ref p1))
    (_n2 : PySem.W.nsIn K mainGlobals "least_machine" = some (some (.ref f2))) (_l2 : K.lookup f2 = some ⟨oc2, od2, .func (PySem.W.fnOf "least_machine" "least_machine" (defArgs sLeast) (defBody sLeast) (defScope sLeast) .none kV2 doc2 pm2 an2 (.ref d2) ct2), osl2⟩) (_e2 : d2 = c2) (_lc2 : K.lookup d2 = some ⟨cc2, cd2, .fields vs2, cs2⟩) (_v2 : vs2[11]? = some (.ref p2))
    (_n3 : PySem.W.findIn K (.ref C) "__init__" = some (some (.ref f3))) (_l3 : K.lookup f3 = some ⟨oc3, od3, .func (PySem.W.fnOf "__init__" "Language.__init__" (defArgs sLInit) (defBody sLInit) (defScope sLInit) .none kV3 doc3 pm3 an3 (.ref d3) ct3), osl3⟩) (_e3 : d3 = c3) (_lc3 : K.lookup d3 = some ⟨cc3, cd3, .fields vs3, cs3⟩) (_v3 : vs3[11]? = some (.ref p3))
    (_n4 : PySem.W.nsIn K mainGlobals "least_text" = some (some (.ref f4))) (_l4 : K.lookup f4 = some ⟨oc4, od4, .func (PySem.W.fnOf "least_text" "least_text" (defArgs sLeastT) (defBody sLeastT) (defScope sLeastT) .none kV4 doc4 pm4 an4 (.ref d4) ct4), osl4⟩) (_e4 : d4 = c4) (_lc4 : K.lookup d4 = some ⟨cc4, cd4, .fields vs4, cs4⟩) (_v4 : vs4[11]? = some (.ref p4)) (g : goal) : goal := g
theorem all4 {K : PySem.W.Frag} {c1 p1 c2 p2 c3 p3 c4 p4 : Addr} {R : Prop} (l1 : K.lookup p1 = some noRows) (l2 : K.lookup p2 = some noRows) (l3 : K.lookup p3 = some noRows) (l4 : K.lookup p4 = some noRows) (h1 : PySem.W.codeHdIn K c1 p1 = true) (h2 : PySem.W.codeHdIn K c2 p2 = true) (h3 : PySem.W.codeHdIn K c3 p3 = true) (h4 : PySem.W.codeHdIn K c4 p4 = true) (r : R) :
    (∀ p ∈ [(c1, p1), (c2, p2), (c3, p3), (c4, p4)], K.lookup p.2 = some noRows) ∧ (∀ p ∈ [(c1, p1), (c2, p2), (c3, p3), (c4, p4)], PySem.W.codeHdIn K p.1 p.2 = true) ∧ R := by
  refine ⟨fun p hp => ?_, fun p hp => ?_, r⟩
  · simp only [List.mem_cons, List.not_mem_nil, or_false] at hp
    rcases hp with rfl | rfl | rfl | rfl
    · exact l1
    · exact l2
    · exact l3
    · exact l4
  · simp only [List.mem_cons, List.not_mem_nil, or_false] at hp
    rcases hp with rfl | rfl | rfl | rfl
    · exact h1
    · exact h2
    · exact h3
    · exact h4

theorem sm_readsIn {ps : List Addr} {K K1 : PySem.W.Frag} {a : _} {b : _} {r : _} (h : K1 = dropL ps K) (y : PySem.W.readsIn K a b = r) (z : PySem.W.readsIn (dropL ps K) a b = r) : PySem.W.readsIn K1 a b = r := same (F := fun k => PySem.W.readsIn k a b) h y z
theorem sm_notFirst {ps : List Addr} {K K1 : PySem.W.Frag} {a : _} {b : _} {r : _} (h : K1 = dropL ps K) (y : PySem.W.notFirst K a b = r) (z : PySem.W.notFirst (dropL ps K) a b = r) : PySem.W.notFirst K1 a b = r := same (F := fun k => PySem.W.notFirst k a b) h y z
theorem sm_findCls {ps : List Addr} {K K1 : PySem.W.Frag} {a : _} {b : _} {c : _} {r : _} (h : K1 = dropL ps K) (y : PySem.W.findCls K a b c = r) (z : PySem.W.findCls (dropL ps K) a b c = r) : PySem.W.findCls K1 a b c = r := same (F := fun k => PySem.W.findCls k a b c) h y z
theorem sm_nsIn {ps : List Addr} {K K1 : PySem.W.Frag} {a : _} {b : _} {r : _} (h : K1 = dropL ps K) (y : PySem.W.nsIn K a b = r) (z : PySem.W.nsIn (dropL ps K) a b = r) : PySem.W.nsIn K1 a b = r := same (F := fun k => PySem.W.nsIn k a b) h y z
theorem sm_findIn {ps : List Addr} {K K1 : PySem.W.Frag} {a : _} {b : _} {r : _} (h : K1 = dropL ps K) (y : PySem.W.findIn K a b = r) (z : PySem.W.findIn (dropL ps K) a b = r) : PySem.W.findIn K1 a b = r := same (F := fun k => PySem.W.findIn k a b) h y z
theorem sm_typeIn {ps : List Addr} {K K1 : PySem.W.Frag} {a : _} {r : _} (h : K1 = dropL ps K) (y : PySem.W.typeIn K a = r) (z : PySem.W.typeIn (dropL ps K) a = r) : PySem.W.typeIn K1 a = r := same (F := fun k => PySem.W.typeIn k a) h y z
theorem sm_specialIn {ps : List Addr} {K K1 : PySem.W.Frag} {a : _} {b : _} {r : _} (h : K1 = dropL ps K) (y : PySem.W.specialIn K a b = r) (z : PySem.W.specialIn (dropL ps K) a b = r) : PySem.W.specialIn K1 a b = r := same (F := fun k => PySem.W.specialIn k a b) h y z
theorem sm_takesIn {ps : List Addr} {K K1 : PySem.W.Frag} {a : _} {r : _} (h : K1 = dropL ps K) (y : PySem.W.takesIn K a = r) (z : PySem.W.takesIn (dropL ps K) a = r) : PySem.W.takesIn K1 a = r := same (F := fun k => PySem.W.takesIn k a) h y z
theorem sm_subIn {ps : List Addr} {K K1 : PySem.W.Frag} {a : _} {b : _} {r : _} (h : K1 = dropL ps K) (y : PySem.W.subIn K a b = r) (z : PySem.W.subIn (dropL ps K) a b = r) : PySem.W.subIn K1 a b = r := same (F := fun k => PySem.W.subIn k a b) h y z
theorem sm_recIn {ps : List Addr} {K K1 : PySem.W.Frag} {a : _} {b : _} {r : _} (h : K1 = dropL ps K) (y : PySem.W.recIn K a b = r) (z : PySem.W.recIn (dropL ps K) a b = r) : PySem.W.recIn K1 a b = r := same (F := fun k => PySem.W.recIn k a b) h y z
theorem sm_makesIn {ps : List Addr} {K K1 : PySem.W.Frag} {a : _} {r : _} (h : K1 = dropL ps K) (y : PySem.W.makesIn K a = r) (z : PySem.W.makesIn (dropL ps K) a = r) : PySem.W.makesIn K1 a = r := same (F := fun k => PySem.W.makesIn k a) h y z
theorem sm_plainOver {ps : List Addr} {K K1 : PySem.W.Frag} {a : _} {r : _} (h : K1 = dropL ps K) (y : PySem.W.plainOver K a = r) (z : PySem.W.plainOver (dropL ps K) a = r) : PySem.W.plainOver K1 a = r := same (F := fun k => PySem.W.plainOver k a) h y z
theorem sm_kitOne {ps : List Addr} {K K1 : PySem.W.Frag} {a : _} {b : _} {r : _} (h : K1 = dropL ps K) (y : PySem.W.kitOne K a b = r) (z : PySem.W.kitOne (dropL ps K) a b = r) : PySem.W.kitOne K1 a b = r := same (F := fun k => PySem.W.kitOne k a b) h y z
theorem sm_codeIn {ps : List Addr} {K K1 : PySem.W.Frag} {a : _} {b : _} {r : _} (h : K1 = dropL ps K) (y : PySem.W.codeIn K a b = r) (z : PySem.W.codeIn (dropL ps K) a b = r) : PySem.W.codeIn K1 a b = r := same (F := fun k => PySem.W.codeIn k a b) h y z
theorem sm_hasDictIn {ps : List Addr} {K K1 : PySem.W.Frag} {a : _} {r : _} (h : K1 = dropL ps K) (y : PySem.W.hasDictIn K a = r) (z : PySem.W.hasDictIn (dropL ps K) a = r) : PySem.W.hasDictIn K1 a = r := same (F := fun k => PySem.W.hasDictIn k a) h y z
theorem sm_plainGet {ps : List Addr} {K K1 : PySem.W.Frag} {a : _} {b : _} {r : _} (h : K1 = dropL ps K) (y : PySem.W.plainGet K a b = r) (z : PySem.W.plainGet (dropL ps K) a b = r) : PySem.W.plainGet K1 a b = r := same (F := fun k => PySem.W.plainGet k a b) h y z
theorem sm_keepIn {ps : List Addr} {K K1 : PySem.W.Frag} {a : _} {r : _} (h : K1 = dropL ps K) (y : PySem.W.keepIn K a = r) (z : PySem.W.keepIn (dropL ps K) a = r) : PySem.W.keepIn K1 a = r := same (F := fun k => PySem.W.keepIn k a) h y z
theorem sm_isFn {ps : List Addr} {K K1 : PySem.W.Frag} {a : _} {r : _} (h : K1 = dropL ps K) (y : PySem.W.isFn K a = r) (z : PySem.W.isFn (dropL ps K) a = r) : PySem.W.isFn K1 a = r := same (F := fun k => PySem.W.isFn k a) h y z
theorem sm_mroIn {ps : List Addr} {K K1 : PySem.W.Frag} {a : _} {b : _} {r : _} (h : K1 = dropL ps K) (y : PySem.W.mroIn K a b = r) (z : PySem.W.mroIn (dropL ps K) a b = r) : PySem.W.mroIn K1 a b = r := same (F := fun k => PySem.W.mroIn k a b) h y z
theorem sm_codeHdIn {ps : List Addr} {K K1 : PySem.W.Frag} {a : _} {b : _} {r : _} (h : K1 = dropL ps K) (y : PySem.W.codeHdIn K a b = r) (z : PySem.W.codeHdIn (dropL ps K) a b = r) : PySem.W.codeHdIn K1 a b = r := same (F := fun k => PySem.W.codeHdIn k a b) h y z
theorem sm_lookup {ps : List Addr} {K K1 : PySem.W.Frag} {a : Addr} {r : Option Obj} (h : K1 = dropL ps K) (y : K.lookup a = r) (z : (dropL ps K).lookup a = r) : K1.lookup a = r := same (F := fun k => k.lookup a) h y z
theorem all_mk {P : Program} {w : World} {K : PySem.W.Frag} {h : Heap} {mg : Str → Option Value} {fa C fI c1 p1 c2 p2 c3 p3 c4 p4 f_expl f_reac f_retr f_way f_lead f_dist f_leas f_spli f_firs f_isint f_below f_chst f_ares f_hasl f_word f_wdof f_lasg f_chks f_last f_llds f_ltxt f_lvld f_lngr f_mems f_rng f_draw f_lett f_clas f_belo f_lvlw f_text f_dbl f_spot f_stat f_walk f_apar f_memr f_valr f_rght f_law f_len f_mv f_mb f_lv f_has f_eq f_rep p_sgs f_sgs p_emp f_emp : Addr} {u6 : Value} {t4 t40 t8 : Tok} (X : K.In h) (G : h.Ns mainGlobals mg) (hfa : mg "law" = some (.ref fa))
    (s_expl : Std K "explored" sExplored f_expl)
    (s_reac : StdT K "reached" sReached f_reac c1)
    (s_retr : Std K "retraced" sRetr f_retr)
    (s_way : Std K "least_way" sWay f_way)
    (s_lead : Std K "leading_into" sLeading f_lead)
    (s_dist : Std K "distances_to" sDist f_dist)
    (s_leas : StdT K "least_machine" sLeast f_leas c2)
    (s_spli : Std K "_split" sSplit f_spli)
    (s_firs : Std K "_firsts" sFirsts f_firs)
    (s_isint : Std K "is_integer" sIsInt f_isint)
    (s_below : Std K "is_below" sBelow f_below)
    (s_chst : Std K "check_state" sCheckState f_chst)
    (s_ares : Std K "are_states" sAreStates f_ares)
    (s_hasl : Std K "has_length" sHasLen f_hasl)
    (s_word : Std K "is_word" sIsWord f_word)
    (s_wdof : Std K "is_word_of" sWordOf f_wdof)
    (s_lasg : Std K "are_language_signs" sLangSg f_lasg)
    (s_chks : Std K "_check_signs" sChkSg f_chks)
    (s_last : Std K "_is_language_state" sLangSt f_last)
    (s_llds : Std K "_language_leads" sLLeads f_llds)
    (s_ltxt : StdT K "least_text" sLeastT f_ltxt c4)
    (s_lvld : Std K "live_leads" sLiveLd f_lvld)
    (s_lngr : Std K "_longer" sLonger f_lngr)
    (s_mems : Std K "members" sMembers f_mems)
    (s_rng : Std K "_law_rng" sRng f_rng)
    (s_draw : Std K "_law_draw" sDraw f_draw)
    (s_lett : Std K "_law_letters" sLetters f_lett)
    (s_clas : Std K "_law_class" sClass f_clas)
    (s_belo : Std K "_law_belongs" sBelongs f_belo)
    (s_lvlw : Std K "_law_live" sLiveLaw f_lvlw)
    (s_text : Std K "_law_texts" sTexts f_text)
    (s_dbl : Std K "_law_doubled" sDbl f_dbl)
    (s_spot : Std K "_law_spot" sSpot f_spot)
    (s_stat : Std K "_law_state" sStateL f_stat)
    (s_walk : Std K "_law_walks_right" sWalksR f_walk)
    (s_apar : Std K "_law_apart" sApart f_apar)
    (s_memr : Std K "_law_members_right" sMemR f_memr)
    (s_valr : Std K "_law_values_right" sValsR f_valr)
    (s_rght : Std K "_law_right" sRight f_rght)
    (s_law : Std K "law" sLaw f_law)
    (rd : LgAll K C fI c3 u6)
    (s_len : InCls K C "__len__" "Language.__len__" sLenL f_len)
    (s_mv : InCls K C "move" "Language.move" sMoveL f_mv)
    (s_mb : InCls K C "is_member" "Language.is_member" sMember f_mb)
    (s_lv : InCls K C "is_live" "Language.is_live" sIsLive f_lv)
    (s_has : InCls K C "__contains__" "Language.__contains__" sHasL f_has)
    (s_eq : InCls K C "__eq__" "Language.__eq__" sEqL f_eq)
    (s_rep : InCls K C "__repr__" "Language.__repr__" sReprL f_rep)
    (s_sgs : InProp K C "signs" "Language.signs" sSigns p_sgs f_sgs)
    (s_emp : InProp K C "is_empty" "Language.is_empty" sEmpty p_emp f_emp)
    (k4 : PySem.W.nsIn K mainGlobals "MAX_SIGNS" = some (some (.int 4 t4))) (k40 : PySem.W.nsIn K mainGlobals "MAX_GIVEN_STATES" = some (some (.int 40 t40))) (k8 : PySem.W.nsIn K mainGlobals "MAX_MEMBER_SIGNS" = some (some (.int 8 t8)))
    (kT : PySem.W.kitOne K (.type "tuple") (.ref C) = some false) (fT : PySem.W.notFirst K C (.type "tuple") = true)
    (ne : PySem.W.findIn K (.ref C) "__ne__" = some (some (.builtin "object.__ne__"))) (hm : PySem.W.mroIn K C (.type "object") = some true)
    (r1 : PySem.W.readsIn K C (.type "type") = true) (r2 : PySem.W.specialIn K (.ref C) "__getattribute__" = some (some (.builtin "type.__getattribute__"))) (r3 : PySem.W.findCls K (.ref C) (.type "type") "MAX_STATES" = some (.val u6))
    (sys0 : ∃ o, K.lookup sysModules = some o) (pd : [p1, p2, p3, p4].Nodup)
    (z_isinstance : PySem.W.nsIn K mainGlobals "isinstance" = some none)
    (z_int : PySem.W.nsIn K mainGlobals "int" = some none)
    (z_bool : PySem.W.nsIn K mainGlobals "bool" = some none)
    (z_list : PySem.W.nsIn K mainGlobals "list" = some none)
    (z_tuple : PySem.W.nsIn K mainGlobals "tuple" = some none)
    (z_len : PySem.W.nsIn K mainGlobals "len" = some none)
    (z_all : PySem.W.nsIn K mainGlobals "all" = some none)
    (z_any : PySem.W.nsIn K mainGlobals "any" = some none)
    (z_set : PySem.W.nsIn K mainGlobals "set" = some none)
    (z_str : PySem.W.nsIn K mainGlobals "str" = some none)
    (z_dict : PySem.W.nsIn K mainGlobals "dict" = some none)
    (z_sorted : PySem.W.nsIn K mainGlobals "sorted" = some none)
    (z_enumerate : PySem.W.nsIn K mainGlobals "enumerate" = some none)
    (z_divmod : PySem.W.nsIn K mainGlobals "divmod" = some none)
    (z_range : PySem.W.nsIn K mainGlobals "range" = some none)
    (z_max : PySem.W.nsIn K mainGlobals "max" = some none)
    (z_min : PySem.W.nsIn K mainGlobals "min" = some none)
    (z_abs : PySem.W.nsIn K mainGlobals "abs" = some none)
    (z_repr : PySem.W.nsIn K mainGlobals "repr" = some none)
    (z_zip : PySem.W.nsIn K mainGlobals "zip" = some none)
    (z_reversed : PySem.W.nsIn K mainGlobals "reversed" = some none)
    : ∃ fd : FuncData, (∀ (s : Shared) (u : Value), BindsTo s fd ⟨[u], []⟩ [("_law_script", u)]) ∧ ∀ base : Heap, K.In base → base.Ns mainGlobals mg → (∀ p ∈ [(c1, p1), (c2, p2), (c3, p3), (c4, p4)], TabB base mg p.1 p.2) → FnG P w K mg base CX0 14 fa fd ["_law_script"] (spLaw K [(p1, "reached.<locals>.<lambda>"), (p2, "least_machine.<locals>.<lambda>"), (p3, "Language.__init__.<locals>.<lambda>"), (p4, "least_text.<locals>.<lambda>")]) := by
  have e0 := hfa.symm.trans (PySem.W.mg_of X G s_law.ns)
  cases e0
  have z_isinstance := PySem.W.mg_none_of X G z_isinstance
  have z_int := PySem.W.mg_none_of X G z_int
  have z_bool := PySem.W.mg_none_of X G z_bool
  have z_list := PySem.W.mg_none_of X G z_list
  have z_tuple := PySem.W.mg_none_of X G z_tuple
  have z_len := PySem.W.mg_none_of X G z_len
  have z_all := PySem.W.mg_none_of X G z_all
  have z_any := PySem.W.mg_none_of X G z_any
  have z_set := PySem.W.mg_none_of X G z_set
  have z_str := PySem.W.mg_none_of X G z_str
  have z_dict := PySem.W.mg_none_of X G z_dict
  have z_sorted := PySem.W.mg_none_of X G z_sorted
  have z_enumerate := PySem.W.mg_none_of X G z_enumerate
  have z_divmod := PySem.W.mg_none_of X G z_divmod
  have z_range := PySem.W.mg_none_of X G z_range
  have z_max := PySem.W.mg_none_of X G z_max
  have z_min := PySem.W.mg_none_of X G z_min
  have z_abs := PySem.W.mg_none_of X G z_abs
  have z_repr := PySem.W.mg_none_of X G z_repr
  have z_zip := PySem.W.mg_none_of X G z_zip
  have z_reversed := PySem.W.mg_none_of X G z_reversed
  obtain ⟨d_expl, F_expl⟩ := s_expl.fn
  have a_expl : At K mg "explored" f_expl d_expl ["first", "leads", "is_goal"] [] := ⟨PySem.W.mg_of X G s_expl.ns, F_expl.kp, F_expl.binds (ps := ["first", "leads", "is_goal"]) fun _ _ _ _ _ _ us hl => match us, hl with | [_, _, _], _ => rfl⟩
  obtain ⟨d_reac, F_reac, hc1⟩ := s_reac.fn
  have a_reac : At K mg "reached" f_reac d_reac ["first", "leads"] [] := ⟨PySem.W.mg_of X G s_reac.ns, F_reac.kp, F_reac.binds (ps := ["first", "leads"]) fun _ _ _ _ _ _ us hl => match us, hl with | [_, _], _ => rfl⟩
  obtain ⟨d_retr, F_retr⟩ := s_retr.fn
  have a_retr : At K mg "retraced" f_retr d_retr ["before", "node"] [] := ⟨PySem.W.mg_of X G s_retr.ns, F_retr.kp, F_retr.binds (ps := ["before", "node"]) fun _ _ _ _ _ _ us hl => match us, hl with | [_, _], _ => rfl⟩
  obtain ⟨d_way, F_way⟩ := s_way.fn
  have a_way : At K mg "least_way" f_way d_way ["first", "leads", "is_goal"] [] := ⟨PySem.W.mg_of X G s_way.ns, F_way.kp, F_way.binds (ps := ["first", "leads", "is_goal"]) fun _ _ _ _ _ _ us hl => match us, hl with | [_, _, _], _ => rfl⟩
  obtain ⟨d_lead, F_lead⟩ := s_lead.fn
  have a_lead : At K mg "leading_into" f_lead d_lead ["goals", "many", "leads"] [] := ⟨PySem.W.mg_of X G s_lead.ns, F_lead.kp, F_lead.binds (ps := ["goals", "many", "leads"]) fun _ _ _ _ _ _ us hl => match us, hl with | [_, _, _], _ => rfl⟩
  obtain ⟨d_dist, F_dist⟩ := s_dist.fn
  have a_dist : At K mg "distances_to" f_dist d_dist ["goals", "graph"] [] := ⟨PySem.W.mg_of X G s_dist.ns, F_dist.kp, F_dist.binds (ps := ["goals", "graph"]) fun _ _ _ _ _ _ us hl => match us, hl with | [_, _], _ => rfl⟩
  obtain ⟨d_leas, F_leas, hc2⟩ := s_leas.fn
  have a_leas : At K mg "least_machine" f_leas d_leas ["signs", "states", "member_states", "limit"] [] := ⟨PySem.W.mg_of X G s_leas.ns, F_leas.kp, F_leas.binds (ps := ["signs", "states", "member_states", "limit"]) fun _ _ _ _ _ _ us hl => match us, hl with | [_, _, _, _], _ => rfl⟩
  obtain ⟨d_spli, F_spli⟩ := s_spli.fn
  have a_spli : At K mg "_split" f_spli d_spli ["signs", "states", "order", "blocks"] [] := ⟨PySem.W.mg_of X G s_spli.ns, F_spli.kp, F_spli.binds (ps := ["signs", "states", "order", "blocks"]) fun _ _ _ _ _ _ us hl => match us, hl with | [_, _, _, _], _ => rfl⟩
  obtain ⟨d_firs, F_firs⟩ := s_firs.fn
  have a_firs : At K mg "_firsts" f_firs d_firs ["order", "blocks"] [] := ⟨PySem.W.mg_of X G s_firs.ns, F_firs.kp, F_firs.binds (ps := ["order", "blocks"]) fun _ _ _ _ _ _ us hl => match us, hl with | [_, _], _ => rfl⟩
  obtain ⟨d_isint, F_isint⟩ := s_isint.fn
  have a_isint : At K mg "is_integer" f_isint d_isint ["value"] [] := ⟨PySem.W.mg_of X G s_isint.ns, F_isint.kp, F_isint.binds (ps := ["value"]) fun _ _ _ _ _ _ us hl => match us, hl with | [_], _ => rfl⟩
  obtain ⟨d_below, F_below⟩ := s_below.fn
  have a_below : At K mg "is_below" f_below d_below ["value", "limit"] [] := ⟨PySem.W.mg_of X G s_below.ns, F_below.kp, F_below.binds (ps := ["value", "limit"]) fun _ _ _ _ _ _ us hl => match us, hl with | [_, _], _ => rfl⟩
  obtain ⟨d_chst, F_chst⟩ := s_chst.fn
  have a_chst : At K mg "check_state" f_chst d_chst ["value", "many"] [] := ⟨PySem.W.mg_of X G s_chst.ns, F_chst.kp, F_chst.binds (ps := ["value", "many"]) fun _ _ _ _ _ _ us hl => match us, hl with | [_, _], _ => rfl⟩
  obtain ⟨d_ares, F_ares⟩ := s_ares.fn
  have a_ares : At K mg "are_states" f_ares d_ares ["value", "many"] [] := ⟨PySem.W.mg_of X G s_ares.ns, F_ares.kp, F_ares.binds (ps := ["value", "many"]) fun _ _ _ _ _ _ us hl => match us, hl with | [_, _], _ => rfl⟩
  obtain ⟨d_hasl, F_hasl⟩ := s_hasl.fn
  have a_hasl : At K mg "has_length" f_hasl d_hasl ["value", "least", "most"] [] := ⟨PySem.W.mg_of X G s_hasl.ns, F_hasl.kp, F_hasl.binds (ps := ["value", "least", "most"]) fun _ _ _ _ _ _ us hl => match us, hl with | [_, _, _], _ => rfl⟩
  obtain ⟨d_word, F_word⟩ := s_word.fn
  have a_word : At K mg "is_word" f_word d_word ["value"] [] := ⟨PySem.W.mg_of X G s_word.ns, F_word.kp, F_word.binds (ps := ["value"]) fun _ _ _ _ _ _ us hl => match us, hl with | [_], _ => rfl⟩
  obtain ⟨d_wdof, F_wdof⟩ := s_wdof.fn
  have a_wdof : At K mg "is_word_of" f_wdof d_wdof ["value", "signs"] [] := ⟨PySem.W.mg_of X G s_wdof.ns, F_wdof.kp, F_wdof.binds (ps := ["value", "signs"]) fun _ _ _ _ _ _ us hl => match us, hl with | [_, _], _ => rfl⟩
  obtain ⟨d_lasg, F_lasg⟩ := s_lasg.fn
  have a_lasg : At K mg "are_language_signs" f_lasg d_lasg ["value"] [] := ⟨PySem.W.mg_of X G s_lasg.ns, F_lasg.kp, F_lasg.binds (ps := ["value"]) fun _ _ _ _ _ _ us hl => match us, hl with | [_], _ => rfl⟩
  obtain ⟨d_chks, F_chks⟩ := s_chks.fn
  have a_chks : At K mg "_check_signs" f_chks d_chks ["value"] [] := ⟨PySem.W.mg_of X G s_chks.ns, F_chks.kp, F_chks.binds (ps := ["value"]) fun _ _ _ _ _ _ us hl => match us, hl with | [_], _ => rfl⟩
  obtain ⟨d_last, F_last⟩ := s_last.fn
  have a_last : At K mg "_is_language_state" f_last d_last ["value", "signs", "many"] [] := ⟨PySem.W.mg_of X G s_last.ns, F_last.kp, F_last.binds (ps := ["value", "signs", "many"]) fun _ _ _ _ _ _ us hl => match us, hl with | [_, _, _], _ => rfl⟩
  obtain ⟨d_llds, F_llds⟩ := s_llds.fn
  have a_llds : At K mg "_language_leads" f_llds d_llds ["language", "state"] [] := ⟨PySem.W.mg_of X G s_llds.ns, F_llds.kp, F_llds.binds (ps := ["language", "state"]) fun _ _ _ _ _ _ us hl => match us, hl with | [_, _], _ => rfl⟩
  obtain ⟨d_ltxt, F_ltxt, hc4⟩ := s_ltxt.fn
  have a_ltxt : At K mg "least_text" f_ltxt d_ltxt ["language"] [] := ⟨PySem.W.mg_of X G s_ltxt.ns, F_ltxt.kp, F_ltxt.binds (ps := ["language"]) fun _ _ _ _ _ _ us hl => match us, hl with | [_], _ => rfl⟩
  obtain ⟨d_lvld, F_lvld⟩ := s_lvld.fn
  have a_lvld : At K mg "live_leads" f_lvld d_lvld ["language", "state"] [] := ⟨PySem.W.mg_of X G s_lvld.ns, F_lvld.kp, F_lvld.binds (ps := ["language", "state"]) fun _ _ _ _ _ _ us hl => match us, hl with | [_, _], _ => rfl⟩
  obtain ⟨d_lngr, F_lngr⟩ := s_lngr.fn
  have a_lngr : At K mg "_longer" f_lngr d_lngr ["language", "level"] [] := ⟨PySem.W.mg_of X G s_lngr.ns, F_lngr.kp, F_lngr.binds (ps := ["language", "level"]) fun _ _ _ _ _ _ us hl => match us, hl with | [_, _], _ => rfl⟩
  obtain ⟨d_mems, F_mems⟩ := s_mems.fn
  have a_mems : At K mg "members" f_mems d_mems ["language", "most"] [] := ⟨PySem.W.mg_of X G s_mems.ns, F_mems.kp, F_mems.binds (ps := ["language", "most"]) fun _ _ _ _ _ _ us hl => match us, hl with | [_, _], _ => rfl⟩
  obtain ⟨d_rng, F_rng⟩ := s_rng.fn
  have a_rng : At K mg "_law_rng" f_rng d_rng ["_law_script", "_law_k"] [] := ⟨PySem.W.mg_of X G s_rng.ns, F_rng.kp, F_rng.binds (ps := ["_law_script", "_law_k"]) fun _ _ _ _ _ _ us hl => match us, hl with | [_, _], _ => rfl⟩
  obtain ⟨d_draw, F_draw⟩ := s_draw.fn
  have a_draw : At K mg "_law_draw" f_draw d_draw ["_law_rng_here", "_law_many"] [] := ⟨PySem.W.mg_of X G s_draw.ns, F_draw.kp, F_draw.binds (ps := ["_law_rng_here", "_law_many"]) fun _ _ _ _ _ _ us hl => match us, hl with | [_, _], _ => rfl⟩
  obtain ⟨d_lett, F_lett⟩ := s_lett.fn
  have a_lett : At K mg "_law_letters" f_lett d_lett ["_law_rng_here", "_law_many"] [] := ⟨PySem.W.mg_of X G s_lett.ns, F_lett.kp, F_lett.binds (ps := ["_law_rng_here", "_law_many"]) fun _ _ _ _ _ _ us hl => match us, hl with | [_, _], _ => rfl⟩
  obtain ⟨d_clas, F_clas⟩ := s_clas.fn
  have a_clas : At K mg "_law_class" f_clas d_clas ["_law_rng_here", "_law_cap", "_law_abc"] [] := ⟨PySem.W.mg_of X G s_clas.ns, F_clas.kp, F_clas.binds (ps := ["_law_rng_here", "_law_cap", "_law_abc"]) fun _ _ _ _ _ _ us hl => match us, hl with | [_, _, _], _ => rfl⟩
  obtain ⟨d_belo, F_belo⟩ := s_belo.fn
  have a_belo : At K mg "_law_belongs" f_belo d_belo ["_law_machine", "_law_note"] [] := ⟨PySem.W.mg_of X G s_belo.ns, F_belo.kp, F_belo.binds (ps := ["_law_machine", "_law_note"]) fun _ _ _ _ _ _ us hl => match us, hl with | [_, _], _ => rfl⟩
  obtain ⟨d_lvlw, F_lvlw⟩ := s_lvlw.fn
  have a_lvlw : At K mg "_law_live" f_lvlw d_lvlw ["_law_machine"] [] := ⟨PySem.W.mg_of X G s_lvlw.ns, F_lvlw.kp, F_lvlw.binds (ps := ["_law_machine"]) fun _ _ _ _ _ _ us hl => match us, hl with | [_], _ => rfl⟩
  obtain ⟨d_text, F_text⟩ := s_text.fn
  have a_text : At K mg "_law_texts" f_text d_text ["_law_abc", "_law_cap"] [] := ⟨PySem.W.mg_of X G s_text.ns, F_text.kp, F_text.binds (ps := ["_law_abc", "_law_cap"]) fun _ _ _ _ _ _ us hl => match us, hl with | [_, _], _ => rfl⟩
  obtain ⟨d_dbl, F_dbl⟩ := s_dbl.fn
  have a_dbl : At K mg "_law_doubled" f_dbl d_dbl ["_law_rng_here", "_law_machine"] [] := ⟨PySem.W.mg_of X G s_dbl.ns, F_dbl.kp, F_dbl.binds (ps := ["_law_rng_here", "_law_machine"]) fun _ _ _ _ _ _ us hl => match us, hl with | [_, _], _ => rfl⟩
  obtain ⟨d_spot, F_spot⟩ := s_spot.fn
  have a_spot : At K mg "_law_spot" f_spot d_spot ["_law_machine", "_law_note"] [] := ⟨PySem.W.mg_of X G s_spot.ns, F_spot.kp, F_spot.binds (ps := ["_law_machine", "_law_note"]) fun _ _ _ _ _ _ us hl => match us, hl with | [_, _], _ => rfl⟩
  obtain ⟨d_stat, F_stat⟩ := s_stat.fn
  have a_stat : At K mg "_law_state" f_stat d_stat ["_law_made", "_law_note"] [] := ⟨PySem.W.mg_of X G s_stat.ns, F_stat.kp, F_stat.binds (ps := ["_law_made", "_law_note"]) fun _ _ _ _ _ _ us hl => match us, hl with | [_, _], _ => rfl⟩
  obtain ⟨d_walk, F_walk⟩ := s_walk.fn
  have a_walk : At K mg "_law_walks_right" f_walk d_walk ["_law_made", "_law_machine", "_law_notes"] [] := ⟨PySem.W.mg_of X G s_walk.ns, F_walk.kp, F_walk.binds (ps := ["_law_made", "_law_machine", "_law_notes"]) fun _ _ _ _ _ _ us hl => match us, hl with | [_, _, _], _ => rfl⟩
  obtain ⟨d_apar, F_apar⟩ := s_apar.fn
  have a_apar : At K mg "_law_apart" f_apar d_apar ["_law_made", "_law_abc"] [] := ⟨PySem.W.mg_of X G s_apar.ns, F_apar.kp, F_apar.binds (ps := ["_law_made", "_law_abc"]) fun _ _ _ _ _ _ us hl => match us, hl with | [_, _], _ => rfl⟩
  obtain ⟨d_memr, F_memr⟩ := s_memr.fn
  have a_memr : At K mg "_law_members_right" f_memr d_memr ["_law_made", "_law_machine", "_law_notes"] [] := ⟨PySem.W.mg_of X G s_memr.ns, F_memr.kp, F_memr.binds (ps := ["_law_made", "_law_machine", "_law_notes"]) fun _ _ _ _ _ _ us hl => match us, hl with | [_, _, _], _ => rfl⟩
  obtain ⟨d_valr, F_valr⟩ := s_valr.fn
  have a_valr : At K mg "_law_values_right" f_valr d_valr ["_law_made", "_law_abc"] [] := ⟨PySem.W.mg_of X G s_valr.ns, F_valr.kp, F_valr.binds (ps := ["_law_made", "_law_abc"]) fun _ _ _ _ _ _ us hl => match us, hl with | [_, _], _ => rfl⟩
  obtain ⟨d_rght, F_rght⟩ := s_rght.fn
  have a_rght : At K mg "_law_right" f_rght d_rght ["_law_rng_here"] [] := ⟨PySem.W.mg_of X G s_rght.ns, F_rght.kp, F_rght.binds (ps := ["_law_rng_here"]) fun _ _ _ _ _ _ us hl => match us, hl with | [_], _ => rfl⟩
  obtain ⟨d_law, F_law⟩ := s_law.fn
  obtain ⟨d_len, F_len⟩ := s_len.fn
  have b_len : L2.Binds K d_len ["self"] [] := F_len.binds (ps := ["self"]) fun _ _ _ _ _ _ us hl => match us, hl with | [_], _ => rfl
  obtain ⟨d_mv, F_mv⟩ := s_mv.fn
  have b_mv : L2.Binds K d_mv ["self", "state", "sign"] [] := F_mv.binds (ps := ["self", "state", "sign"]) fun _ _ _ _ _ _ us hl => match us, hl with | [_, _, _], _ => rfl
  obtain ⟨d_mb, F_mb⟩ := s_mb.fn
  have b_mb : L2.Binds K d_mb ["self", "state"] [] := F_mb.binds (ps := ["self", "state"]) fun _ _ _ _ _ _ us hl => match us, hl with | [_, _], _ => rfl
  obtain ⟨d_lv, F_lv⟩ := s_lv.fn
  have b_lv : L2.Binds K d_lv ["self", "state"] [] := F_lv.binds (ps := ["self", "state"]) fun _ _ _ _ _ _ us hl => match us, hl with | [_, _], _ => rfl
  obtain ⟨d_has, F_has⟩ := s_has.fn
  have b_has : L2.Binds K d_has ["self", "value"] [] := F_has.binds (ps := ["self", "value"]) fun _ _ _ _ _ _ us hl => match us, hl with | [_, _], _ => rfl
  obtain ⟨d_eq, F_eq⟩ := s_eq.fn
  have b_eq : L2.Binds K d_eq ["self", "other"] [] := F_eq.binds (ps := ["self", "other"]) fun _ _ _ _ _ _ us hl => match us, hl with | [_, _], _ => rfl
  obtain ⟨d_rep, F_rep⟩ := s_rep.fn
  have b_rep : L2.Binds K d_rep ["self"] [] := F_rep.binds (ps := ["self"]) fun _ _ _ _ _ _ us hl => match us, hl with | [_], _ => rfl
  obtain ⟨d_sgs, F_sgs⟩ := s_sgs.fn
  have b_sgs : L2.Binds K d_sgs ["self"] [] := F_sgs.binds (ps := ["self"]) fun _ _ _ _ _ _ us hl => match us, hl with | [_], _ => rfl
  obtain ⟨d_emp, F_emp⟩ := s_emp.fn
  have b_emp : L2.Binds K d_emp ["self"] [] := F_emp.binds (ps := ["self"]) fun _ _ _ _ _ _ us hl => match us, hl with | [_], _ => rfl
  obtain ⟨d_init, F_init, hc3⟩ := rd.ini
  have b_init : L2.Binds K d_init ["self", "signs", "states", "member_states"] [] := F_init.binds (ps := ["self", "signs", "states", "member_states"]) fun _ _ _ _ _ _ us hl => match us, hl with | [_, _, _, _], _ => rfl
  have q4 := PySem.W.mg_of X G k4
  have q40 := PySem.W.mg_of X G k40
  have q8 := PySem.W.mg_of X G k8
  have gC := PySem.W.mg_of X G rd.ns
  have eC : EqC K C f_eq d_eq := ⟨s_eq.m.at_, s_eq.m.fn, b_eq, ne, hm, by unfold PySem.W.notFirst; simp⟩
  have cr : ClX.CRead K C (.type "type") := ⟨r1, r2⟩
  have cv : ClX.CVal K C (.type "type") "MAX_STATES" (.int 6) u6 := ⟨r3, rd.con.rel⟩
  refine ⟨d_law, fun s v => ?_, fun base KB _ TB => ?_⟩
  · obtain ⟨oc, od, kV, doc, pm, an, cdv, ct, osl, e, _⟩ := F_law.ex
    subst e
    exact .of_eq rfl
  · have nd : (([(p1, "reached.<locals>.<lambda>"), (p2, "least_machine.<locals>.<lambda>"), (p3, "Language.__init__.<locals>.<lambda>"), (p4, "least_text.<locals>.<lambda>")] : List (Addr × Str)).map (·.1)).Nodup := pd
    have TB1 : TabB base mg c1 p1 := TB (c1, p1) (by simp)
    have TB2 : TabB base mg c2 p2 := TB (c2, p2) (by simp)
    have TB3 : TabB base mg c3 p3 := TB (c3, p3) (by simp)
    have TB4 : TabB base mg c4 p4 := TB (c4, p4) (by simp)
    have m1 : ((p1, "reached.<locals>.<lambda>") : Addr × Str) ∈ ([(p1, "reached.<locals>.<lambda>"), (p2, "least_machine.<locals>.<lambda>"), (p3, "Language.__init__.<locals>.<lambda>"), (p4, "least_text.<locals>.<lambda>")] : List (Addr × Str)) := .head _
    have m2 : ((p2, "least_machine.<locals>.<lambda>") : Addr × Str) ∈ ([(p1, "reached.<locals>.<lambda>"), (p2, "least_machine.<locals>.<lambda>"), (p3, "Language.__init__.<locals>.<lambda>"), (p4, "least_text.<locals>.<lambda>")] : List (Addr × Str)) := .tail _ (.head _)
    have m3 : ((p3, "Language.__init__.<locals>.<lambda>") : Addr × Str) ∈ ([(p1, "reached.<locals>.<lambda>"), (p2, "least_machine.<locals>.<lambda>"), (p3, "Language.__init__.<locals>.<lambda>"), (p4, "least_text.<locals>.<lambda>")] : List (Addr × Str)) := .tail _ (.tail _ (.head _))
    have m4 : ((p4, "least_text.<locals>.<lambda>") : Addr × Str) ∈ ([(p1, "reached.<locals>.<lambda>"), (p2, "least_machine.<locals>.<lambda>"), (p3, "Language.__init__.<locals>.<lambda>"), (p4, "least_text.<locals>.<lambda>")] : List (Addr × Str)) := .tail _ (.tail _ (.tail _ (.head _)))
    have L1 : Lams base mg [(p1, "reached.<locals>.<lambda>"), (p2, "least_machine.<locals>.<lambda>"), (p3, "Language.__init__.<locals>.<lambda>"), (p4, "least_text.<locals>.<lambda>")] d_reac "reached.<locals>.<lambda>" := ⟨c1, p1, hc1, TB1, m1, tab_uniq nd m1⟩
    have L2' : Lams base mg [(p1, "reached.<locals>.<lambda>"), (p2, "least_machine.<locals>.<lambda>"), (p3, "Language.__init__.<locals>.<lambda>"), (p4, "least_text.<locals>.<lambda>")] d_leas "least_machine.<locals>.<lambda>" := ⟨c2, p2, hc2, TB2, m2, tab_uniq nd m2⟩
    have L3 : Lams base mg [(p1, "reached.<locals>.<lambda>"), (p2, "least_machine.<locals>.<lambda>"), (p3, "Language.__init__.<locals>.<lambda>"), (p4, "least_text.<locals>.<lambda>")] d_init "Language.__init__.<locals>.<lambda>" := ⟨c3, p3, hc3, TB3, m3, tab_uniq nd m3⟩
    have L4 : Lams base mg [(p1, "reached.<locals>.<lambda>"), (p2, "least_machine.<locals>.<lambda>"), (p3, "Language.__init__.<locals>.<lambda>"), (p4, "least_text.<locals>.<lambda>")] d_ltxt "least_text.<locals>.<lambda>" := ⟨c4, p4, hc4, TB4, m4, tab_uniq nd m4⟩
    clear nd m1 m2 m3 m4
    generalize ([(p1, "reached.<locals>.<lambda>"), (p2, "least_machine.<locals>.<lambda>"), (p3, "Language.__init__.<locals>.<lambda>"), (p4, "least_text.<locals>.<lambda>")] : List (Addr × Str)) = T at L1 L2' L3 L4 ⊢
    have G_expl : FnV P w K mg base CX0 3 f_expl d_expl ["first", "leads", "is_goal"] (spExplored P w K mg base 2) := ok_explored F_expl z_len
    have G_expI : FnV P w K mg base CX0 7 f_expl d_expl ["first", "leads", "is_goal"] (spExploredI P w K mg base 6) := ok_exploredI F_expl z_len
    have G_retr : FnOk P w K mg base CX0 1 f_retr d_retr ["before", "node"] spRetrI := ok_retrI F_retr z_list z_reversed
    have G_way : FnV P w K mg base CX0 8 f_way d_way ["first", "leads", "is_goal"] (spWayI P w K mg base 6) := ok_wayI (k := 5) F_way a_expl G_expI a_retr G_retr
    have G_reac : FnV P w K mg base CX0 4 f_reac d_reac ["first", "leads"] (spReached P w K mg base T 2) := ok_reached F_reac L1 a_expl G_expl z_list
    have G_dist : ∀ b, FnOk P w K mg b CX0 1 f_dist d_dist ["goals", "graph"] (spDist K) := fun b => ok_dist F_dist z_len z_list
    have G_lead : FnV P w K mg base CX0 2 f_lead d_lead ["goals", "many", "leads"] (spLeading P w K mg 1 base) := ok_leading F_lead a_dist G_dist z_range z_sorted
    have G_spli : FnOk P w K mg base CX0 1 f_spli d_spli ["signs", "states", "order", "blocks"] (spSplit P w K) := ok_split F_spli z_len z_tuple
    have G_firs : FnOk P w K mg base CX0 1 f_firs d_firs ["order", "blocks"] spFirsts := ok_firsts F_firs z_len
    have G_leas := ok_least F_leas L2' a_reac G_reac a_spli G_spli a_firs G_firs z_enumerate
    have G_isint : FnOk P w K mg base CX0 1 f_isint d_isint ["value"] (spIsInt K) := ok_isint F_isint z_isinstance z_int z_bool
    have G_below := ok_below (base := base) F_below a_isint G_isint
    have G_hasl : FnOk P w K mg base CX0 1 f_hasl d_hasl ["value", "least", "most"] (spHasLenK K) := ok_haslenK F_hasl z_isinstance z_list z_tuple z_len
    have G_ares := ok_arestatesK F_ares a_below G_below z_isinstance z_list z_tuple z_len z_all z_set
    have G_word : FnOk P w K mg base CX0 1 f_word d_word ["value"] (spIsWord K) := ok_isword F_word z_isinstance z_str z_all
    have G_wdof := ok_wordof F_wdof a_word G_word z_all
    have sys : ∃ o, base.get? sysModules = some o := by
      obtain ⟨o, e⟩ := sys0
      exact ⟨o, KB _ _ e⟩
    have G_lasg := ok_langsg F_lasg a_word G_word z_len q4 z_list z_set z_sorted
    have G_chks := ok_chksg F_chks a_lasg G_lasg
    have G_last := ok_langst F_last a_below G_below z_isinstance z_dict z_len z_all
    have G_init := ok_linit F_init L3 rd.lg a_chks G_chks a_hasl G_hasl a_last G_last a_ares G_ares a_leas G_leas a_lead G_lead rd.con q40 z_len z_enumerate z_tuple z_list
    have G_chst := ok_checkstate F_chst a_below G_below
    have G_len : FnOk P w K mg base CX0 1 f_len d_len ["self"] (spLenL C) := ok_lenL F_len rd.lg z_len
    have G_mv := ok_moveL F_mv rd.lg a_chst G_chst z_len
    have G_mb := ok_member F_mb rd.lg a_chst G_chst z_len
    have G_lv := ok_islive F_lv rd.lg a_chst G_chst z_len
    have G_has := ok_hasL F_has rd.lg a_wdof G_wdof
    have G_eq : FnOk P w K mg base CX0 1 f_eq d_eq ["self", "other"] (spEqH K C) := ok_eqH F_eq rd.lg rd.isc gC kT z_isinstance
    have G_rep : FnG P w K mg base CX0 1 f_rep d_rep ["self"] (spReprL C) := ok_reprL F_rep rd.lg sys
    have G_sgs : FnOk P w K mg base CX0 1 f_sgs d_sgs ["self"] (spSigns C) := ok_signs F_sgs rd.lg
    have G_emp : FnOk P w K mg base CX0 1 f_emp d_emp ["self"] (spEmpty C) := ok_empty F_emp rd.lg
    have G_llds := ok_lleads F_llds rd.lg s_sgs.m b_sgs G_sgs s_mv.m b_mv G_mv
    have G_ltxt := ok_leastT F_ltxt L4 rd.lg a_llds G_llds s_mb.m b_mb G_mb a_way G_way
    have G_lvld := ok_liveld F_lvld rd.lg a_llds G_llds s_lv.m b_lv G_lv
    have G_lngr := ok_longer F_lngr a_lvld G_lvld
    have G_mems := ok_members F_mems rd.lg a_below G_below q8 z_range a_lngr G_lngr s_mb.m b_mb G_mb
    have G_rng : FnOk P w K mg base CX0 1 f_rng d_rng ["_law_script", "_law_k"] (spRng K) := ok_rng F_rng z_len z_max z_abs z_int
    have G_draw : FnOk P w K mg base CX0 1 f_draw d_draw ["_law_rng_here", "_law_many"] spDraw := ok_draw F_draw z_divmod z_int
    have G_lett := ok_letters F_lett a_draw G_draw z_len z_list z_range
    have G_clas := ok_class F_clas a_draw G_draw z_dict z_range
    have G_belo : FnOk P w K mg base CX0 1 f_belo d_belo ["_law_machine", "_law_note"] spBelongs := ok_belongs F_belo
    have G_lvlw : FnOk P w K mg base CX0 1 f_lvlw d_lvlw ["_law_machine"] spLiveLaw := ok_livelaw F_lvlw z_list z_range z_len z_enumerate z_any
    have G_text : FnOk P w K mg base CX0 1 f_text d_text ["_law_abc", "_law_cap"] spTexts := ok_texts F_text z_range
    have G_dbl := ok_dbl F_dbl a_draw G_draw z_len z_list z_range z_dict z_zip z_enumerate
    have G_spot : FnOk P w K mg base CX0 1 f_spot d_spot ["_law_machine", "_law_note"] spSpot := ok_spot F_spot
    have G_stat := ok_stateL F_stat rd.lg s_mv.m b_mv G_mv
    have G_walk := ok_walksR F_walk rd.lg s_len.m b_len G_len s_mb.m b_mb G_mb s_lv.m b_lv G_lv s_has.m b_has G_has a_lvlw G_lvlw a_stat G_stat a_spot G_spot z_repr z_len z_list z_range
    have G_apar := ok_apart F_apar rd.lg gC s_len.m b_len G_len s_mb.m b_mb G_mb s_mv.m b_mv G_mv a_text G_text cr cv z_repr z_len z_range z_set
    have G_memr := ok_memR F_memr rd.lg a_belo G_belo a_mems G_mems (kb_mems F_mems) a_ltxt G_ltxt s_emp.m b_emp G_emp z_repr z_len z_range z_list
    have G_valr := ok_valsR F_valr rd.lg s_len.m b_len G_len s_mv.m b_mv G_mv s_has.m b_has G_has s_sgs.m b_sgs G_sgs z_any z_all z_len z_range
    have G_rght := ok_right F_rght a_draw G_draw a_lett G_lett a_clas G_clas a_dbl G_dbl a_text G_text a_walk G_walk a_apar G_apar a_memr G_memr a_valr G_valr rd.isc eC fT G_eq s_rep.m b_rep G_rep gC rd.mak G_init b_init z_repr z_sorted z_len z_dict z_tuple z_list
    exact ok_law F_law a_rght G_rght a_rng G_rng z_all z_range z_max z_min z_len
end Sl
/-! ## E2 -/
set_option Elab.async false
open PySem PySem.W PyProof.Rows
set_option pp.maxSteps 60
set_option pp.deepTerms false
set_option maxRecDepth 100000 in
set_option maxHeartbeats 0 in
theorem PySem.Challenge.cw_sealedslots_k28_whole_states_by_all_text_holds : PySem.Challenge.rw_sealedslots_k28_whole_states_by_all_text.Holds := by
  w_on; o_law; x_head; (case hw => w_witness2)
  k_fill
  refine' Sl.walk_ofL (l := PySem.Challenge.rw_sealedslots_k28_whole_states_by_all_text) (n := 63) (k := 14) (x := "_law_script") (cs := [(_, _), (_, _), (_, _), (_, _)]) (sp := fun K => Sl.spLaw K [(_, "reached.<locals>.<lambda>"), (_, "least_machine.<locals>.<lambda>"), (_, "Language.__init__.<locals>.<lambda>"), (_, "least_text.<locals>.<lambda>")]) rfl (by decide) rfl ⟨rfl, by decide, by decide⟩ (fun w h Y => PySem.W.kIn_of Y) ?F (fun _ _ a ns hl hT hS => ⟨a, ns, rfl, hS, hl, (fun q hq => by
    simp only [List.mem_cons, List.not_mem_nil, or_false] at hq
    rcases hq with rfl | rfl | rfl | rfl
    · exact LamX.TabS.nil (hT _ (.head _))
    · exact LamX.TabS.nil (hT _ (.tail _ (.head _)))
    · exact LamX.TabS.nil (hT _ (.tail _ (.tail _ (.head _))))
    · exact LamX.TabS.nil (hT _ (.tail _ (.tail _ (.tail _ (.head _)))))), fun _ => rfl⟩)
  case F =>
    intro w mg fa h K1 hK KX G hmg
    refine' Sl.pin4 hK ?nC ?n1 ?l1 ?e1 ?lc1 ?v1 ?n2 ?l2 ?e2 ?lc2 ?v2 ?n3 ?l3 ?e3 ?lc3 ?v3 ?n4 ?l4 ?e4 ?lc4 ?v4 ?_
    (case nC => k_is)
    (case n1 => k_is)
    (case l1 => k_is)
    (case e1 => exact rfl)
    (case lc1 => k_is)
    (case v1 => exact rfl)
    (case n2 => k_is)
    (case l2 => k_is)
    (case e2 => exact rfl)
    (case lc2 => k_is)
    (case v2 => exact rfl)
    (case n3 => k_is)
    (case l3 => k_is)
    (case e3 => exact rfl)
    (case lc3 => k_is)
    (case v3 => exact rfl)
    (case n4 => k_is)
    (case l4 => k_is)
    (case e4 => exact rfl)
    (case lc4 => k_is)
    (case v4 => exact rfl)
    refine' Sl.all4 ?l1 ?l2 ?l3 ?l4 ?h1 ?h2 ?h3 ?h4 ?_
    (case l1 => kernel_rfl)
    (case l2 => kernel_rfl)
    (case l3 => kernel_rfl)
    (case l4 => kernel_rfl)
    (case h1 => kernel_rfl)
    (case h2 => kernel_rfl)
    (case h3 => kernel_rfl)
    (case h4 => kernel_rfl)
    refine' Sl.all_mk (P := PySem.Challenge.pw_sealedslots_k28_whole_states_by_all_text) KX G hmg ?s_expl ?s_reac ?s_retr ?s_way ?s_lead ?s_dist ?s_leas ?s_spli ?s_firs ?s_isint ?s_below ?s_chst ?s_ares ?s_hasl ?s_word ?s_wdof ?s_lasg ?s_chks ?s_last ?s_llds ?s_ltxt ?s_lvld ?s_lngr ?s_mems ?s_rng ?s_draw ?s_lett ?s_clas ?s_belo ?s_lvlw ?s_text ?s_dbl ?s_spot ?s_stat ?s_walk ?s_apar ?s_memr ?s_valr ?s_rght ?s_law ?rd ?s_len ?s_mv ?s_mb ?s_lv ?s_has ?s_eq ?s_rep ?s_sgs ?s_emp ?k4 ?k40 ?k8 ?kT ?fT ?ne ?hm ?r1 ?r2 ?r3 ?sys0 ?pd ?z_isinstance ?z_int ?z_bool ?z_list ?z_tuple ?z_len ?z_all ?z_any ?z_set ?z_str ?z_dict ?z_sorted ?z_enumerate ?z_divmod ?z_range ?z_max ?z_min ?z_abs ?z_repr ?z_zip ?z_reversed
    (case s_expl => refine' Sl.std_of ?n ?l ?c ?k; (case n => refine' Sl.sm_nsIn hK ?zy ?zz; (case zy => k_is); (case zz => kernel_rfl)); (case l => refine' Sl.sm_lookup hK ?zy ?zz; (case zy => k_is); (case zz => kernel_rfl)); (case c => refine' Sl.sm_codeIn hK ?zy ?zz; (case zy => k_is); (case zz => kernel_rfl)); (case k => refine' Sl.sm_keepIn hK ?zy ?zz; (case zy => k_is); (case zz => kernel_rfl)))
    (case s_reac => refine' Sl.stdt_of ?n ?l ?co ?k; (case n => refine' Sl.sm_nsIn hK ?zy ?zz; (case zy => k_is); (case zz => kernel_rfl)); (case l => refine' Sl.sm_lookup hK ?zy ?zz; (case zy => k_is); (case zz => kernel_rfl)); (case co => refine' Sl.sm_codeIn hK ?zy ?zz; (case zy => k_is); (case zz => kernel_rfl)); (case k => refine' Sl.sm_keepIn hK ?zy ?zz; (case zy => k_is); (case zz => kernel_rfl)))
    (case s_retr => refine' Sl.std_of ?n ?l ?c ?k; (case n => refine' Sl.sm_nsIn hK ?zy ?zz; (case zy => k_is); (case zz => kernel_rfl)); (case l => refine' Sl.sm_lookup hK ?zy ?zz; (case zy => k_is); (case zz => kernel_rfl)); (case c => refine' Sl.sm_codeIn hK ?zy ?zz; (case zy => k_is); (case zz => kernel_rfl)); (case k => refine' Sl.sm_keepIn hK ?zy ?zz; (case zy => k_is); (case zz => kernel_rfl)))
    (case s_way => refine' Sl.std_of ?n ?l ?c ?k; (case n => refine' Sl.sm_nsIn hK ?zy ?zz; (case zy => k_is); (case zz => kernel_rfl)); (case l => refine' Sl.sm_lookup hK ?zy ?zz; (case zy => k_is); (case zz => kernel_rfl)); (case c => refine' Sl.sm_codeIn hK ?zy ?zz; (case zy => k_is); (case zz => kernel_rfl)); (case k => refine' Sl.sm_keepIn hK ?zy ?zz; (case zy => k_is); (case zz => kernel_rfl)))
    (case s_lead => refine' Sl.std_of ?n ?l ?c ?k; (case n => refine' Sl.sm_nsIn hK ?zy ?zz; (case zy => k_is); (case zz => kernel_rfl)); (case l => refine' Sl.sm_lookup hK ?zy ?zz; (case zy => k_is); (case zz => kernel_rfl)); (case c => refine' Sl.sm_codeIn hK ?zy ?zz; (case zy => k_is); (case zz => kernel_rfl)); (case k => refine' Sl.sm_keepIn hK ?zy ?zz; (case zy => k_is); (case zz => kernel_rfl)))
    (case s_dist => refine' Sl.std_of ?n ?l ?c ?k; (case n => refine' Sl.sm_nsIn hK ?zy ?zz; (case zy => k_is); (case zz => kernel_rfl)); (case l => refine' Sl.sm_lookup hK ?zy ?zz; (case zy => k_is); (case zz => kernel_rfl)); (case c => refine' Sl.sm_codeIn hK ?zy ?zz; (case zy => k_is); (case zz => kernel_rfl)); (case k => refine' Sl.sm_keepIn hK ?zy ?zz; (case zy => k_is); (case zz => kernel_rfl)))
    (case s_leas => refine' Sl.stdt_of ?n ?l ?co ?k; (case n => refine' Sl.sm_nsIn hK ?zy ?zz; (case zy => k_is); (case zz => kernel_rfl)); (case l => refine' Sl.sm_lookup hK ?zy ?zz; (case zy => k_is); (case zz => kernel_rfl)); (case co => refine' Sl.sm_codeIn hK ?zy ?zz; (case zy => k_is); (case zz => kernel_rfl)); (case k => refine' Sl.sm_keepIn hK ?zy ?zz; (case zy => k_is); (case zz => kernel_rfl)))
    (case s_spli => refine' Sl.std_of ?n ?l ?c ?k; (case n => refine' Sl.sm_nsIn hK ?zy ?zz; (case zy => k_is); (case zz => kernel_rfl)); (case l => refine' Sl.sm_lookup hK ?zy ?zz; (case zy => k_is); (case zz => kernel_rfl)); (case c => refine' Sl.sm_codeIn hK ?zy ?zz; (case zy => k_is); (case zz => kernel_rfl)); (case k => refine' Sl.sm_keepIn hK ?zy ?zz; (case zy => k_is); (case zz => kernel_rfl)))
    (case s_firs => refine' Sl.std_of ?n ?l ?c ?k; (case n => refine' Sl.sm_nsIn hK ?zy ?zz; (case zy => k_is); (case zz => kernel_rfl)); (case l => refine' Sl.sm_lookup hK ?zy ?zz; (case zy => k_is); (case zz => kernel_rfl)); (case c => refine' Sl.sm_codeIn hK ?zy ?zz; (case zy => k_is); (case zz => kernel_rfl)); (case k => refine' Sl.sm_keepIn hK ?zy ?zz; (case zy => k_is); (case zz => kernel_rfl)))
    (case s_isint => refine' Sl.std_of ?n ?l ?c ?k; (case n => refine' Sl.sm_nsIn hK ?zy ?zz; (case zy => k_is); (case zz => kernel_rfl)); (case l => refine' Sl.sm_lookup hK ?zy ?zz; (case zy => k_is); (case zz => kernel_rfl)); (case c => refine' Sl.sm_codeIn hK ?zy ?zz; (case zy => k_is); (case zz => kernel_rfl)); (case k => refine' Sl.sm_keepIn hK ?zy ?zz; (case zy => k_is); (case zz => kernel_rfl)))
    (case s_below => refine' Sl.std_of ?n ?l ?c ?k; (case n => refine' Sl.sm_nsIn hK ?zy ?zz; (case zy => k_is); (case zz => kernel_rfl)); (case l => refine' Sl.sm_lookup hK ?zy ?zz; (case zy => k_is); (case zz => kernel_rfl)); (case c => refine' Sl.sm_codeIn hK ?zy ?zz; (case zy => k_is); (case zz => kernel_rfl)); (case k => refine' Sl.sm_keepIn hK ?zy ?zz; (case zy => k_is); (case zz => kernel_rfl)))
    (case s_chst => refine' Sl.std_of ?n ?l ?c ?k; (case n => refine' Sl.sm_nsIn hK ?zy ?zz; (case zy => k_is); (case zz => kernel_rfl)); (case l => refine' Sl.sm_lookup hK ?zy ?zz; (case zy => k_is); (case zz => kernel_rfl)); (case c => refine' Sl.sm_codeIn hK ?zy ?zz; (case zy => k_is); (case zz => kernel_rfl)); (case k => refine' Sl.sm_keepIn hK ?zy ?zz; (case zy => k_is); (case zz => kernel_rfl)))
    (case s_ares => refine' Sl.std_of ?n ?l ?c ?k; (case n => refine' Sl.sm_nsIn hK ?zy ?zz; (case zy => k_is); (case zz => kernel_rfl)); (case l => refine' Sl.sm_lookup hK ?zy ?zz; (case zy => k_is); (case zz => kernel_rfl)); (case c => refine' Sl.sm_codeIn hK ?zy ?zz; (case zy => k_is); (case zz => kernel_rfl)); (case k => refine' Sl.sm_keepIn hK ?zy ?zz; (case zy => k_is); (case zz => kernel_rfl)))
    (case s_hasl => refine' Sl.std_of ?n ?l ?c ?k; (case n => refine' Sl.sm_nsIn hK ?zy ?zz; (case zy => k_is); (case zz => kernel_rfl)); (case l => refine' Sl.sm_lookup hK ?zy ?zz; (case zy => k_is); (case zz => kernel_rfl)); (case c => refine' Sl.sm_codeIn hK ?zy ?zz; (case zy => k_is); (case zz => kernel_rfl)); (case k => refine' Sl.sm_keepIn hK ?zy ?zz; (case zy => k_is); (case zz => kernel_rfl)))
    (case s_word => refine' Sl.std_of ?n ?l ?c ?k; (case n => refine' Sl.sm_nsIn hK ?zy ?zz; (case zy => k_is); (case zz => kernel_rfl)); (case l => refine' Sl.sm_lookup hK ?zy ?zz; (case zy => k_is); (case zz => kernel_rfl)); (case c => refine' Sl.sm_codeIn hK ?zy ?zz; (case zy => k_is); (case zz => kernel_rfl)); (case k => refine' Sl.sm_keepIn hK ?zy ?zz; (case zy => k_is); (case zz => kernel_rfl)))
    (case s_wdof => refine' Sl.std_of ?n ?l ?c ?k; (case n => refine' Sl.sm_nsIn hK ?zy ?zz; (case zy => k_is); (case zz => kernel_rfl)); (case l => refine' Sl.sm_lookup hK ?zy ?zz; (case zy => k_is); (case zz => kernel_rfl)); (case c => refine' Sl.sm_codeIn hK ?zy ?zz; (case zy => k_is); (case zz => kernel_rfl)); (case k => refine' Sl.sm_keepIn hK ?zy ?zz; (case zy => k_is); (case zz => kernel_rfl)))
    (case s_lasg => refine' Sl.std_of ?n ?l ?c ?k; (case n => refine' Sl.sm_nsIn hK ?zy ?zz; (case zy => k_is); (case zz => kernel_rfl)); (case l => refine' Sl.sm_lookup hK ?zy ?zz; (case zy => k_is); (case zz => kernel_rfl)); (case c => refine' Sl.sm_codeIn hK ?zy ?zz; (case zy => k_is); (case zz => kernel_rfl)); (case k => refine' Sl.sm_keepIn hK ?zy ?zz; (case zy => k_is); (case zz => kernel_rfl)))
    (case s_chks => refine' Sl.std_of ?n ?l ?c ?k; (case n => refine' Sl.sm_nsIn hK ?zy ?zz; (case zy => k_is); (case zz => kernel_rfl)); (case l => refine' Sl.sm_lookup hK ?zy ?zz; (case zy => k_is); (case zz => kernel_rfl)); (case c => refine' Sl.sm_codeIn hK ?zy ?zz; (case zy => k_is); (case zz => kernel_rfl)); (case k => refine' Sl.sm_keepIn hK ?zy ?zz; (case zy => k_is); (case zz => kernel_rfl)))
    (case s_last => refine' Sl.std_of ?n ?l ?c ?k; (case n => refine' Sl.sm_nsIn hK ?zy ?zz; (case zy => k_is); (case zz => kernel_rfl)); (case l => refine' Sl.sm_lookup hK ?zy ?zz; (case zy => k_is); (case zz => kernel_rfl)); (case c => refine' Sl.sm_codeIn hK ?zy ?zz; (case zy => k_is); (case zz => kernel_rfl)); (case k => refine' Sl.sm_keepIn hK ?zy ?zz; (case zy => k_is); (case zz => kernel_rfl)))
    (case s_llds => refine' Sl.std_of ?n ?l ?c ?k; (case n => refine' Sl.sm_nsIn hK ?zy ?zz; (case zy => k_is); (case zz => kernel_rfl)); (case l => refine' Sl.sm_lookup hK ?zy ?zz; (case zy => k_is); (case zz => kernel_rfl)); (case c => refine' Sl.sm_codeIn hK ?zy ?zz; (case zy => k_is); (case zz => kernel_rfl)); (case k => refine' Sl.sm_keepIn hK ?zy ?zz; (case zy => k_is); (case zz => kernel_rfl)))
    (case s_ltxt => refine' Sl.stdt_of ?n ?l ?co ?k; (case n => refine' Sl.sm_nsIn hK ?zy ?zz; (case zy => k_is); (case zz => kernel_rfl)); (case l => refine' Sl.sm_lookup hK ?zy ?zz; (case zy => k_is); (case zz => kernel_rfl)); (case co => refine' Sl.sm_codeIn hK ?zy ?zz; (case zy => k_is); (case zz => kernel_rfl)); (case k => refine' Sl.sm_keepIn hK ?zy ?zz; (case zy => k_is); (case zz => kernel_rfl)))
    (case s_lvld => refine' Sl.std_of ?n ?l ?c ?k; (case n => refine' Sl.sm_nsIn hK ?zy ?zz; (case zy => k_is); (case zz => kernel_rfl)); (case l => refine' Sl.sm_lookup hK ?zy ?zz; (case zy => k_is); (case zz => kernel_rfl)); (case c => refine' Sl.sm_codeIn hK ?zy ?zz; (case zy => k_is); (case zz => kernel_rfl)); (case k => refine' Sl.sm_keepIn hK ?zy ?zz; (case zy => k_is); (case zz => kernel_rfl)))
    (case s_lngr => refine' Sl.std_of ?n ?l ?c ?k; (case n => refine' Sl.sm_nsIn hK ?zy ?zz; (case zy => k_is); (case zz => kernel_rfl)); (case l => refine' Sl.sm_lookup hK ?zy ?zz; (case zy => k_is); (case zz => kernel_rfl)); (case c => refine' Sl.sm_codeIn hK ?zy ?zz; (case zy => k_is); (case zz => kernel_rfl)); (case k => refine' Sl.sm_keepIn hK ?zy ?zz; (case zy => k_is); (case zz => kernel_rfl)))
    (case s_mems => refine' Sl.std_of ?n ?l ?c ?k; (case n => refine' Sl.sm_nsIn hK ?zy ?zz; (case zy => k_is); (case zz => kernel_rfl)); (case l => refine' Sl.sm_lookup hK ?zy ?zz; (case zy => k_is); (case zz => kernel_rfl)); (case c => refine' Sl.sm_codeIn hK ?zy ?zz; (case zy => k_is); (case zz => kernel_rfl)); (case k => refine' Sl.sm_keepIn hK ?zy ?zz; (case zy => k_is); (case zz => kernel_rfl)))
    (case s_rng => refine' Sl.std_of ?n ?l ?c ?k; (case n => refine' Sl.sm_nsIn hK ?zy ?zz; (case zy => k_is); (case zz => kernel_rfl)); (case l => refine' Sl.sm_lookup hK ?zy ?zz; (case zy => k_is); (case zz => kernel_rfl)); (case c => refine' Sl.sm_codeIn hK ?zy ?zz; (case zy => k_is); (case zz => kernel_rfl)); (case k => refine' Sl.sm_keepIn hK ?zy ?zz; (case zy => k_is); (case zz => kernel_rfl)))
    (case s_draw => refine' Sl.std_of ?n ?l ?c ?k; (case n => refine' Sl.sm_nsIn hK ?zy ?zz; (case zy => k_is); (case zz => kernel_rfl)); (case l => refine' Sl.sm_lookup hK ?zy ?zz; (case zy => k_is); (case zz => kernel_rfl)); (case c => refine' Sl.sm_codeIn hK ?zy ?zz; (case zy => k_is); (case zz => kernel_rfl)); (case k => refine' Sl.sm_keepIn hK ?zy ?zz; (case zy => k_is); (case zz => kernel_rfl)))
    (case s_lett => refine' Sl.std_of ?n ?l ?c ?k; (case n => refine' Sl.sm_nsIn hK ?zy ?zz; (case zy => k_is); (case zz => kernel_rfl)); (case l => refine' Sl.sm_lookup hK ?zy ?zz; (case zy => k_is); (case zz => kernel_rfl)); (case c => refine' Sl.sm_codeIn hK ?zy ?zz; (case zy => k_is); (case zz => kernel_rfl)); (case k => refine' Sl.sm_keepIn hK ?zy ?zz; (case zy => k_is); (case zz => kernel_rfl)))
    (case s_clas => refine' Sl.std_of ?n ?l ?c ?k; (case n => refine' Sl.sm_nsIn hK ?zy ?zz; (case zy => k_is); (case zz => kernel_rfl)); (case l => refine' Sl.sm_lookup hK ?zy ?zz; (case zy => k_is); (case zz => kernel_rfl)); (case c => refine' Sl.sm_codeIn hK ?zy ?zz; (case zy => k_is); (case zz => kernel_rfl)); (case k => refine' Sl.sm_keepIn hK ?zy ?zz; (case zy => k_is); (case zz => kernel_rfl)))
    (case s_belo => refine' Sl.std_of ?n ?l ?c ?k; (case n => refine' Sl.sm_nsIn hK ?zy ?zz; (case zy => k_is); (case zz => kernel_rfl)); (case l => refine' Sl.sm_lookup hK ?zy ?zz; (case zy => k_is); (case zz => kernel_rfl)); (case c => refine' Sl.sm_codeIn hK ?zy ?zz; (case zy => k_is); (case zz => kernel_rfl)); (case k => refine' Sl.sm_keepIn hK ?zy ?zz; (case zy => k_is); (case zz => kernel_rfl)))
    (case s_lvlw => refine' Sl.std_of ?n ?l ?c ?k; (case n => refine' Sl.sm_nsIn hK ?zy ?zz; (case zy => k_is); (case zz => kernel_rfl)); (case l => refine' Sl.sm_lookup hK ?zy ?zz; (case zy => k_is); (case zz => kernel_rfl)); (case c => refine' Sl.sm_codeIn hK ?zy ?zz; (case zy => k_is); (case zz => kernel_rfl)); (case k => refine' Sl.sm_keepIn hK ?zy ?zz; (case zy => k_is); (case zz => kernel_rfl)))
    (case s_text => refine' Sl.std_of ?n ?l ?c ?k; (case n => refine' Sl.sm_nsIn hK ?zy ?zz; (case zy => k_is); (case zz => kernel_rfl)); (case l => refine' Sl.sm_lookup hK ?zy ?zz; (case zy => k_is); (case zz => kernel_rfl)); (case c => refine' Sl.sm_codeIn hK ?zy ?zz; (case zy => k_is); (case zz => kernel_rfl)); (case k => refine' Sl.sm_keepIn hK ?zy ?zz; (case zy => k_is); (case zz => kernel_rfl)))
    (case s_dbl => refine' Sl.std_of ?n ?l ?c ?k; (case n => refine' Sl.sm_nsIn hK ?zy ?zz; (case zy => k_is); (case zz => kernel_rfl)); (case l => refine' Sl.sm_lookup hK ?zy ?zz; (case zy => k_is); (case zz => kernel_rfl)); (case c => refine' Sl.sm_codeIn hK ?zy ?zz; (case zy => k_is); (case zz => kernel_rfl)); (case k => refine' Sl.sm_keepIn hK ?zy ?zz; (case zy => k_is); (case zz => kernel_rfl)))
    (case s_spot => refine' Sl.std_of ?n ?l ?c ?k; (case n => refine' Sl.sm_nsIn hK ?zy ?zz; (case zy => k_is); (case zz => kernel_rfl)); (case l => refine' Sl.sm_lookup hK ?zy ?zz; (case zy => k_is); (case zz => kernel_rfl)); (case c => refine' Sl.sm_codeIn hK ?zy ?zz; (case zy => k_is); (case zz => kernel_rfl)); (case k => refine' Sl.sm_keepIn hK ?zy ?zz; (case zy => k_is); (case zz => kernel_rfl)))
    (case s_stat => refine' Sl.std_of ?n ?l ?c ?k; (case n => refine' Sl.sm_nsIn hK ?zy ?zz; (case zy => k_is); (case zz => kernel_rfl)); (case l => refine' Sl.sm_lookup hK ?zy ?zz; (case zy => k_is); (case zz => kernel_rfl)); (case c => refine' Sl.sm_codeIn hK ?zy ?zz; (case zy => k_is); (case zz => kernel_rfl)); (case k => refine' Sl.sm_keepIn hK ?zy ?zz; (case zy => k_is); (case zz => kernel_rfl)))
    (case s_walk => refine' Sl.std_of ?n ?l ?c ?k; (case n => refine' Sl.sm_nsIn hK ?zy ?zz; (case zy => k_is); (case zz => kernel_rfl)); (case l => refine' Sl.sm_lookup hK ?zy ?zz; (case zy => k_is); (case zz => kernel_rfl)); (case c => refine' Sl.sm_codeIn hK ?zy ?zz; (case zy => k_is); (case zz => kernel_rfl)); (case k => refine' Sl.sm_keepIn hK ?zy ?zz; (case zy => k_is); (case zz => kernel_rfl)))
    (case s_apar => refine' Sl.std_of ?n ?l ?c ?k; (case n => refine' Sl.sm_nsIn hK ?zy ?zz; (case zy => k_is); (case zz => kernel_rfl)); (case l => refine' Sl.sm_lookup hK ?zy ?zz; (case zy => k_is); (case zz => kernel_rfl)); (case c => refine' Sl.sm_codeIn hK ?zy ?zz; (case zy => k_is); (case zz => kernel_rfl)); (case k => refine' Sl.sm_keepIn hK ?zy ?zz; (case zy => k_is); (case zz => kernel_rfl)))
    (case s_memr => refine' Sl.std_of ?n ?l ?c ?k; (case n => refine' Sl.sm_nsIn hK ?zy ?zz; (case zy => k_is); (case zz => kernel_rfl)); (case l => refine' Sl.sm_lookup hK ?zy ?zz; (case zy => k_is); (case zz => kernel_rfl)); (case c => refine' Sl.sm_codeIn hK ?zy ?zz; (case zy => k_is); (case zz => kernel_rfl)); (case k => refine' Sl.sm_keepIn hK ?zy ?zz; (case zy => k_is); (case zz => kernel_rfl)))
    (case s_valr => refine' Sl.std_of ?n ?l ?c ?k; (case n => refine' Sl.sm_nsIn hK ?zy ?zz; (case zy => k_is); (case zz => kernel_rfl)); (case l => refine' Sl.sm_lookup hK ?zy ?zz; (case zy => k_is); (case zz => kernel_rfl)); (case c => refine' Sl.sm_codeIn hK ?zy ?zz; (case zy => k_is); (case zz => kernel_rfl)); (case k => refine' Sl.sm_keepIn hK ?zy ?zz; (case zy => k_is); (case zz => kernel_rfl)))
    (case s_rght => refine' Sl.std_of ?n ?l ?c ?k; (case n => refine' Sl.sm_nsIn hK ?zy ?zz; (case zy => k_is); (case zz => kernel_rfl)); (case l => refine' Sl.sm_lookup hK ?zy ?zz; (case zy => k_is); (case zz => kernel_rfl)); (case c => refine' Sl.sm_codeIn hK ?zy ?zz; (case zy => k_is); (case zz => kernel_rfl)); (case k => refine' Sl.sm_keepIn hK ?zy ?zz; (case zy => k_is); (case zz => kernel_rfl)))
    (case s_law => refine' Sl.std_of ?n ?l ?c ?k; (case n => refine' Sl.sm_nsIn hK ?zy ?zz; (case zy => k_is); (case zz => kernel_rfl)); (case l => refine' Sl.sm_lookup hK ?zy ?zz; (case zy => k_is); (case zz => kernel_rfl)); (case c => refine' Sl.sm_codeIn hK ?zy ?zz; (case zy => k_is); (case zz => kernel_rfl)); (case k => refine' Sl.sm_keepIn hK ?zy ?zz; (case zy => k_is); (case zz => kernel_rfl)))
    (case rd => refine' Sl.lgall_of ?ns ?pg ?hd ?po ?sa ?n1 ?n2 ?n3 ?n4 ?mk ?i ?fn ?kC ?i1 ?i2 ?i3 ?i4 ?i5 ?c1 ?c2 ?l ?c ?k; (case ns => refine' Sl.sm_nsIn hK ?zy ?zz; (case zy => k_is); (case zz => kernel_rfl)); (case pg => refine' Sl.sm_plainGet hK ?zy ?zz; (case zy => k_is); (case zz => kernel_rfl)); (case hd => refine' Sl.sm_hasDictIn hK ?zy ?zz; (case zy => k_is); (case zz => kernel_rfl)); (case po => refine' Sl.sm_plainOver hK ?zy ?zz; (case zy => k_is); (case zz => kernel_rfl)); (case sa => refine' Sl.sm_findIn hK ?zy ?zz; (case zy => k_is); (case zz => kernel_rfl)); (case n1 => refine' Sl.sm_findIn hK ?zy ?zz; (case zy => k_is); (case zz => kernel_rfl)); (case n2 => refine' Sl.sm_findIn hK ?zy ?zz; (case zy => k_is); (case zz => kernel_rfl)); (case n3 => refine' Sl.sm_findIn hK ?zy ?zz; (case zy => k_is); (case zz => kernel_rfl)); (case n4 => refine' Sl.sm_findIn hK ?zy ?zz; (case zy => k_is); (case zz => kernel_rfl)); (case mk => refine' Sl.sm_makesIn hK ?zy ?zz; (case zy => k_is); (case zz => kernel_rfl)); (case i => refine' Sl.sm_findIn hK ?zy ?zz; (case zy => k_is); (case zz => kernel_rfl)); (case fn => refine' Sl.sm_isFn hK ?zy ?zz; (case zy => k_is); (case zz => kernel_rfl)); (case kC => refine' Sl.sm_keepIn hK ?zy ?zz; (case zy => k_is); (case zz => kernel_rfl)); (case i1 => refine' Sl.sm_findIn hK ?zy ?zz; (case zy => k_is); (case zz => kernel_rfl)); (case i2 => refine' Sl.sm_specialIn hK ?zy ?zz; (case zy => k_is); (case zz => kernel_rfl)); (case i3 => refine' Sl.sm_takesIn hK ?zy ?zz; (case zy => k_is); (case zz => kernel_rfl)); (case i4 => refine' Sl.sm_mroIn hK ?zy ?zz; (case zy => k_is); (case zz => kernel_rfl)); (case i5 => refine' Sl.sm_kitOne hK ?zy ?zz; (case zy => kit_is); (case zz => kernel_rfl)); (case c1 => refine' Sl.sm_findIn hK ?zy ?zz; (case zy => k_is); (case zz => kernel_rfl)); (case c2 => refine' Sl.sm_specialIn hK ?zy ?zz; (case zy => k_is); (case zz => kernel_rfl)); (case l => refine' Sl.sm_lookup hK ?zy ?zz; (case zy => k_is); (case zz => kernel_rfl)); (case c => refine' Sl.sm_codeIn hK ?zy ?zz; (case zy => k_is); (case zz => kernel_rfl)); (case k => refine' Sl.sm_keepIn hK ?zy ?zz; (case zy => k_is); (case zz => kernel_rfl)))
    (case s_len => refine' Sl.incls_of ?n ?i ?l ?c ?k; (case n => refine' Sl.sm_findIn hK ?zy ?zz; (case zy => k_is); (case zz => kernel_rfl)); (case i => refine' Sl.sm_isFn hK ?zy ?zz; (case zy => k_is); (case zz => kernel_rfl)); (case l => refine' Sl.sm_lookup hK ?zy ?zz; (case zy => k_is); (case zz => kernel_rfl)); (case c => refine' Sl.sm_codeIn hK ?zy ?zz; (case zy => k_is); (case zz => kernel_rfl)); (case k => refine' Sl.sm_keepIn hK ?zy ?zz; (case zy => k_is); (case zz => kernel_rfl)))
    (case s_mv => refine' Sl.incls_of ?n ?i ?l ?c ?k; (case n => refine' Sl.sm_findIn hK ?zy ?zz; (case zy => k_is); (case zz => kernel_rfl)); (case i => refine' Sl.sm_isFn hK ?zy ?zz; (case zy => k_is); (case zz => kernel_rfl)); (case l => refine' Sl.sm_lookup hK ?zy ?zz; (case zy => k_is); (case zz => kernel_rfl)); (case c => refine' Sl.sm_codeIn hK ?zy ?zz; (case zy => k_is); (case zz => kernel_rfl)); (case k => refine' Sl.sm_keepIn hK ?zy ?zz; (case zy => k_is); (case zz => kernel_rfl)))
    (case s_mb => refine' Sl.incls_of ?n ?i ?l ?c ?k; (case n => refine' Sl.sm_findIn hK ?zy ?zz; (case zy => k_is); (case zz => kernel_rfl)); (case i => refine' Sl.sm_isFn hK ?zy ?zz; (case zy => k_is); (case zz => kernel_rfl)); (case l => refine' Sl.sm_lookup hK ?zy ?zz; (case zy => k_is); (case zz => kernel_rfl)); (case c => refine' Sl.sm_codeIn hK ?zy ?zz; (case zy => k_is); (case zz => kernel_rfl)); (case k => refine' Sl.sm_keepIn hK ?zy ?zz; (case zy => k_is); (case zz => kernel_rfl)))
    (case s_lv => refine' Sl.incls_of ?n ?i ?l ?c ?k; (case n => refine' Sl.sm_findIn hK ?zy ?zz; (case zy => k_is); (case zz => kernel_rfl)); (case i => refine' Sl.sm_isFn hK ?zy ?zz; (case zy => k_is); (case zz => kernel_rfl)); (case l => refine' Sl.sm_lookup hK ?zy ?zz; (case zy => k_is); (case zz => kernel_rfl)); (case c => refine' Sl.sm_codeIn hK ?zy ?zz; (case zy => k_is); (case zz => kernel_rfl)); (case k => refine' Sl.sm_keepIn hK ?zy ?zz; (case zy => k_is); (case zz => kernel_rfl)))
    (case s_has => refine' Sl.incls_of ?n ?i ?l ?c ?k; (case n => refine' Sl.sm_findIn hK ?zy ?zz; (case zy => k_is); (case zz => kernel_rfl)); (case i => refine' Sl.sm_isFn hK ?zy ?zz; (case zy => k_is); (case zz => kernel_rfl)); (case l => refine' Sl.sm_lookup hK ?zy ?zz; (case zy => k_is); (case zz => kernel_rfl)); (case c => refine' Sl.sm_codeIn hK ?zy ?zz; (case zy => k_is); (case zz => kernel_rfl)); (case k => refine' Sl.sm_keepIn hK ?zy ?zz; (case zy => k_is); (case zz => kernel_rfl)))
    (case s_eq => refine' Sl.incls_of ?n ?i ?l ?c ?k; (case n => refine' Sl.sm_findIn hK ?zy ?zz; (case zy => k_is); (case zz => kernel_rfl)); (case i => refine' Sl.sm_isFn hK ?zy ?zz; (case zy => k_is); (case zz => kernel_rfl)); (case l => refine' Sl.sm_lookup hK ?zy ?zz; (case zy => k_is); (case zz => kernel_rfl)); (case c => refine' Sl.sm_codeIn hK ?zy ?zz; (case zy => k_is); (case zz => kernel_rfl)); (case k => refine' Sl.sm_keepIn hK ?zy ?zz; (case zy => k_is); (case zz => kernel_rfl)))
    (case s_rep => refine' Sl.incls_of ?n ?i ?l ?c ?k; (case n => refine' Sl.sm_findIn hK ?zy ?zz; (case zy => k_is); (case zz => kernel_rfl)); (case i => refine' Sl.sm_isFn hK ?zy ?zz; (case zy => k_is); (case zz => kernel_rfl)); (case l => refine' Sl.sm_lookup hK ?zy ?zz; (case zy => k_is); (case zz => kernel_rfl)); (case c => refine' Sl.sm_codeIn hK ?zy ?zz; (case zy => k_is); (case zz => kernel_rfl)); (case k => refine' Sl.sm_keepIn hK ?zy ?zz; (case zy => k_is); (case zz => kernel_rfl)))
    (case s_sgs => refine' Sl.inprop_of ?n ?g ?t ?r ?l ?c ?k; (case n => refine' Sl.sm_findIn hK ?zy ?zz; (case zy => k_is); (case zz => kernel_rfl)); (case g => refine' Sl.sm_specialIn hK ?zy ?zz; (case zy => k_is); (case zz => kernel_rfl)); (case t => refine' Sl.sm_takesIn hK ?zy ?zz; (case zy => k_is); (case zz => kernel_rfl)); (case r => refine' Sl.sm_recIn hK ?zy ?zz; (case zy => k_is); (case zz => kernel_rfl)); (case l => refine' Sl.sm_lookup hK ?zy ?zz; (case zy => k_is); (case zz => kernel_rfl)); (case c => refine' Sl.sm_codeIn hK ?zy ?zz; (case zy => k_is); (case zz => kernel_rfl)); (case k => refine' Sl.sm_keepIn hK ?zy ?zz; (case zy => k_is); (case zz => kernel_rfl)))
    (case s_emp => refine' Sl.inprop_of ?n ?g ?t ?r ?l ?c ?k; (case n => refine' Sl.sm_findIn hK ?zy ?zz; (case zy => k_is); (case zz => kernel_rfl)); (case g => refine' Sl.sm_specialIn hK ?zy ?zz; (case zy => k_is); (case zz => kernel_rfl)); (case t => refine' Sl.sm_takesIn hK ?zy ?zz; (case zy => k_is); (case zz => kernel_rfl)); (case r => refine' Sl.sm_recIn hK ?zy ?zz; (case zy => k_is); (case zz => kernel_rfl)); (case l => refine' Sl.sm_lookup hK ?zy ?zz; (case zy => k_is); (case zz => kernel_rfl)); (case c => refine' Sl.sm_codeIn hK ?zy ?zz; (case zy => k_is); (case zz => kernel_rfl)); (case k => refine' Sl.sm_keepIn hK ?zy ?zz; (case zy => k_is); (case zz => kernel_rfl)))
    (case k4 => refine' Sl.sm_nsIn hK ?zy ?zz; (case zy => k_is); (case zz => kernel_rfl))
    (case k40 => refine' Sl.sm_nsIn hK ?zy ?zz; (case zy => k_is); (case zz => kernel_rfl))
    (case k8 => refine' Sl.sm_nsIn hK ?zy ?zz; (case zy => k_is); (case zz => kernel_rfl))
    (case kT => refine' Sl.sm_kitOne hK ?zy ?zz; (case zy => kit_is); (case zz => kernel_rfl))
    (case fT => refine' Sl.sm_notFirst hK ?zy ?zz; (case zy => k_is); (case zz => kernel_rfl))
    (case ne => refine' Sl.sm_findIn hK ?zy ?zz; (case zy => k_is); (case zz => kernel_rfl))
    (case hm => refine' Sl.sm_mroIn hK ?zy ?zz; (case zy => k_is); (case zz => kernel_rfl))
    (case r1 => refine' Sl.sm_readsIn hK ?zy ?zz; (case zy => kernel_rfl); (case zz => kernel_rfl))
    (case r2 => refine' Sl.sm_specialIn hK ?zy ?zz; (case zy => k_is); (case zz => kernel_rfl))
    (case r3 => refine' Sl.sm_findCls hK ?zy ?zz; (case zy => kernel_rfl); (case zz => kernel_rfl))
    (case sys0 => refine' Sl.sys_of ?x_sys; (case x_sys => refine' Sl.sm_lookup hK ?zy ?zz; (case zy => k_is); (case zz => kernel_rfl)))
    (case pd => decide)
    (case z_isinstance => refine' Sl.sm_nsIn hK ?zy ?zz; (case zy => k_is); (case zz => kernel_rfl))
    (case z_int => refine' Sl.sm_nsIn hK ?zy ?zz; (case zy => k_is); (case zz => kernel_rfl))
    (case z_bool => refine' Sl.sm_nsIn hK ?zy ?zz; (case zy => k_is); (case zz => kernel_rfl))
    (case z_list => refine' Sl.sm_nsIn hK ?zy ?zz; (case zy => k_is); (case zz => kernel_rfl))
    (case z_tuple => refine' Sl.sm_nsIn hK ?zy ?zz; (case zy => k_is); (case zz => kernel_rfl))
    (case z_len => refine' Sl.sm_nsIn hK ?zy ?zz; (case zy => k_is); (case zz => kernel_rfl))
    (case z_all => refine' Sl.sm_nsIn hK ?zy ?zz; (case zy => k_is); (case zz => kernel_rfl))
    (case z_any => refine' Sl.sm_nsIn hK ?zy ?zz; (case zy => k_is); (case zz => kernel_rfl))
    (case z_set => refine' Sl.sm_nsIn hK ?zy ?zz; (case zy => k_is); (case zz => kernel_rfl))
    (case z_str => refine' Sl.sm_nsIn hK ?zy ?zz; (case zy => k_is); (case zz => kernel_rfl))
    (case z_dict => refine' Sl.sm_nsIn hK ?zy ?zz; (case zy => k_is); (case zz => kernel_rfl))
    (case z_sorted => refine' Sl.sm_nsIn hK ?zy ?zz; (case zy => k_is); (case zz => kernel_rfl))
    (case z_enumerate => refine' Sl.sm_nsIn hK ?zy ?zz; (case zy => k_is); (case zz => kernel_rfl))
    (case z_divmod => refine' Sl.sm_nsIn hK ?zy ?zz; (case zy => k_is); (case zz => kernel_rfl))
    (case z_range => refine' Sl.sm_nsIn hK ?zy ?zz; (case zy => k_is); (case zz => kernel_rfl))
    (case z_max => refine' Sl.sm_nsIn hK ?zy ?zz; (case zy => k_is); (case zz => kernel_rfl))
    (case z_min => refine' Sl.sm_nsIn hK ?zy ?zz; (case zy => k_is); (case zz => kernel_rfl))
    (case z_abs => refine' Sl.sm_nsIn hK ?zy ?zz; (case zy => k_is); (case zz => kernel_rfl))
    (case z_repr => refine' Sl.sm_nsIn hK ?zy ?zz; (case zy => k_is); (case zz => kernel_rfl))
    (case z_zip => refine' Sl.sm_nsIn hK ?zy ?zz; (case zy => k_is); (case zz => kernel_rfl))
    (case z_reversed => refine' Sl.sm_nsIn hK ?zy ?zz; (case zy => k_is); (case zz => kernel_rfl))
#print axioms PySem.Challenge.cw_sealedslots_k28_whole_states_by_all_text_holds
