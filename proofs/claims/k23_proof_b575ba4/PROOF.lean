import PyProof.Rows.All
import Wide.All
import OpenK.AllK
import Wide.FinOn
import HandS.ForMost
import HandS.Set
import HandS.Strs
import HandS.SetBool
import HandS.SetTxt0
import HandS.SetFor
import HandS.Lambda
import HandS.Nested
import OpenK.KRaise
import HandS.Wide
import HandS.WideBits
import HandS.IsInst
import HandS.Zip
import HandS.Walk
import HandS.WordsDict
import HandS.More
import HandS.Conv
import HandS.DictComp
import HandS.SetKeys
import KE.KDictKeyed
import HandS.TupLen
import PyProof.StrWalks
import KE.GoesCell
import PyProof.Draws
import PyProof.EnumMake
import KE.GoesMore
import HandS.Evl
import PyProof.ListStr
import HandS.DeepEq
import HandS.Steps
import HandS.ListItems
import HandS.Text
import PyProof.InstSpecial
import HandS.Property
import HandS.MakeKw
import PyProof.CollectStr
import HandS.OwnEq
import HandS.Codes
import PyProof.InstNe
import PyProof.EqKinds
import PyProof.ReprRoads
import HandS.RaiseMore
import PyProof.ReprLen
import HandS.FStr
import KE.KDictDisplayH
import HandS.Dict
import HandS.ClsMeth
import HandS.Star
import HandS.List
import HandS.Sort
import KE.KEqNest
import HandS.Rev
import HandS.RevTup
import HandS.AnyAll
import HandS.Style
import HandS.Defaults
import HandS.Ends
import HandS.EndTab
import HandS.HeadWalk
import KE.KNest
import KE.KNestM
import OpenK.XHead
import PySem.Challenge.RW_sealedslots_k23_whole_equal_and_within
/-! ## S1 -/
set_option Elab.async false
set_option linter.all false
set_option maxRecDepth 100000
set_option maxHeartbeats 4000000
/-! ### sets of texts that can be walked: made, added to, sorted -/
namespace TxS
open PySem PySem.Spec PyProof.Rows L2 PySem.Froz
/-- the texts l, each once, are the set at a; its table can be walked -/
def SetS (P : Program) (w : World) (h : Heap) (a : Addr) (l : List Str) : Prop :=
  ∃ D : SD, h.get? a = some (sObj "set" D) ∧ TxOk P w D l ∧ (Ris D.2.2.place.toList ∧ (w.params.followText "set-order" = true ∨ D.2.2.led = true)) ∧ l.Nodup
theorem addTx_walk {w : World} {D : SD} {x : Int} {v : Value} (r : Ris D.2.2.place.toList ∧ (w.params.followText "set-order" = true ∨ D.2.2.led = true)) :
    Ris (addTx x v D).2.2.place.toList ∧ (w.params.followText "set-order" = true ∨ (addTx x v D).2.2.led = true) := by
  have r1 := layNew_ris D.2.2 D.1 x v r.1
  have r2 := layNew_led D.2.2 D.1 x v
  unfold addTx
  generalize layNew D.2.2 D.1 x v = Z at r1 r2
  obtain ⟨es1, t1, wd, gv⟩ := Z
  dsimp only at r1 r2 ⊢
  have r3 : Ris (if t1.plain = true then { t1 with plain := false } else t1).place.toList ∧ (if t1.plain = true then { t1 with plain := false } else t1).led = D.2.2.led := by
    by_cases c : t1.plain = true
    · rw [if_pos c]
      exact ⟨r1, r2⟩
    · rw [if_neg c]
      exact ⟨r1, r2⟩
  generalize (if t1.plain = true then { t1 with plain := false } else t1) = t2 at r3
  unfold tailTx
  split
  · exact ⟨relayAll_ris _ _ _, r.2.imp id fun z => by
      show (relayAll t2 es1 (SetTable.grown es1.size)).2.1.led = true
      rw [relayAll_led, r3.2]
      exact z⟩
  · exact ⟨r3.1, r.2.imp id fun z => by
      show t2.led = true
      rw [r3.2]
      exact z⟩
theorem SetS.later {P : Program} {w : World} {h h' : Heap} {a : Addr} {l : List Str} (R : SetS P w h a l) (k : ∀ o, h.get? a = some o → h'.get? a = some o) : SetS P w h' a l := by
  obtain ⟨D, e, r⟩ := R
  exact ⟨D, k _ e, r⟩
theorem SetS.fresh (P : Program) (w : World) {h : Heap} : SetS P w (h.push { cls := .type "set", dict := none, data := .set #[] 0 (.fresh 0 0 (!w.params.followText "set-order")) }) h.objs.size [] := by
  refine ⟨(#[], 0, .fresh 0 0 (!w.params.followText "set-order")), Heap.get?_push_size _ rfl, TxOk.nil (by rfl), ⟨List.Pairwise.nil, ?_⟩, List.nodup_nil⟩
  show _ ∨ (!w.params.followText "set-order") = true
  cases w.params.followText "set-order"
  · exact .inr rfl
  · exact .inl rfl
/-- the values of the table are the texts, in some order -/
theorem strs_all {P : Program} {w : World} : ∀ (vs : List Value), (∀ v ∈ vs, ∃ k : Str, (strKind P w).is k v = true) → ∃ ws, StrsAre vs ws
  | [], _ => ⟨[], .nil⟩
  | v :: vs, h => by
    obtain ⟨k, hk⟩ := h v List.mem_cons_self
    obtain ⟨ws, q⟩ := strs_all vs fun u hu => h u (List.mem_cons_of_mem _ hu)
    have e : Value.isStrOf k v = true := hk
    cases v with
    | str x u => exact ⟨x :: ws, .cons x u q⟩
    | _ => simp [Value.isStrOf] at e
theorem strs_mem {P : Program} {w : World} : ∀ {vs : List Value} {ws : List Str}, StrsAre vs ws → ∀ k : Str, k ∈ ws ↔ ∃ v ∈ vs, (strKind P w).is k v = true
  | _, _, .nil, k => by simp
  | _, _, .cons x u r, k => by
    rw [List.mem_cons, strs_mem (P := P) (w := w) r k]
    constructor
    · rintro (rfl | ⟨v, hv, z⟩)
      · exact ⟨_, List.mem_cons_self, is_str k u⟩
      · exact ⟨v, List.mem_cons_of_mem _ hv, z⟩
    · rintro ⟨v, hv, z⟩
      rcases List.mem_cons.mp hv with e | e
      · rw [e] at z
        exact .inl ((strKind P w).inj (.str x u) k x z (is_str x u))
      · exact .inr ⟨v, e, z⟩
theorem strs_len : ∀ {vs : List Value} {ws : List Str}, StrsAre vs ws → ws.length = vs.length
  | _, _, .nil => rfl
  | _, _, .cons _ _ r => congrArg (· + 1) (strs_len r)
/-- as many as the members, all members among them: each once -/
theorem perm_of_all : ∀ {l ws : List Str}, l.Nodup → (∀ k ∈ l, k ∈ ws) → ws.length = l.length → ws.Perm l
  | [], ws, _, _, e => by
    rw [List.eq_nil_of_length_eq_zero e]
  | x :: l, ws, nd, h, e => by
    obtain ⟨nx, nd'⟩ := List.nodup_cons.mp nd
    have hx := h x List.mem_cons_self
    have p := List.perm_cons_erase hx
    have hl : (ws.erase x).length = l.length := by
      have q := p.length_eq
      rw [List.length_cons] at q e
      omega
    exact p.trans ((perm_of_all nd' (fun k hk => (List.mem_erase_of_ne (fun z => nx (by rw [← z]; exact hk))).mpr (h k (List.mem_cons_of_mem _ hk))) hl).cons x)
theorem texts_of {P : Program} {w : World} {es : Array (Int × Value)} {ep : Nat} {t : SetTable} {l : List Str} {vs : List Value} (nd : l.Nodup) (G : TxOk P w (es, ep, t) l) (pm : vs.Perm (es.toList.map (·.2))) :
    ∃ ws, StrsAre vs ws ∧ ws.Perm l := by
  obtain ⟨ws, q⟩ := strs_all (P := P) (w := w) vs fun v hv => by
    obtain ⟨e, he, z⟩ := List.mem_map.mp (pm.mem_iff.mp hv)
    obtain ⟨⟨k, hk, _⟩, _⟩ := G.el e he
    exact ⟨k, by rw [← z]; exact hk⟩
  refine ⟨ws, q, perm_of_all nd (fun k hk => ?_) ?_⟩
  · revert hk
    refine (show k ∈ ws ↔ k ∈ l from ?_).mpr
    rw [strs_mem (P := P) (w := w) q k, G.mem k]
    constructor
    · rintro ⟨v, hv, z⟩
      obtain ⟨e, he, y⟩ := List.mem_map.mp (pm.mem_iff.mp hv)
      exact ⟨e, he, by rw [y]; exact z⟩
    · rintro ⟨e, he, z⟩
      exact ⟨e.2, pm.mem_iff.mpr (List.mem_map.mpr ⟨e, he, rfl⟩), z⟩
  · rw [strs_len q, pm.length_eq, List.length_map, Array.length_toList]
    exact G.sz
section
variable {P : Program} {w : World} {A : Around} {E : Value → Shared → Prop} {s : Shared} {a : Addr} {l : List Str}
/-- a text that is there already -/
theorem there_x {D : SD} {k : Str} {u : Tok} {Q : Bool → Shared → Prop} (ho : s.heap.get? a = some (sObj "set" D)) (F : TxOk P w D l) (hk : k ∈ l) (hb : l.length < scanBound)
    (h : Q false s) : wpAny (model P w) A (setAddHashed a (.str k u) (hashStr w k)) Q E s := by
  obtain ⟨es, ep, t⟩ := D
  have hd : (sObj "set" (es, ep, t)).data = .set es ep t := rfl
  have hf : t.fits es.size = true := F.fit
  have hel : ElemsOf (strKind P w) es.toList := F.el
  have hb0 : es.size < scanBound := by
    have q : es.size = l.length := F.sz
    omega
  unfold setAddHashed setAddHashedIn
  refine wpAny_holding (wpAny_bind (wpAny_setState_of ho hd hf ?_))
  dsimp only
  rw [byScan_of rfl hb0 hel]
  simp only [↓reduceIte]
  unfold setAddByScan
  refine wpAny_bind (wpAny_bind (wpAny_rule (wpAny_bind (wpAny_setScan_of (knd := strKind P w) (k := k) (is_str k u) ho hd hf hel ?_))))
  cases hr : List.findIdx? (fun e => (strKind P w).is k e.2) es.toList with
  | some j =>
    dsimp only
    exact wpAny_pure (wpAny_pure h)
  | none =>
    obtain ⟨e, he, q⟩ := (F.mem k).mp hk
    have c := List.findIdx?_eq_none_iff.mp hr e he
    rw [q] at c
    cases c
theorem setS_add {k : Str} {u : Tok} {Q : Value → Shared → Prop} (R : SetS P w s.heap a l) (room : l.length + 1 < scanBound)
    (hQ : ∀ h', Heap.SameBut a s.heap h' → SetS P w h' a (if k ∈ l then l else k :: l) → Q .none { s with heap := h', toks := s.toks + 1 }) :
    wpAny (model P w) A (call (.builtin "set.add") [.ref a, .str k u]) Q E s := by
  obtain ⟨D, ho, G, r, nd⟩ := R
  refine wpAny_call_entry F.slot_set_add ⟨_, ho, rfl⟩ F.entry_set_add ?_ (F.args_set_add_2 _ _)
  unfold Builtin.«set.add» Builtin.Frozenset.oneOther
  simp only [List.isEmpty_nil, bind_assoc]
  unfold Builtin.Frozenset.addrOf setAdd
  refine wpAny_bind (wpAny_pure ?_)
  try dsimp only
  refine wpAny_bind (wpAny_pure ?_)
  try dsimp only
  refine wpAny_bind (wpAny_holding (wpAny_bind ((strKind P w).pyHash (is_str k u) ?_)))
  by_cases c : k ∈ l
  · refine there_x (s := { s with toks := s.toks + 1 }) ho G c (by omega) ?_
    refine wpAny_pure ⟨_, rfl, hQ s.heap (Heap.SameBut.refl a s.heap) ?_⟩
    rw [if_pos c]
    exact ⟨D, ho, G, r, nd⟩
  · refine add_x (s := { s with toks := s.toks + 1 }) ho G c room ?_
    refine wpAny_pure ⟨_, rfl, hQ _ ?_ ?_⟩
    · exact Heap.SameBut.update ..
    · rw [if_neg c]
      exact ⟨_, get_upd _ ho rfl, add_ok u G, addTx_walk r, List.nodup_cons.mpr ⟨c, nd⟩⟩
/-- sorted(set): ascending -/
theorem sorted_setS {Q : Value → Shared → Prop} (R : SetS P w s.heap a l) (hh : A.handled = none) (h64 : l.length < 64)
    (hQ : ∀ s' p (out : Array Value) (c : Nat) (ys : List Str), (∀ b o, s.heap.get? b = some o → s'.heap.get? b = some o) → s'.gens = s.gens → s'.os = s.os → s.heap.objs.size ≤ p →
      s'.heap.get? p = some (seqObj "list" out c) → StrsAre out.toList ys → sortedS ys = true → ys.Perm l → Q (.ref p) s') :
    wpAny (model P w) A (call (.builtin "sorted") [.ref a]) Q E s := by
  obtain ⟨D, ho, G, r, nd⟩ := R
  obtain ⟨es, ep, t⟩ := D
  have hsz : es.size = l.length := G.sz
  have hb : es.size < scanBound := by
    unfold scanBound
    omega
  refine Calls.call_function_entry kind_sorted plain_sorted entry_sorted (args_sorted1 _) ?_
  unfold Builtin.«sorted»
  refine wpAny_bind (m := checkCount "sorted" 1 1 _) (wpAny_pure ?_)
  refine wpAny_bind (collect_set (A := A.in1) hh ⟨_, ho, rfl, rfl⟩ G.fit hb r.1 r.2 fun s1 vs k1 hz g1 o1 pm => ?_)
  obtain ⟨ws, hws, pw⟩ := texts_of (P := P) (w := w) nd G pm
  have hvl : vs.length = l.length := by rw [pm.length_eq, List.length_map, Array.length_toList, hsz]
  refine wpAny_bind (wpAny_newList ?_ (by rw [hvl, sizeLine_eq]; omega))
  have hoL : (s1.heap.push (seqObj "list" vs.toArray 0)).get? s1.heap.objs.size = some (seqObj "list" vs.toArray 0) := Heap.get?_push_size _ rfl
  refine wpAny_bind (wpAny_holding (wpAny_call_entry slot_list_sort ⟨_, hoL, rfl⟩ entry_list_sort (list_sort_treeK strKind_oneLt hoL hws.keysOf (fun v₁ v₂ rest e => keyKind_strs (by rw [← e]; exact hws)) (by rw [hvl]; exact h64) fun st' hp hs => ⟨_, rfl, ?_⟩) (args_list_sort _)))
  obtain ⟨ys, q1, q2, q3⟩ := sorted_out_str hws hp hs
  obtain ⟨c, hc⟩ := sortedHeap_at (vs := vs) (out := (arrOf st').map (·.2)) hoL
  refine wpAny_pure ⟨_, rfl, hQ _ s1.heap.objs.size _ c ys (fun b u e => ?_) g1 o1 hz hc q1 q3 (q2.trans pw)⟩
  have q := k1 b u e
  have hlt := Heap.lt_size q
  show (sortedHeap (s1.heap.push (seqObj "list" vs.toArray 0)) s1.heap.objs.size vs ((arrOf st').map (·.2))).get? b = some u
  rw [sortedHeap_old (Nat.ne_of_lt hlt) (by rw [size_push']; exact Nat.lt_succ_of_lt hlt)]
  exact Heap.get?_push_of_some _ q
end
/-! ### over the layer -/
def SetSO (P : Program) (w : World) (a : Addr) (l : List Str) : HO := .ext fun h => SetS P w h a l
theorem setSO_new {w : World} {P : Program} {H : Hp} {h : Heap} {a : Addr} {l : List Str} (R : SetS P w h a l) : ObjOk P w H h a (SetSO P w a l) := by
  have ⟨D, ho, _⟩ := R
  exact ⟨R, ⟨_, ho⟩, fun h1 h2 p k => SetS.later p k⟩
section
variable {X : Cx}
theorem setSO_get {pins : List (Addr × Obj)} {σ : L2.St} {H : Hp} {s : Shared} {a : Addr} {l : List Str} (I : Inv X pins σ H s) (ha : H a = some (SetSO X.prog X.w a l)) : SetS X.prog X.w s.heap a l := (I.hok a _ ha).1
/-- one more text for the set at D -/
theorem addS_ok {pins : List (Addr × Obj)} {σ : L2.St} {H : Hp} {s : Shared} {A : Around} {E : Value → Shared → Prop} {D : Addr} {l : List Str} {k : Str} {u : Tok} {Q : Value → Shared → Prop} (I : Inv X pins σ H s) (hD : H D = some (SetSO X.prog X.w D l)) (room : l.length + 1 < scanBound)
    (h : ∀ s', Inv X pins σ (upd H D (SetSO X.prog X.w D (if k ∈ l then l else k :: l))) s' → Q .none s') : wpAny (model X.prog X.w) A (call (.builtin "set.add") [.ref D, .str k u]) Q E s := by
  refine setS_add (setSO_get I hD) room fun h' sb new => h _ ?_
  have he : ∃ o, h'.get? D = some o := by
    have ⟨_, ho, _⟩ := new
    exact ⟨_, ho⟩
  exact I.write (e := D) (t' := s.toks + 1) (by rw [hD]; trivial) (.inl rfl) (fun b u hb hu => (sb.2 b hb).trans hu) he (setSO_new new)
/-- sorted(a set of texts) -/
def rSortedTx (P : Program) (w : World) : List V → Hp → VK → Prop := fun vs H Q => ∃ (a : Addr) (l : List Str), vs = [V.ref a] ∧ H a = some (SetSO P w a l) ∧ l.length < 64 ∧
  ∀ (ys : List Str) (p : Addr), ys.Perm l → sortedS ys = true → H p = none → Q (.ref p) (upd H p (.lst (ys.map V.str)))
theorem cr_sortedTx (hc : X.calm = true) : CallR X (.builtin "sorted") (rSortedTx X.prog X.w) := by
  intro pins s σ H vs us Q I r h
  obtain ⟨a, l, rfl, ha, h64, q⟩ := h
  have R := setSO_get I ha
  rw [Vals.ref1 r]
  refine sorted_setS R (I.ok.hd hc) h64 fun s' p out c ys k g o hp hg hi hs pm => ?_
  have hlen : (ys.map V.str).length ≤ sizeLine := by rw [List.length_map, pm.length_eq, sizeLine_eq]; omega
  have hn : H p = none := I.hok.fresh hp
  have J : Inv X pins σ (upd H p (.lst (ys.map V.str))) { s with heap := s'.heap, gens := s'.gens, drawn := s'.drawn, toks := s'.toks } :=
    I.call (ch := []) (Un.laid k hp hn) (I.hok.laid k hp ⟨hlen, out.toList, c, vals_of_strs hi, hg⟩) (by rw [g]; exact I.bare) (fun _ z => nomatch z)
  obtain ⟨s'h, s'g, s'd, s't, s'o⟩ := s'
  have e : s'o = s.os := o
  subst e
  exact ⟨.ref p, _, J, rfl, q ys p pm hs hn⟩
end
end TxS
/-! ## C15 -/
set_option Elab.async false
set_option linter.all false
set_option maxRecDepth 100000
set_option maxHeartbeats 4000000
/-! the set of a list of texts, of any length -/
namespace TxS
open PySem PySem.Spec PyProof.Rows L2 PySem.Froz
/-- l, and then the texts of xs that are not there yet -/
def addAll : List Str → List Str → List Str
  | l, [] => l
  | l, x :: xs => addAll (if x ∈ l then l else x :: l) xs
theorem addAll_mem : ∀ (xs l : List Str) (k : Str), k ∈ addAll l xs ↔ k ∈ l ∨ k ∈ xs
  | [], l, k => by simp [addAll]
  | x :: xs, l, k => by
    show k ∈ addAll (if x ∈ l then l else x :: l) xs ↔ _
    rw [addAll_mem xs]
    by_cases c : x ∈ l
    · rw [if_pos c, List.mem_cons]
      constructor
      · rintro (z | z)
        · exact .inl z
        · exact .inr (.inr z)
      · rintro (z | rfl | z)
        · exact .inl z
        · exact .inl c
        · exact .inr z
    · rw [if_neg c, List.mem_cons, List.mem_cons]
      constructor
      · rintro ((rfl | z) | z)
        · exact .inr (.inl rfl)
        · exact .inl z
        · exact .inr (.inr z)
      · rintro (z | rfl | z)
        · exact .inl (.inr z)
        · exact .inl (.inl rfl)
        · exact .inr z
theorem addAll_nodup : ∀ (xs l : List Str), l.Nodup → (addAll l xs).Nodup
  | [], l, h => h
  | x :: xs, l, h => by
    show (addAll (if x ∈ l then l else x :: l) xs).Nodup
    refine addAll_nodup xs _ ?_
    by_cases c : x ∈ l
    · rw [if_pos c]
      exact h
    · rw [if_neg c]
      exact List.nodup_cons.mpr ⟨c, h⟩
theorem one_len (l : List Str) (x : Str) : (if x ∈ l then l else x :: l).length ≤ l.length + 1 := by
  split
  · omega
  · simp
theorem StrsAre.pick : ∀ {us : List Value} {xs : List Str}, StrsAre us xs → ∀ (i : Nat) (v : Value), us[i]? = some v → ∃ k t, xs[i]? = some k ∧ v = .str k t
  | _, _, .nil, i, v, h => nomatch h
  | _, _, .cons x u r, 0, v, h => ⟨x, u, rfl, (Option.some.inj h).symm⟩
  | _, _, .cons x u r, i + 1, v, h => StrsAre.pick r i v h
section
variable {P : Program} {w : World} {A : Around} {E : Value → Shared → Prop} {s : Shared} {a : Addr} {l : List Str}
/-- one text into the set -/
theorem setS_put {k : Str} {u : Tok} {Q : Bool → Shared → Prop} (R : SetS P w s.heap a l) (room : l.length + 1 < scanBound)
    (hQ : ∀ b h', Heap.SameBut a s.heap h' → SetS P w h' a (if k ∈ l then l else k :: l) → Q b { s with heap := h', toks := s.toks + 1 }) :
    wpAny (model P w) A (setAdd a (.str k u)) Q E s := by
  obtain ⟨D, ho, G, r, nd⟩ := R
  unfold setAdd
  refine wpAny_holding (wpAny_bind ((strKind P w).pyHash (is_str k u) ?_))
  by_cases c : k ∈ l
  · refine there_x (s := { s with toks := s.toks + 1 }) ho G c (by omega) (hQ _ s.heap (Heap.SameBut.refl a s.heap) ?_)
    rw [if_pos c]
    exact ⟨D, ho, G, r, nd⟩
  · refine add_x (s := { s with toks := s.toks + 1 }) ho G c room (hQ _ _ ?_ ?_)
    · exact Heap.SameBut.update ..
    · rw [if_neg c]
      exact ⟨_, get_upd _ ho rfl, add_ok u G, addTx_walk r, List.nodup_cons.mpr ⟨c, nd⟩⟩
/-- what an iterator gives, put in one after another -/
theorem fillTx {I : Addr} {fp wr : List Addr} {G : Array GenState → Array GenState → Prop} {n : Nat}
    {Pv : Nat → Value → Prop} {St : Nat → Shared → Prop} {R : Result → Shared → Prop}
    (W : WalksS P w A.in1 I fp wr G n Pv St) (S : Addr) (out : S ∉ fp) (xs : List Str) (hn : n = xs.length)
    (val : ∀ i v, Pv i v → ∃ k t, xs[i]? = some k ∧ v = .str k t) :
    ∀ (k i : Nat) (l : List Str) (s : Shared), n - i = k → i ≤ n → l.length + k + 1 < scanBound → St i s → SetS P w s.heap S l →
      (∀ s', Moved (S :: wr) G s s' → SetS P w s'.heap S (addAll l (xs.drop i)) → R (.ok (.ret .none)) s') →
      codeAny (model P w) A (.builtin "set.update.loop" ⟨[.ref S, .ref I], []⟩) R s := by
  have nw : S ∉ wr := fun z => out (W.sub _ z)
  have more : ∀ b ∈ wr, b ∈ S :: wr := fun b z => List.mem_cons_of_mem _ z
  intro k
  induction k with
  | zero =>
    intro i l s e1 e2 room hst have1 fin
    have e3 : i = n := by omega
    subst e3
    refine codeAny_builtin PyProof.Rows.F.entry_set_update_loop ?_
    rw [Around.under_plainId PyProof.Rows.F.plain_set_update_loop _]
    show wpAny _ A.in1 (pyNext (.ref I) >>= _) _ _ s
    refine wpAny_bind (W.done s _ _ hst fun s1 m1 => ?_)
    show wpAny _ A.in1 (ret Value.none) _ _ s1
    rw [show xs.drop i = [] from List.drop_of_length_le (by omega)] at fin
    exact wpAny_pure (fin s1 (m1.mono more) (have1.later fun o e => m1.heap S o nw e))
  | succ k ih =>
    intro i l s e1 e2 room hst have1 fin
    have lt : i < n := by omega
    refine codeAny_builtin PyProof.Rows.F.entry_set_update_loop ?_
    rw [Around.under_plainId PyProof.Rows.F.plain_set_update_loop _]
    show wpAny _ A.in1 (pyNext (.ref I) >>= _) _ _ s
    refine wpAny_bind (W.item i s _ _ lt hst fun v s1 hv st1 m1 => ?_)
    obtain ⟨x, t, hx, rfl⟩ := val i v hv
    have dr : xs.drop i = x :: xs.drop (i + 1) := by
      obtain ⟨hi, ex⟩ := List.getElem?_eq_some_iff.mp hx
      rw [List.drop_eq_getElem_cons hi, ex]
    rw [dr] at fin
    show wpAny _ A.in1 (holding [Value.str x t] (setAdd S (.str x t)) >>= _) _ _ s1
    refine wpAny_bind (wpAny_holding (setS_put (have1.later fun o e => m1.heap S o nw e) (by omega) fun b h2 sb have2 => ?_))
    refine wpAny_pure ⟨plainId_quiet PyProof.Rows.F.plain_set_update_loop _, ?_⟩
    refine ih (i + 1) _ _ (by omega) lt (by have q := one_len l x; omega) ?_ have2 fun s3 m3 have3 => ?_
    · exact W.frame _ s1 _ _ st1 (Nat.le_succ _) fun b hb o e => (sb.2 b fun z => out (z ▸ hb)).trans e
    · refine fin s3 (Moved.trans W.gtrans ?_ m3) have3
      exact (m1.mono more).then_heap (Nat.le_succ _) fun b o hb e => (sb.2 b fun z => hb (z ▸ List.mem_cons_self)).trans e
/-- an empty set, laid anew -/
def emptyS (w : World) : Obj := { cls := .type "set", dict := none, data := .set #[] 0 (.fresh 0 0 (!w.params.followText "set-order")) }
theorem emptyS_at {h : Heap} (e : h.get? a = some (emptyS w)) : SetS P w h a [] := by
  refine ⟨(#[], 0, .fresh 0 0 (!w.params.followText "set-order")), e, TxOk.nil (by rfl), ⟨List.Pairwise.nil, ?_⟩, List.nodup_nil⟩
  show _ ∨ (!w.params.followText "set-order") = true
  cases w.params.followText "set-order"
  · exact .inr rfl
  · exact .inl rfl
end
end TxS
/-! ## V1 -/
set_option Elab.async false
set_option linter.all false
set_option maxRecDepth 100000
set_option maxHeartbeats 4000000
/-! lambdas with parameters, as values that are handed on; defs that get them -/
namespace Sl
open PySem PySem.Spec PyProof.Rows L2 LamX NdefX
/-- a lambda: its words, the cells that it captured, its code object -/
structure LF where
  qual : Str
  params : Arguments
  body : Expr
  scope : Scope
  cl : List (Str × Addr)
  c : Addr
abbrev LF.fd (F : LF) (pm ctv : Value) : FuncData := PySem.W.kla_fn "<lambda>" F.qual F.params F.body F.scope F.cl pm (.ref F.c) ctv
/-- as a nested def, for its frame -/
abbrev LF.nf (F : LF) : NF := ⟨"<lambda>", F.qual, F.params, [], F.scope, F.cl, F.c⟩
/-- the object at f is the lambda F -/
def LamO (f : Addr) (F : LF) : HO := .ext fun h => ∃ (od : Option Addr) (sl : Array (Option Value)) (pm ctv : Value), h.get? f = some (⟨.type "function", od, .func (F.fd pm ctv), sl⟩ : Obj)
theorem lamO_ne {f : Addr} {F : LF} (ps : Array Value) : LamO f F ≠ .tbl ps := fun z => by
  unfold LamO at z
  cases z
theorem lamO_at {P : Program} {w : World} {H : Hp} {h : Heap} {f : Addr} {F : LF} (hok : HOk P w H h) (e : H f = some (LamO f F)) : ∃ (od : Option Addr) (sl : Array (Option Value)) (pm ctv : Value), h.get? f = some (⟨.type "function", od, .func (F.fd pm ctv), sl⟩ : Obj) := by
  obtain ⟨z, _, _⟩ := hok f _ e
  exact z
section
variable {X : Cx} {pins : List (Addr × Obj)} {σ : L2.St} {H : Hp} {s : Shared}
theorem inv_lam {F : LF} {o : Obj} {t' : Nat} {pm ctv : Value} (I : Inv X pins σ H s) (ho : o = { cls := .type "function", data := .func (F.fd pm ctv) }) :
    Inv X pins σ (upd H s.heap.objs.size (LamO s.heap.objs.size F)) { s with heap := s.heap.push o, toks := t' } := by
  subst ho
  refine I.laid (a := s.heap.objs.size) (fun b u e => Heap.get?_push_of_some _ e) (Nat.le_refl _) ?_
  have e : (s.heap.push ({ cls := .type "function", data := .func (F.fd pm ctv) } : Obj)).get? s.heap.objs.size = some ({ cls := .type "function", data := .func (F.fd pm ctv) } : Obj) := Heap.get?_push_size _ rfl
  exact ⟨⟨_, _, pm, ctv, e⟩, ⟨_, e⟩, fun h1 h2 ⟨od, sl, p, t, z⟩ st => ⟨od, sl, p, t, st _ z⟩⟩
/-- the lambda is made, and known from now on -/
theorem lam_make3 {T : List NTab} {q : Str} {c P : Addr} {params : Arguments} {body : Expr} {scope : Scope} {pos : Pos} {E : Value → Shared → Prop} {Q : Value → Shared → Prop} (I : Inv X pins σ H s) (TB : TabB X.base X.mg c P) (hcode : X.env.code = .ref c)
    {nm : Nat → Nat → Str} (hm : (P, nm) ∈ T) (hn : nm pos.line pos.col = X.env.qual ++ "<lambda>") (hu : ∀ p ∈ T, p.1 = P → p.2 = nm) (hT : TabsN T H) (hdef : defaultsOf params X.env = ([], [])) (hfree : ∀ y ∈ scope.names, y.2 = .free → ∃ c, X.env.cells.lookup y.1 = some c)
    (hq : q = X.env.qual ++ "<lambda>") (h : ∀ (f c' : Addr) (H1 : Hp) (s' : Shared), Inv X pins σ H1 s' → ExtN H H1 → (∀ b, H1 b = Option.none → H b = Option.none) → TabsN T H1 → H f = none → H1 f = some (LamO f ⟨q, params, body, scope, cloFrom X.env.cells scope.names [], c'⟩) → H1 c' = some (CodeO c' q) → Q (.ref f) s') :
    wpAny (model X.prog X.w) X.A (eval (.Lambda params body scope pos) X.env) Q E s := by
  obtain ⟨ps, hP, ht, ha⟩ := (show TabN H P nm from hT _ hm)
  refine PySem.W.kla_eval hdef ?_
  have bP : s.heap.BuiltinsAt X.mg P := TB.bm.keeps I.bk
  have hP' : s.heap.get? P = some { cls := .none, data := .fields ps } := I.hok P _ hP
  have lam : ∀ {H1 : Hp} {c' : Addr} {ctv : Value} {h' : Heap} {tk : Nat}, Inv X pins σ H1 { s with heap := h', toks := tk } → H h'.objs.size = none → ExtN H H1 → (∀ b, H1 b = Option.none → H b = Option.none) → TabsN T H1 → H1 c' = some (CodeO c' q) →
      Q (.ref h'.objs.size) { s with heap := h'.push { cls := .type "function", data := .func ((⟨q, params, body, scope, cloFrom X.env.cells scope.names [], c'⟩ : LF).fd ((X.mg "__name__").getD .none) ctv) }, toks := tk } := fun {H1 c' ctv h' tk} I1 n0 x1 nn T1 hc => by
    have nF : H1 h'.objs.size = none := I1.hok.fresh (Nat.le_refl _)
    have x2 : ∀ b o, H1 b = some o → (upd H1 h'.objs.size (LamO h'.objs.size ⟨q, params, body, scope, cloFrom X.env.cells scope.names [], c'⟩)) b = some o := fun b o e => (upd_ne (ne_of_none e nF)).trans e
    exact h _ c' _ _ (inv_lam (F := ⟨q, params, body, scope, cloFrom X.env.cells scope.names [], c'⟩) I1 rfl) (fun b o e n => x2 _ _ (x1 b o e n)) (fun b e => nn b (upd_none e)) (T1.ext x2) n0 upd_same (x2 _ _ hc)
  cases hc : codeAmong pos ps.toList with
  | some cv =>
    obtain ⟨c', e, hco⟩ := ha pos cv hc
    subst e
    rw [hn, ← hq] at hco
    subst hq
    exact PySem.W.kla_makeFunctionHit (mg := X.mg) (c := c) (P := P) (ps := ps) (closure_ok hfree) I.ok.glob (I.mod.glob.keeps I.bk) hcode (TB.code.keeps I.bk) hP' ht hc bP fun ctv h' tk hx hsz => lam (I.kept hx) ((I.kept hx : Inv X pins σ H { s with heap := h', toks := tk }).hok.fresh (Nat.le_refl _)) (fun _ _ e _ => e) (fun _ e => e) hT hco
  | none =>
    subst hq
    refine PySem.W.kla_makeFunction (mg := X.mg) (c := c) (P := P) (ps := ps) (closure_ok hfree) I.ok.glob (I.mod.glob.keeps I.bk) hcode (TB.code.keeps I.bk) hP' ht hc TB.gP bP fun c' ctv h' tk hx hge hlt hrec htb => ?_
    obtain ⟨c2, oc, vs, t, e2, hoc, hd, hv⟩ := hrec
    cases e2
    have nC : H c' = none := I.hok.fresh hge
    have I1 := inv_table (t' := tk) (more := #[rawInt pos.line, rawInt pos.col, .ref c']) (h' := h') I hP (fun b o hb e => hx b o hb e) htb hge ⟨oc, vs, t, hoc, hd, hv⟩
    have eL : (ps ++ #[rawInt pos.line, rawInt pos.col, .ref c']).toList = ps.toList ++ [rawInt pos.line, rawInt pos.col, .ref c'] := by simp
    have tail := fun (p' : Pos) (cv : Value) => among_app2 (pos := pos) (p' := p') (c := .ref c') (cv := cv) ps.toList ht
    have okS : TriplesOk (ps ++ #[rawInt pos.line, rawInt pos.col, .ref c']).toList := by rw [eL]; exact PySem.TriplesOk_snoc _ _ _ _ ht
    generalize (ps ++ #[rawInt pos.line, rawInt pos.col, .ref c']) = ps2 at I1 eL okS
    generalize hH1 : upd (upd H P (.tbl ps2)) c' (CodeO c' (X.env.qual ++ "<lambda>")) = H1 at I1
    have hc1 : H1 c' = some (CodeO c' (X.env.qual ++ "<lambda>")) := by rw [← hH1]; exact upd_same
    have hP1 : H1 P = some (.tbl ps2) := by rw [← hH1, upd_ne (ne_of_none hP nC)]; exact upd_same
    have x1 : ExtN H H1 := fun b o e n => by
      rw [← hH1, upd_ne (ne_of_none e nC)]
      exact (upd_ne fun z => n ps (Option.some.inj ((z ▸ e).symm.trans hP))).trans e
    have oth : ∀ b o, b ≠ P → H b = some o → H1 b = some o := fun b o z e => by
      rw [← hH1, upd_ne (ne_of_none e nC), upd_ne z]
      exact e
    refine lam I1 (I.hok.fresh (Nat.le_trans hge (Nat.le_of_lt hlt))) x1 (fun b e => upd_none (upd_none (by rw [hH1]; exact e))) (fun p hp => ?_) hc1
    by_cases hb : p.1 = P
    · show TabN H1 p.1 p.2
      rw [hb, hu p hp hb]
      refine ⟨ps2, hP1, okS, fun p' cv hcv => ?_⟩
      rw [eL] at hcv
      rcases tail p' cv hcv with z | ⟨z, z1, z2⟩
      · obtain ⟨c0, e1, e2⟩ := ha p' cv z
        exact ⟨c0, e1, x1 _ _ e2 codeO_ne⟩
      · exact ⟨c', z, by rw [← z1, ← z2, hn]; exact hc1⟩
    · obtain ⟨ps', a1, a2, a3⟩ := (show TabN H p.1 p.2 from hT p hp)
      exact ⟨ps', oth _ _ hb a1, a2, fun p' cv hcv => let ⟨c0, e1, e2⟩ := a3 p' cv hcv; ⟨c0, e1, x1 _ _ e2 codeO_ne⟩⟩
end
/-! ### the expression -/
/-- the reading of a lambda: its value is the new function -/
def tLamV (T : List NTab) (mk : Addr → LF) : TE := fun σ H Q => TabsN T H ∧ ∀ (f c' : Addr) (H1 : Hp), ExtN H H1 → (∀ b, H1 b = Option.none → H b = Option.none) → TabsN T H1 → H f = none → H1 f = some (LamO f (mk c')) → H1 c' = some (CodeO c' (mk c').qual) → Q (.ref f) H1
section
variable {X : Cx}
theorem pe_lamN {T : List NTab} {nm : Nat → Nat → Str} {c P : Addr} {params : Arguments} {body : Expr} {scope : Scope} {pos : Pos} (TB : TabB X.base X.mg c P) (hcode : X.env.code = .ref c) (hm : (P, nm) ∈ T) (hn : nm pos.line pos.col = X.env.qual ++ "<lambda>") (hu : ∀ p ∈ T, p.1 = P → p.2 = nm) (hdef : defaultsOf params X.env = ([], []))
    (hfree : ∀ y ∈ scope.names, y.2 = .free → X.env.scope.names.lookup y.1 = some .cell ∨ X.env.scope.names.lookup y.1 = some .free) :
    PE X (.Lambda params body scope pos) (tLamV T fun c' => ⟨X.env.qual ++ "<lambda>", params, body, scope, cloFrom X.env.cells scope.names [], c'⟩) := by
  refine ⟨fun pins s σ H Q I h => ?_⟩
  obtain ⟨hT, h⟩ := h
  have hfr : ∀ y ∈ scope.names, y.2 = .free → ∃ c, X.env.cells.lookup y.1 = some c := fun y hy e => (hfree y hy e).elim (fun z => I.ok.has _ (.inl z)) fun z => I.ok.has _ (.inr z)
  exact lam_make3 I TB hcode hm hn hu hT hdef hfr rfl fun f c' H1 s' I1 eN nn T1 f0 f1 c1 => ⟨.ref f, H1, I1, rfl, h f c' H1 eN nn T1 f0 f1 c1⟩
/-- the table of a def that makes lambdas only -/
theorem pe_lamV {T : List NTab} {c P : Addr} {params : Arguments} {body : Expr} {scope : Scope} {pos : Pos} (TB : TabB X.base X.mg c P) (hcode : X.env.code = .ref c) (hm : (P, fun _ _ => X.env.qual ++ "<lambda>") ∈ T) (hu : ∀ p ∈ T, p.1 = P → p.2 = fun _ _ => X.env.qual ++ "<lambda>") (hdef : defaultsOf params X.env = ([], []))
    (hfree : ∀ y ∈ scope.names, y.2 = .free → X.env.scope.names.lookup y.1 = some .cell ∨ X.env.scope.names.lookup y.1 = some .free) :
    PE X (.Lambda params body scope pos) (tLamV T fun c' => ⟨X.env.qual ++ "<lambda>", params, body, scope, cloFrom X.env.cells scope.names [], c'⟩) := pe_lamN TB hcode hm rfl hu hdef hfree
end
/-! ### what it promises -/
/-- the promise of the lambda F, wherever it stands: sp ws, ws what its captured cells hold at the call -/
structure LOk (P : Program) (w : World) (K : PySem.W.Frag) (mg : Str → Option Value) (base : Heap) (CX : CXT) (k : Nat) (F : LF) (ps fr : List Str) (sp : List (Option V) → Sp) : Prop where
  len : ∀ ws vs H Q E, sp ws vs H Q E → vs.length = ps.length
  run : ∀ (f : Addr) (A : Around) (outer : List Env) (s : Shared) (H : Hp) (us : List Value) (vs : List V) (ws : List (Option V)) (Q : VK) (E : XK), Room k A → Env0 P w K mg base A outer s H → H f = some (LamO f F) → H F.c = some (CodeO F.c F.qual) →
    CellsAt F.cl fr ws s.heap H → Vals vs us → sp ws vs H Q E → codeAny (model P w) A (.call (.ref f) ⟨us, []⟩) (CR CX outer P w H s Q E) s
section
variable {CX : CXT} {P : Program} {w : World} {K : PySem.W.Frag} {mg : Str → Option Value} {base : Heap} {N ps fr : List Str} {F : LF} {f : Addr} {k j : Nat} {sp sp' : List (Option V) → Sp}
theorem LOk.mono (o : LOk P w K mg base CX j F ps fr sp) (h : j ≤ k) : LOk P w K mg base CX k F ps fr sp := ⟨o.len, fun f A outer s H us vs ws Q E hr => o.run f A outer s H us vs ws Q E (hr.mono h)⟩
/-- THE RULE: a lambda by its body -/
theorem lok_of (S : NScope N ps fr F.scope) (hb : ∀ (pm ctv : Value) (us : List Value), us.length = ps.length → bindArgs (F.fd pm ctv) ⟨us, []⟩ = pure (ps.zip us)) (len : ∀ ws vs H Q E, sp ws vs H Q E → vs.length = ps.length)
    (hbody : ∀ (f : Addr) (A : Around) (outer : List Env) (s : Shared) (H : Hp) (vs : List V) (ws : List (Option V)) (Q : VK) (E : XK), Room k (A.deeper (envF F.nf f s.heap.objs.size)) → H f = some (LamO f F) → H F.c = some (CodeO F.c F.qual) → ws.length = fr.length → sp ws vs H Q E →
      ∃ t, PE (ncx CX P w K mg base N F.nf f A outer s H E) F.body t ∧ t (startF N vs ws) H Q) :
    LOk P w K mg base CX (k + 1) F ps fr sp := by
  refine ⟨len, fun f A outer s H us vs ws Q E hr e0 hf hc C r hsp => ?_⟩
  have hl := len _ _ _ _ _ hsp
  have lim : s.heap.NoLimit := e0.mod.nolimit.keeps fun b o e => (e0.bs b o e).1
  obtain ⟨od, sl, pm, ctv, ho⟩ := lamO_at e0.hok hf
  refine PySem.W.kla_callFunE hr.depth ho rfl S.co S.gen rfl (codeO_at e0.hok hc) ?_
  rw [hb pm ctv us (by rw [← r.length]; exact hl)]
  refine wpAny_pure (wpAny_newFunctionEnv S.nocell (fun ⟨n, _⟩ hy => S.par n (List.of_mem_zip hy).1) (fun h₁ hns hsb => ⟨lim.fresh _ hsb, ?_⟩) S.kind)
  show codeAny _ _ (.expr F.body (envF F.nf f s.heap.objs.size)) _ _
  have kp : ∀ b o, s.heap.get? b = some o → h₁.get? b = some o := fun b o e => hsb.extBut b o (Nat.ne_of_lt (Heap.lt_size e)) (Heap.get?_push_of_some _ e)
  obtain ⟨t, ht, hq⟩ := hbody f A outer s H vs ws Q E (hr.deeper _) hf hc C.len hsp
  have I : Inv (ncx CX P w K mg base N F.nf f A outer s H E) [] (startF N vs ws) H { s with heap := h₁, toks := s.toks + (ps.zip us).length } := inv_startN (F := F.nf) S hr.hd e0 hl r C hns kp
  refine PySem.W.kla_codeExpr (wpAny_mono (ht.run [] _ (startF N vs ws) H Q I hq) (fun u s' hs => ?_) fun e s' hs => hs)
  obtain ⟨v, H', J, rv, q⟩ := hs
  exact ⟨v, H', J.os, J.bare, J.base, J.hok, rv, q⟩
end
/-! ### cells of others -/
/-- what the cells held when the running frame began they hold still -/
theorem cells_later {X : Cx} {pins : List (Addr × Obj)} {σ : L2.St} {H : Hp} {s : Shared} {cl : List (Str × Addr)} {fr : List Str} {ws : List (Option V)} (C : CellsAt cl fr ws X.s_0.heap X.H_0) (hx : X.ex = []) (I : Inv X pins σ H s) : CellsAt cl fr ws s.heap H := by
  have nx : ∀ b, b ∉ X.ex := fun b hb => by
    rw [hx] at hb
    cases hb
  have kp : ∀ y c, cl.lookup y = some c → ∀ v, X.s_0.heap.IsCell c v → s.heap.IsCell c v := fun y c e v ⟨o, ho, hd⟩ => by
    obtain ⟨sl, q⟩ := I.base.any ho (C.all y c e).1 (nx c)
    exact ⟨_, q, hd⟩
  refine ⟨C.len, fun y c e => ?_, C.inj, fun i y e => ?_⟩
  · obtain ⟨n, v, z⟩ := C.all y c e
    refine ⟨?_, v, kp y c e v z⟩
    obtain ⟨o, ho, _⟩ := z
    exact I.base.free c o ho n (nx c)
  · obtain ⟨c, hc, hv⟩ := C.has i y e
    refine ⟨c, hc, fun v ev => ?_⟩
    obtain ⟨u, r, z⟩ := hv v ev
    exact ⟨u, r, kp y c hc _ z⟩
/-- .. and are no frames of callers -/
structure CellsF (cl : List (Str × Addr)) (fr : List Str) (ws : List (Option V)) (outer : List Env) (h : Heap) (H : Hp) : Prop where
  at_ : CellsAt cl fr ws h H
  nf : ∀ y c, cl.lookup y = some c → c ∉ frs outer
theorem cellsF_later {X : Cx} {pins : List (Addr × Obj)} {σ : L2.St} {H : Hp} {s : Shared} {cl : List (Str × Addr)} {fr : List Str} {ws : List (Option V)} (C : CellsF cl fr ws X.outer X.s_0.heap X.H_0) (hx : X.ex = []) (hs : X.stack = X.env :: X.outer) (hf : X.env.frame = some X.env.locals) (I : Inv X pins σ H s) : CellsF cl fr ws X.stack s.heap H := by
  refine ⟨cells_later C.at_ hx I, fun y c e hm => ?_⟩
  rw [hs] at hm
  have hm : c ∈ (X.env :: X.outer).filterMap (·.frame) := hm
  rw [List.filterMap_cons, hf] at hm
  rcases List.mem_cons.mp hm with z | z
  · obtain ⟨_, v, o, ho, _⟩ := C.at_.all y c e
    have h1 := Heap.lt_size ho
    have h2 := I.ok.above
    rw [z] at h1
    exact absurd h1 (Nat.not_lt.mpr h2)
  · exact C.nf y c e z
/-- cells of the frame that runs -/
theorem cellsF_of {X : Cx} {pins : List (Addr × Obj)} {σ : L2.St} {H : Hp} {s : Shared} {cl : List (Str × Addr)} {fr : List Str} {js : List Nat} (I : Inv X pins σ H s) (c : Caps X cl fr js) (hfn : ∀ x, X.fn x = true) (hs : X.stack = X.env :: X.outer) (hf : X.env.frame = some X.env.locals) : CellsF cl fr (js.map (slotAt σ)) X.stack s.heap H := by
  refine ⟨cells_of I c, fun y a e hm => ?_⟩
  rw [hs] at hm
  have hm : a ∈ (X.env :: X.outer).filterMap (·.frame) := hm
  rw [List.filterMap_cons, hf] at hm
  rcases List.mem_cons.mp hm with z | z
  · obtain ⟨v, o, ho, hd⟩ := I.cell y a (c.sub y a e)
    obtain ⟨m, ⟨o2, es, ep, ho2, hd2, _⟩, _⟩ := I.loc
    rw [z, ho2] at ho
    cases ho
    rw [hd2] at hd
    cases hd
  · obtain ⟨_, o, ho, _⟩ := Heap.FunFrames.mem I.ok.funs z
    have h1 := Heap.lt_size ho
    have h2 := I.ok.cab y a (hfn y) (c.sub y a e)
    exact absurd h1 (Nat.not_lt.mpr h2)
/-- cells that the base has: known in every context over it -/
structure CellsB (cl : List (Str × Addr)) (fr : List Str) (ws : List (Option V)) (base : Heap) : Prop where
  len : ws.length = fr.length
  all : ∀ y c, cl.lookup y = some c → ∃ v, base.IsCell c v
  inj : ∀ x y c, cl.lookup x = some c → cl.lookup y = some c → x = y
  has : ∀ (i : Nat) (y : Str), fr[i]? = some y → ∃ c, cl.lookup y = some c ∧ ∀ v, ws[i]? = some (some v) → ∃ u, L2.RelV v u ∧ base.IsCell c (some u)
theorem cells_base {X : Cx} {pins : List (Addr × Obj)} {σ : L2.St} {H : Hp} {s : Shared} {cl : List (Str × Addr)} {fr : List Str} {ws : List (Option V)} (B : CellsB cl fr ws X.base) (I : Inv X pins σ H s) : CellsAt cl fr ws s.heap H := by
  have kp : ∀ c v, X.base.IsCell c v → s.heap.IsCell c v := fun c v ⟨o, ho, hd⟩ => ⟨o, (I.bs c o ho).1, hd⟩
  refine ⟨B.len, fun y c e => ?_, B.inj, fun i y e => ?_⟩
  · obtain ⟨v, o, ho, hd⟩ := B.all y c e
    exact ⟨(I.bs c o ho).2, v, kp c v ⟨o, ho, hd⟩⟩
  · obtain ⟨c, hc, hv⟩ := B.has i y e
    exact ⟨c, hc, fun v ev => let ⟨u, r, z⟩ := hv v ev; ⟨u, r, kp c _ z⟩⟩
/-- another base: all that is not tracked, but the callers' frames -/
def baseOf (s : Shared) (H : Hp) (outer : List Env) : Heap := PySem.W.hideAll s.heap (trk s.heap H ++ frs outer)
theorem baseOf_get {s : Shared} {H : Hp} {outer : List Env} {b : Addr} {o : Obj} (e : s.heap.get? b = some o) (n : H b = none) (f : b ∉ frs outer) : (baseOf s H outer).get? b = some o :=
  PySem.W.hideAll_get _ e fun hm => by
    rcases List.mem_append.mp hm with h | h
    · have q : (H b).isSome = true := (List.mem_filter.mp h).2
      rw [n] at q
      simp at q
    · exact f h
theorem of_baseOf {s : Shared} {H : Hp} {outer : List Env} {b : Addr} {o : Obj} (e : (baseOf s H outer).get? b = some o) : s.heap.get? b = some o ∧ H b = none := by
  have e' : s.heap.get? b = some o := PySem.W.of_hideAll _ e
  refine ⟨e', ?_⟩
  cases q : H b with
  | none => rfl
  | some x =>
    have hm : b ∈ trk s.heap H ++ frs outer := List.mem_append.mpr (.inl (List.mem_filter.mpr ⟨List.mem_range.mpr (Heap.lt_size e'), by simp [q]⟩))
    have z : (baseOf s H outer).get? b = none := PySem.W.hideAll_none _ hm
    rw [z] at e
    cases e
theorem env0_base {P : Program} {w : World} {K : PySem.W.Frag} {mg : Str → Option Value} {base : Heap} {A : Around} {outer : List Env} {s : Shared} {H : Hp} (e0 : Env0 P w K mg base A outer s H) : Env0 P w K mg (baseOf s H outer) A outer s H ∧ (∀ b o, base.get? b = some o → (baseOf s H outer).get? b = some o) := by
  have k : ∀ b o, base.get? b = some o → (baseOf s H outer).get? b = some o := fun b o e => baseOf_get (e0.bs b o e).1 (e0.bs b o e).2 fun hm => by
    have q := (Heap.FunFrames.mem e0.funs hm).1
    rw [e] at q
    cases q
  obtain ⟨mb, n1, n2⟩ := e0.mod.blt
  exact ⟨⟨e0.frames, ⟨e0.mod.kin.keeps k, e0.mod.glob.keeps k, ⟨mb, n1.keeps k, n2⟩, e0.mod.nolimit.keeps k⟩, fun b o e => of_baseOf e, Nat.le_of_eq (PySem.W.hideAll_size _ _),
    PySem.W.funFrames_hide e0.funs fun env he a ea => List.mem_append.mpr (.inr (List.mem_filterMap.mpr ⟨env, he, ea⟩)), e0.frf, e0.hok, e0.bare⟩, k⟩
theorem cellsB_of {cl : List (Str × Addr)} {fr : List Str} {ws : List (Option V)} {s : Shared} {H : Hp} {outer : List Env} (C : CellsF cl fr ws outer s.heap H) : CellsB cl fr ws (baseOf s H outer) := by
  have kp : ∀ y c, cl.lookup y = some c → ∀ v, s.heap.IsCell c v → (baseOf s H outer).IsCell c v := fun y c e v ⟨o, ho, hd⟩ => ⟨o, baseOf_get ho (C.at_.all y c e).1 (C.nf y c e), hd⟩
  refine ⟨C.at_.len, fun y c e => ?_, C.at_.inj, fun i y e => ?_⟩
  · obtain ⟨_, v, z⟩ := C.at_.all y c e
    exact ⟨v, kp y c e v z⟩
  · obtain ⟨c, hc, hv⟩ := C.at_.has i y e
    exact ⟨c, hc, fun v ev => let ⟨u, r, z⟩ := hv v ev; ⟨u, r, kp y c hc _ z⟩⟩
theorem cells_nil {h : Heap} {H : Hp} : CellsAt [] [] [] h H := ⟨rfl, fun _ _ e => (nomatch e), fun _ _ _ e => (nomatch e), fun i y e => (by cases i <;> cases e)⟩
theorem lamAt_of {X : Cx} {pins : List (Addr × Obj)} {σ : L2.St} {H : Hp} {s : Shared} {f : Addr} {F : LF} (I : Inv X pins σ H s) (e : H f = some (LamO f F)) : PySem.W.FnAt f s.heap := by
  obtain ⟨od, sl, pm, ctv, ho⟩ := lamO_at I.hok e
  exact ⟨_, od, _, sl, ho⟩
/-! ### calls of a lambda that was handed in -/
/-- f(..), f a name that holds the lambda F -/
def tCallL (F : LF) (i : Nat) (ws : List (Option V)) (sp : List (Option V) → Sp) (E : XK) (t : TA) : TE := fun σ H Q => ∃ f, σ[i]? = some (some (.ref f)) ∧ H f = some (LamO f F) ∧
  t σ H fun vs H1 => H1 f = some (LamO f F) ∧ H1 F.c = some (CodeO F.c F.qual) ∧ sp ws vs H1 Q E
section
variable {X : Cx} {CX : CXT} {F : LF} {ps fr : List Str} {ws : List (Option V)} {i j k : Nat} {x : Str} {sp : List (Option V) → Sp} {E : XK} {t : TA} {e : Expr} {es : List Expr} {p pos : Pos}
theorem run_l {pins : List (Addr × Obj)} {σ : L2.St} {H : Hp} {s : Shared} {Q : VK} {f : Addr} {us : List Value} {vs : List V} (Fn : LOk X.prog X.w X.K X.mg X.base CX k F ps fr sp) (hr : Room j X.A) (hk : k ≤ j) (hx : Passes CX X E) (I : Inv X pins σ H s)
    (hf : H f = some (LamO f F)) (hc : H F.c = some (CodeO F.c F.qual)) (C : CellsAt F.cl fr ws s.heap H) (r : Vals vs us) (q : sp ws vs H Q E) :
    wpAny (model X.prog X.w) X.A (call (.ref f) us) (EP X pins σ Q) X.xe s := by
  refine wpAny_call (codeAny_mono (Fn.run f X.A X.stack s H us vs _ Q E (hr.mono hk) I.env0 hf hc C r q) fun r s' hq => ?_)
  cases r with
  | error e => exact hx pins σ H s e s' I hq
  | ok fl =>
    cases fl with
    | ret u => exact I.after hq
    | next => exact False.elim hq
    | brk => exact False.elim hq
    | cont => exact False.elim hq
theorem pe_callL (Fn : LOk X.prog X.w X.K X.mg X.base CX k F ps fr sp) (C : ∀ (pins : List (Addr × Obj)) (σ : L2.St) (H : Hp) (s : Shared), Inv X pins σ H s → CellsAt F.cl fr ws s.heap H) (hr : Room j X.A) (hk : k ≤ j) (hx : Passes CX X E) (hN : X.N[i]? = some x) (hv : Vis X.env.scope x) (ha : PA X (e :: es) t)
    (hd : (x == ("__debug__" : Str)) = false := by decide) (hcd : (x == ("__classdict__" : Str)) = false := by decide)
    (he : starEach (e :: es) X.env = (false, eval e X.env) :: starEach es X.env := by rfl) (hpl : (backTo pos (starEach es X.env)).any (·.1) = false := by rfl) :
    PE X (.Call (.Name x p) (e :: es) [] pos) (tCallL F i ws sp E t) := by
  refine ⟨fun pins s σ H Q I h => ?_⟩
  obtain ⟨f, hs, hf, ht⟩ := h
  refine wpAny_Call_Name_kw (thn ((pe_var (pos := p) hN hv hd hcd).run pins s σ H (fun v H1 => v = .ref f ∧ H1 = H) I ⟨.ref f, hs, rfl, rfl⟩) fun u s1 ⟨v, H1, I1, r1, q1⟩ => ?_)
  obtain ⟨ev, eH⟩ := q1
  subst ev
  rw [eH] at I1
  obtain rfl : u = Value.ref f := r1
  refine PySem.W.callWith_F (first := []) (lamAt_of I1 hf) (thn (ha.run pos pins s1 σ H _ I1 ht) fun us s2 ⟨vs, H2, I2, r, h1, h2, q⟩ => ⟨lamAt_of I2 h1, ?_⟩) he hpl
  show wpAny _ _ (call (.ref f) us) _ _ _
  exact run_l Fn hr hk hx I2 h1 h2 (C pins σ H2 s2 I2) r q
end
/-! ### defs that get a lambda -/
/-- the promise of a def that gets a lambda whose cells hold ws -/
structure FnV (P : Program) (w : World) (K : PySem.W.Frag) (mg : Str → Option Value) (base : Heap) (CX : CXT) (k : Nat) (f : Addr) (fd : FuncData) (ps : List Str) (sp : List (Str × Addr) → List Str → List (Option V) → Sp) : Prop where
  len : ∀ cl fr ws vs H Q E, sp cl fr ws vs H Q E → vs.length = ps.length
  run : ∀ (A : Around) (outer : List Env) (s : Shared) (H : Hp) (args : Args) (us : List Value) (vs : List V) (cl : List (Str × Addr)) (fr : List Str) (ws : List (Option V)) (Q : VK) (E : XK), Room k A → Env0 P w K mg base A outer s H → BindsTo s fd args (ps.zip us) → Vals vs us → CellsF cl fr ws outer s.heap H → sp cl fr ws vs H Q E →
    codeAny (model P w) A (.call (.ref f) args) (CR CX outer P w H s Q E) s
section
variable {CX : CXT} {P : Program} {w : World} {K : PySem.W.Frag} {mg : Str → Option Value} {base : Heap}
/-- THE RULE for a def that gets a lambda; its code object as its record has it -/
theorem Fun.okV {x qual : Str} {st : Stmt} {f : Addr} {fd : FuncData} {N ps : List Str} {k : Nat} {sp : List (Str × Addr) → List Str → List (Option V) → Sp} (F : Fun K x qual st f fd) (S : FnScope N ps (defScope st)) (len : ∀ cl fr ws vs H Q E, sp cl fr ws vs H Q E → vs.length = ps.length)
    (hbody : ∀ (A : Around) (outer : List Env) (s : Shared) (H : Hp) (vs : List V) (cl : List (Str × Addr)) (fr : List Str) (ws : List (Option V)) (Q : VK) (E : XK), Room k (A.deeper (envOfC qual (defScope st) s.heap.objs.size f fd.code)) → CellsF cl fr ws outer s.heap H → sp cl fr ws vs H Q E →
      ∃ t, PSs (cxOf CX P w K mg base N qual (defScope st) f fd.code A outer s H E) (defBody st) t ∧ t { nx := fun _ H' => Q .non H', rt := Q } (L2.start N vs) H) : FnV P w K mg base CX (k + 1) f fd ps sp := by
  obtain ⟨oc, od, kV, doc, pm, an, cdv, ct, osl, rfl, lk, hcd⟩ := F.ex
  exact ⟨len, fun A outer s H args us vs cl fr ws Q E hr e0 hb r C hsp => run_ofS (N := N) lk hcd S hr e0 hb r (len _ _ _ _ _ _ _ hsp) fun hr' => hbody A outer s H vs cl fr ws Q E hr' C hsp⟩
/-- the same, for defs that call the lambda in a comprehension: the cells stand in the base -/
theorem Fun.okW {x qual : Str} {st : Stmt} {f : Addr} {fd : FuncData} {N ps : List Str} {k : Nat} {sp : Heap → List (Str × Addr) → List Str → List (Option V) → Sp} (F : Fun K x qual st f fd) (S : FnScope N ps (defScope st)) (len : ∀ b cl fr ws vs H Q E, sp b cl fr ws vs H Q E → vs.length = ps.length)
    (hmono : ∀ b cl fr ws vs H Q E, sp base cl fr ws vs H Q E → (∀ a o, base.get? a = some o → b.get? a = some o) → Mod K mg b → sp b cl fr ws vs H Q E)
    (hbody : ∀ (b : Heap) (A : Around) (outer : List Env) (s : Shared) (H : Hp) (vs : List V) (cl : List (Str × Addr)) (fr : List Str) (ws : List (Option V)) (Q : VK) (E : XK), Mod K mg b → (∀ a o, base.get? a = some o → b.get? a = some o) → Room k (A.deeper (envOfC qual (defScope st) s.heap.objs.size f fd.code)) → CellsB cl fr ws b → CellsF cl fr ws outer s.heap H → sp b cl fr ws vs H Q E →
      ∃ t, PSs (cxOf CX P w K mg b N qual (defScope st) f fd.code A outer s H E) (defBody st) t ∧ t { nx := fun _ H' => Q .non H', rt := Q } (L2.start N vs) H) : FnV P w K mg base CX (k + 1) f fd ps (sp base) := by
  obtain ⟨oc, od, kV, doc, pm, an, cdv, ct, osl, rfl, lk, hcd⟩ := F.ex
  refine ⟨len _, fun A outer s H args us vs cl fr ws Q E hr e0 hb r C hsp => ?_⟩
  obtain ⟨e1, kb⟩ := env0_base e0
  exact run_ofS (N := N) lk hcd S hr e1 hb r (len _ _ _ _ _ _ _ _ hsp) fun hr' => hbody (baseOf s H outer) A outer s H vs cl fr ws Q E e1.mod kb hr' (cellsB_of C) C (hmono _ _ _ _ _ _ _ _ hsp kb e1.mod)
/-- the same for a def that makes lambdas -/
theorem Fun.okM {x qual : Str} {st : Stmt} {f : Addr} {fd : FuncData} {N ps : List Str} {k : Nat} {sp : Sp} (F : Fun K x qual st f fd) (S : FnScope N ps (defScope st)) (len : ∀ vs H Q E, sp vs H Q E → vs.length = ps.length)
    (hbody : ∀ (A : Around) (outer : List Env) (s : Shared) (H : Hp) (vs : List V) (Q : VK) (E : XK), Room k (A.deeper (envOfC qual (defScope st) s.heap.objs.size f fd.code)) → sp vs H Q E →
      ∃ t, PSs (cxOf CX P w K mg base N qual (defScope st) f fd.code A outer s H E) (defBody st) t ∧ t { nx := fun _ H' => Q .non H', rt := Q } (L2.start N vs) H) : FnOk P w K mg base CX (k + 1) f fd ps sp := by
  obtain ⟨oc, od, kV, doc, pm, an, cdv, ct, osl, rfl, lk, hcd⟩ := F.ex
  exact ⟨len, fun A outer s H args us vs Q E hr e0 hb r hsp => run_ofS (N := N) lk hcd S hr e0 hb r (len _ _ _ _ hsp) fun hr' => hbody A outer s H vs Q E hr' hsp⟩
end
/-- f(..), f a def that gets a lambda whose cells are cl -/
def tCallV (sp : List (Str × Addr) → List Str → List (Option V) → Sp) (cl : L2.St → List (Str × Addr)) (fr : List Str) (ws : L2.St → List (Option V)) (E : XK) (t : TA) : TE := fun σ H Q => t σ H fun vs H1 => sp (cl σ) fr (ws σ) vs H1 Q E
section
variable {X : Cx} {CX : CXT} {cl : L2.St → List (Str × Addr)} {ps fr : List Str} {ws : L2.St → List (Option V)} {k : Nat} {f : Addr} {fd : FuncData} {x : Str} {sp : List (Str × Addr) → List Str → List (Option V) → Sp} {E : XK} {t : TA} {e : Expr} {es : List Expr} {p pos : Pos}
theorem pe_callV (F : FnV X.prog X.w X.K X.mg X.base CX k f fd ps sp) (C : ∀ (pins : List (Addr × Obj)) (σ : L2.St) (H : Hp) (s : Shared), Inv X pins σ H s → CellsF (cl σ) fr (ws σ) X.stack s.heap H) (hr : Room k X.A) (hg : Gl X x) (hm : X.mg x = some (.ref f)) (hk : PySem.W.keepIn X.K (.ref f) = true) (hb : L2.Binds X.K fd ps []) (hx : Passes CX X E)
    (ha : PA X (e :: es) t) (hdb : (x == ("__debug__" : Str)) = false := by decide) (he : starEach (e :: es) X.env = (false, eval e X.env) :: starEach es X.env := by rfl) (hpl : (backTo pos (starEach es X.env)).any (·.1) = false := by rfl) :
    PE X (.Call (.Name x p) (e :: es) [] pos) (tCallV sp cl fr ws E t) := by
  refine ⟨fun pins s σ H Q I h => ?_⟩
  refine wpAny_Call_Name_kw (ld_glob I hg hm ?_ hdb)
  refine PySem.W.callWith_K (h₀ := X.base) I.ok.mod.kin hk (thn (ha.run pos pins s σ H _ I h) fun us s1 ⟨vs, H1, I1, r, q⟩ => ⟨I1.kIn, ?_⟩) he hpl
  have hb' : BindsTo s1 fd ⟨us, []⟩ (ps.zip us) := by
    have z := hb s1 us I1.kIn (by rw [List.append_nil, ← r.length]; exact F.len _ _ _ _ _ _ _ q)
    rw [List.append_nil] at z
    exact z
  refine wpAny_call (codeAny_mono (F.run X.A X.stack s1 H1 ⟨us, []⟩ us vs _ _ _ Q E hr I1.env0 hb' r (C pins σ H1 s1 I1) q) fun r s' hq => ?_)
  cases r with
  | error e => exact hx pins σ H1 s1 e s' I1 hq
  | ok fl =>
    cases fl with
    | ret u => exact I1.after hq
    | next => exact False.elim hq
    | brk => exact False.elim hq
    | cont => exact False.elim hq
end
end Sl
/-! ## D1 -/
set_option Elab.async false
set_option linter.all false
set_option maxRecDepth 100000
set_option maxHeartbeats 4000000
namespace Sl
open PySem PySem.Spec PyProof.Rows L2
def top (i : Nat) : Stmt := PySem.Challenge.pw_sealedslots_k23_whole_equal_and_within.main.body.getD i (.Pass ⟨0, 0, 0, 0⟩)
abbrev sDraw : Stmt := top 49
abbrev sRng : Stmt := top 48
abbrev sChoice : Stmt := top 50
/-! ### the draws -/
/-- what a drawing object looks like: its digits that are left, its state -/
structure Rng (H : Hp) (a : Addr) : Prop where
  ex : ∃ x y : Int, H a = some (.lst [.int x, .int y]) ∧ 0 ≤ x ∧ 0 ≤ y ∧ y < 2147483648
/-- all stands as it was but what is at a -/
def Keep (a : Addr) (H H' : Hp) : Prop := ∀ b o, H b = some o → b ≠ a → H' b = some o
theorem Keep.refl (a : Addr) (H : Hp) : Keep a H H := fun _ _ h _ => h
theorem Keep.trans {a : Addr} {H H1 H2 : Hp} (h : Keep a H H1) (h' : Keep a H1 H2) : Keep a H H2 := fun b o e n => h' b o (h b o e n) n
theorem Keep.new {a p : Addr} {H : Hp} {o : HO} (h : H p = none) : Keep a H (upd H p o) := fun b u e _ => by
  rw [upd_ne (ne_of_none e h)]
  exact e
theorem Keep.at_ {a : Addr} {H : Hp} {o : HO} : Keep a H (upd H a o) := fun b u e n => by
  rw [upd_ne n]
  exact e
/-- the draw's promise: a number below many -/
def spDraw : Sp := fun vs H Q _ => ∃ (a : Addr) (m : Int), vs = [.ref a, .int m] ∧ Rng H a ∧ 0 < m ∧ m < 1073741824 ∧
  ∀ (d : Int) (H' : Hp), 0 ≤ d → d < m → Rng H' a → Keep a H H' → Q (.int d) H'
section
variable {P : Program} {w : World} {K : PySem.W.Frag} {mg : Str → Option Value} {base : Heap}
theorem scDraw : FnScope ["_law_rng_here", "_law_many", "_law_digit"] ["_law_rng_here", "_law_many"] (defScope sDraw) := ⟨rfl, rfl, rfl, by decide +kernel, rfl, by decide +kernel, by decide +kernel⟩
theorem ok_draw {f : Addr} {fd : FuncData} (F : Fun K "_law_draw" "_law_draw" sDraw f fd) (zd : mg "divmod" = none) (zi : mg "int" = none) :
    FnOk P w K mg base CX0 1 f fd ["_law_rng_here", "_law_many"] spDraw := by
  refine F.ok scDraw (fun vs H Q E h => ?_) (fun cdv A outer s H vs Q E hr h => ?_)
  · obtain ⟨a, m, rfl, _⟩ := h
    rfl
  · obtain ⟨a, m, rfl, ⟨x, y, h0, hx, hy, hy2⟩, hm, hm2, k⟩ := h
    refine ⟨_, pss_cons (ps_if (pt_cmpR op_gt (pe_ix ix_list (pv 0) pe_int (fun _ _ => rfl)) pe_int (nomark _))
        (pss_cons (ps_asg (pe_callB call_divmodW (by rfl) zd (by decide +kernel) (pa_cons (pe_ix ix_list (pv 0) pe_int (fun _ _ => rfl)) (pa_cons (pv 1) pa_nil)))
          (pg_tup (by rfl) (pgs_cons (pg_sub (pv 0) pe_int set_list) (pgs_cons (pg_name (i := 2) scDraw.nd rfl (.inl rfl)) pgs_nil))))
          (pss_one (ps_ret (pv 2)))) pss_nil)
      (pss_cons (ps_asg (pe_op op_mod (pe_callTy call_int1 (by rfl) zi (by decide +kernel) (pa_cons (pe_op op_add (pe_op op_mul (pe_ix ix_list (pv 0) pe_int (fun _ _ => rfl)) pe_int) pe_int) pa_nil)) pe_int) (pg_sub (pv 0) pe_int set_list))
      (pss_one (ps_ret (pe_op op_mod (pe_op op_fdiv (pe_op op_mod (pe_callTy call_int1 (by rfl) zi (by decide +kernel) (pa_cons (pe_op op_mul (pe_ix ix_list (pv 0) pe_int (fun _ _ => rfl)) (pe_ix ix_list (pv 0) pe_int (fun _ _ => rfl))) pa_nil)) pe_int) pe_int) (pv 1))))), ?_⟩
    refine ⟨_, rfl, a, [.int x, .int y], _, .int x, rfl, rfl, SqL.of h0, atI_nat (j := 0) rfl, _, _, rfl, rfl, _, rfl, ?_⟩
    refine ite2 (fun c => ?_) (fun c => ?_)
    · refine ⟨_, rfl, a, [.int x, .int y], _, .int x, rfl, rfl, SqL.of h0, atI_nat (j := 0) rfl, _, rfl, _, _, rfl, ⟨hm, PyProof.noPylong_small (by omega)⟩, fun p hp => ?_⟩
      have npa : a ≠ p := ne_of_none h0 hp
      refine ⟨p, _, rfl, SqT.of upd_same, rfl, _, _, rfl, ?_⟩
      refine ⟨_, rfl, a, [.int x, .int y], _, 0, rfl, rfl, (by rw [upd_ne npa]; exact h0), rfl, ?_⟩
      refine ⟨_, _, rfl, rfl, _, rfl, ?_⟩
      refine k (x % m) _ (Int.emod_nonneg _ (by omega)) (Int.emod_lt_of_pos _ hm) ⟨x / m, y, upd_same, Int.ediv_nonneg hx (by omega), hy, hy2⟩ ((Keep.new hp).trans Keep.at_)
    · have hz : (0 : Int) < 2147483563 := by decide
      refine ⟨_, rfl, a, [.int x, .int y], _, .int y, rfl, rfl, SqL.of h0, atI_nat (j := 1) rfl, _, _, rfl, rfl, .inr ⟨by decide, by decide⟩, _, _, rfl, rfl, .inl ⟨_, rfl, ?_⟩⟩
      refine ⟨_, _, rfl, rfl, hz, _, rfl, a, _, _, 1, rfl, rfl, h0, rfl, ?_⟩
      obtain ⟨z, ez, b0, b1⟩ : ∃ z, z = (y * 39373 + 30011) % 2147483563 ∧ 0 ≤ z ∧ z < 2147483563 := ⟨_, rfl, Int.emod_nonneg _ (by decide), Int.emod_lt_of_pos _ hz⟩
      have h1 : upd H a (.lst [V.int x, V.int ((y * 39373 + 30011) % 2147483563)]) a = some (.lst [V.int x, V.int z]) := by
        rw [ez]
        exact upd_same
      refine ⟨_, rfl, a, [.int x, .int z], _, .int z, rfl, rfl, SqL.of h1, atI_nat (j := 1) rfl, _, rfl, a, [.int x, .int z], _, .int z, rfl, rfl, SqL.of h1, atI_nat (j := 1) rfl, _, _, rfl, rfl, .inl ⟨by omega, by omega⟩, .inl ⟨_, rfl, ?_⟩⟩
      refine ⟨_, _, rfl, rfl, (by show (0 : Int) < 2147483497; decide), _, _, rfl, rfl, ⟨by decide, by decide⟩, _, rfl, _, _, rfl, rfl, hm, ?_⟩
      exact k _ _ (Int.emod_nonneg _ (by omega)) (Int.emod_lt_of_pos _ hm) ⟨x, z, h1, hx, b0, by omega⟩ Keep.at_
end
end Sl
/-! ## P1 -/
set_option Elab.async false
set_option linter.all false
set_option maxRecDepth 100000
set_option maxHeartbeats 4000000
namespace Sl
open PySem PySem.Spec PyProof.Rows L2
abbrev sIsInt : Stmt := top 23
abbrev sBelow : Stmt := top 24
abbrev sHasLen : Stmt := top 27
/-! ### the kinds of values -/
inductive Kd
  | non | bl | int | str | lst | tup | dct
def Kd.nm : Kd → String
  | .non => "NoneType" | .bl => "bool" | .int => "int" | .str => "str" | .lst => "list" | .tup => "tuple" | .dct => "dict"
/-- the value's kind -/
def Is (K : PySem.W.Frag) (H : Hp) (x : V) (k : Kd) : Prop := TyX K H x (.type k.nm)
def Kd.num : Kd → Bool
  | .int => true
  | _ => false
def spIsInt (K : PySem.W.Frag) : Sp := fun vs H Q _ => ∃ (x : V) (k : Kd), vs = [x] ∧ Is K H x k ∧ Q (.bl k.num) H
section
variable {P : Program} {w : World} {K : PySem.W.Frag} {mg : Str → Option Value} {base : Heap}
theorem rel_ty (n : String) : RelV (.ty n) (.type n) := rfl
theorem scIsInt : FnScope ["value"] ["value"] (defScope sIsInt) := ⟨rfl, rfl, rfl, by decide +kernel, rfl, by decide +kernel, by decide +kernel⟩
theorem ok_isint {f : Addr} {fd : FuncData} (F : Fun K "is_integer" "is_integer" sIsInt f fd) (zz : mg "isinstance" = none) (zi : mg "int" = none) (zb : mg "bool" = none) : FnOk P w K mg base CX0 1 f fd ["value"] (spIsInt K) := by
  refine F.ok scIsInt (fun vs H Q E h => ?_) (fun cdv A outer s H vs Q E hr h => ?_)
  · obtain ⟨x, k, rfl, _⟩ := h
    rfl
  · obtain ⟨x, k, rfl, hk, q⟩ := h
    refine ⟨_, pss_one (ps_ret (pe_and (pe_callB call_isi (by rfl) zz (by decide +kernel) (pa_cons (pv 0) (pa_cons (pe_bltn (by rfl) zi (by decide +kernel) (rel_ty "int")) pa_nil)))
      (pe_one (pe_not (pe_callB call_isi (by rfl) zz (by decide +kernel) (pa_cons (pv 0) (pa_cons (pe_bltn (by rfl) zb (by decide +kernel) (rel_ty "bool")) pa_nil))))))), ?_⟩
    cases k with
    | int => exact ⟨_, rfl, _, _, _, _, true, rfl, .ty _, hk, kit_ty (by decide +kernel), true, rfl, _, rfl, _, _, _, _, false, rfl, .ty _, hk, kit_ty (by decide +kernel), _, rfl, q⟩
    | bl => exact ⟨_, rfl, _, _, _, _, true, rfl, .ty _, hk, kit_ty (by decide +kernel), true, rfl, _, rfl, _, _, _, _, true, rfl, .ty _, hk, kit_ty (by decide +kernel), _, rfl, q⟩
    | _ => exact ⟨_, rfl, _, _, _, _, false, rfl, .ty _, hk, kit_ty (by decide +kernel), false, rfl, q⟩
end
end Sl
/-! ## P2 -/
set_option Elab.async false
set_option linter.all false
set_option maxRecDepth 100000
set_option maxHeartbeats 4000000
namespace Sl
open PySem PySem.Spec PyProof.Rows L2
/-- a def stands at its name: its parameters, its defaults -/
structure At (K : PySem.W.Frag) (mg : Str → Option Value) (x : Str) (f : Addr) (fd : FuncData) (ps : List Str) (ds : List Value) : Prop where
  g : mg x = some (.ref f)
  kp : PySem.W.keepIn K (.ref f) = true
  b : Binds K fd ps ds
def below (x : V) (n : Int) : Bool := match x with
  | .int i => decide (0 ≤ i) && decide (i < n)
  | _ => false
/-- a value of a kind: ints are the V's ints -/
def Val (K : PySem.W.Frag) (H : Hp) (x : V) : Prop := (∃ i, x = .int i) ∨ ((∀ i, x ≠ .int i) ∧ ∃ k : Kd, k.num = false ∧ Is K H x k)
theorem Val.kd {K : PySem.W.Frag} {H : Hp} {x : V} (h : Val K H x) : ∃ k, Is K H x k := by
  rcases h with ⟨i, rfl⟩ | ⟨_, k, _, e⟩
  · exact ⟨.int, .base (.int i)⟩
  · exact ⟨k, e⟩
def spBelow (K : PySem.W.Frag) : Sp := fun vs H Q _ => ∃ (x : V) (n : Int), vs = [x, .int n] ∧ Val K H x ∧ Q (.bl (below x n)) H
def spHasLen (K : PySem.W.Frag) : Sp := fun vs H Q _ => ∃ (a : Addr) (xs : List V) (m n : Int), vs = [.ref a, .int m, .int n] ∧ (H a = some (.lst xs) ∨ H a = some (.tup xs)) ∧
  ∀ H', (∀ b o, H b = some o → H' b = some o) → Q (.bl (decide (m ≤ xs.length) && decide ((xs.length : Int) ≤ n))) H'
section
variable {P : Program} {w : World} {K : PySem.W.Frag} {mg : Str → Option Value} {base : Heap}
theorem scBelow : FnScope ["value", "limit"] ["value", "limit"] (defScope sBelow) := ⟨rfl, rfl, rfl, by decide +kernel, rfl, by decide +kernel, by decide +kernel⟩
theorem ok_below {f fI : Addr} {fd fdI : FuncData} (F : Fun K "is_below" "is_below" sBelow f fd) (aI : At K mg "is_integer" fI fdI ["value"] []) (gI : FnOk P w K mg base CX0 1 fI fdI ["value"] (spIsInt K)) :
    FnOk P w K mg base CX0 2 f fd ["value", "limit"] (spBelow K) := by
  refine F.ok scBelow (fun vs H Q E h => ?_) (fun cdv A outer s H vs Q E hr h => ?_)
  · obtain ⟨x, n, rfl, _⟩ := h
    rfl
  · obtain ⟨x, n, rfl, hk, q⟩ := h
    refine ⟨_, pss_one (ps_ret (pe_and (pe_call gI hr (by rfl) aI.g aI.kp aI.b .nil pass0 (pa_cons (pv 0) pa_nil)) (pe_one (pe_chain op_le op_lt pe_int (pv 0) (pv 1))))), ?_⟩
    rcases hk with ⟨i, rfl⟩ | ⟨hn, k, ek, ik⟩
    · refine ⟨_, rfl, _, .int, rfl, .base (.int i), true, rfl, ?_⟩
      refine ⟨_, rfl, _, _, rfl, rfl, _, rfl, ?_⟩
      have e : below (.int i) n = (decide (0 ≤ i) && decide (i < n)) := rfl
      rw [e] at q
      by_cases c : 0 ≤ i
      · simp only [c, decide_true, Bool.true_and, if_true] at q ⊢
        exact ⟨_, rfl, _, _, rfl, rfl, q⟩
      · simp only [c, decide_false, Bool.false_and, Bool.false_eq_true, if_false] at q ⊢
        exact q
    · refine ⟨_, rfl, _, k, rfl, ik, false, by rw [ek], ?_⟩
      have e : below x n = false := by
        cases x with
        | int i => exact absurd rfl (hn i)
        | _ => rfl
      rw [e] at q
      exact q
theorem scHasLen : FnScope ["value", "least", "most"] ["value", "least", "most"] (defScope sHasLen) := ⟨rfl, rfl, rfl, by decide +kernel, rfl, by decide +kernel, by decide +kernel⟩
theorem ok_haslen {f : Addr} {fd : FuncData} (F : Fun K "has_length" "has_length" sHasLen f fd) (zz : mg "isinstance" = none) (zl : mg "list" = none) (zt : mg "tuple" = none) (zn : mg "len" = none) :
    FnOk P w K mg base CX0 1 f fd ["value", "least", "most"] (spHasLen K) := by
  refine F.ok scHasLen (fun vs H Q E h => ?_) (fun cdv A outer s H vs Q E hr h => ?_)
  · obtain ⟨a, xs, m, n, rfl, _⟩ := h
    rfl
  · obtain ⟨a, xs, m, n, rfl, ha, q⟩ := h
    refine ⟨_, pss_one (ps_ret (pe_and (pe_callB call_isiT (by rfl) zz (by decide +kernel) (pa_cons (pv 0) (pa_cons (pe_tup (pa_cons (pe_bltn (by rfl) zl (by decide +kernel) (rel_ty "list")) (pa_cons (pe_bltn (by rfl) zt (by decide +kernel) (rel_ty "tuple")) pa_nil))) pa_nil)))
      (pe_one (pe_chain op_le op_le (pv 1) (pe_callB call_len_seq (by rfl) zn PySem.boot_len (pa_cons (pv 0) pa_nil)) (pv 2))))), ?_⟩
    refine ⟨_, rfl, (by show 2 ≤ sizeLine; decide), fun p hp => ?_⟩
    have npa : ∀ o, H a = some o → a ≠ p := fun o e => ne_of_none e hp
    have same : ∀ b o, H b = some o → upd H p (.tup [.ty "list", .ty "tuple"]) b = some o := fun b o e => by
      rw [upd_ne (ne_of_none e hp)]
      exact e
    obtain ⟨t, hb, it, hs⟩ : ∃ t : Kd, PySem.W.kitAny K (.type t.nm) [.type "list", .type "tuple"] = some true ∧ Is K (upd H p (.tup [.ty "list", .ty "tuple"])) (.ref a) t ∧ (SqL K (upd H p (.tup [.ty "list", .ty "tuple"])) a xs ∨ SqT K (upd H p (.tup [.ty "list", .ty "tuple"])) a xs) := by
      rcases ha with ha | ha
      · exact ⟨.lst, by first | rfl | decide +kernel, .base (.lst (same _ _ ha)), .inl (SqL.of (same _ _ ha))⟩
      · exact ⟨.tup, by first | rfl | decide +kernel, .base (.tup (same _ _ ha)), .inr (SqT.of (same _ _ ha))⟩
    refine ⟨_, p, _, _, _, true, rfl, upd_same, .cons (.ty _) (.cons (.ty _) .nil), it, hb, true, rfl, _, rfl, _, rfl, _, _, rfl, hs, _, _, rfl, rfl, _, rfl, ?_⟩
    have q' := q _ same
    by_cases c : m ≤ xs.length
    · simp only [c, decide_true, Bool.true_and, if_true] at q' ⊢
      exact ⟨_, rfl, _, _, rfl, rfl, q'⟩
    · simp only [c, decide_false, Bool.false_and, Bool.false_eq_true, if_false] at q' ⊢
      exact q'
end
end Sl
/-! ## P3 -/
set_option Elab.async false
set_option linter.all false
set_option maxRecDepth 100000
set_option maxHeartbeats 4000000
namespace Sl
open PySem PySem.Spec PyProof.Rows L2
abbrev sAreStates : Stmt := top 26
abbrev sIsWord : Stmt := top 29
/-- states of something with so many: a list of different numbers below it -/
def spAreStates : Sp := fun vs H Q _ => ∃ (a : Addr) (ns : List Int) (n : Int), vs = [.ref a, .int n] ∧ H a = some (.lst (ns.map V.int)) ∧ ns.length < 64 ∧ ns.Nodup ∧ (∀ i ∈ ns, 0 ≤ i ∧ i < n) ∧
  ∀ H', (∀ b o, H b = some o → H' b = some o) → Q (.bl true) H'
theorem at_map {α : Type} {f : α → V} {l : List α} {i : Nat} {x : V} (h : (l.map f)[i]? = some x) : ∃ z, l[i]? = some z ∧ x = f z := by
  rw [List.getElem?_map] at h
  cases e : l[i]? with
  | none => rw [e] at h; cases h
  | some z => rw [e] at h; exact ⟨z, rfl, (Option.some.inj h).symm⟩
theorem take_more {α : Type} {l : List α} {i : Nat} {x : α} (h : l[i]? = some x) : l.take (i + 1) = l.take i ++ [x] := by rw [List.take_add_one, h]; rfl
theorem one_lt (c d : Nat) : (!decide ([c] < [d])) = decide (d ≤ c) := by
  by_cases h : d ≤ c
  · have n : ¬ [c] < [d] := by
      rw [List.cons_lt_cons_iff]
      rintro (k | ⟨_, k⟩)
      · omega
      · exact absurd k (by simp)
    rw [decide_eq_true h, decide_eq_false n]
    rfl
  · have n : [c] < [d] := by
      rw [List.cons_lt_cons_iff]
      exact .inl (by omega)
    rw [decide_eq_false h, decide_eq_true n]
    rfl
theorem cmp_a (c : Nat) : (!decide ((⟨#[c]⟩ : Str).cps.toList < ("a" : Str).cps.toList)) = decide (97 ≤ c) := one_lt c 97
theorem cmp_z (c : Nat) : (!decide (("z" : Str).cps.toList < (⟨#[c]⟩ : Str).cps.toList)) = decide (c ≤ 122) := one_lt 122 c
/-- the code points of a to z -/
def lowC (c : Nat) : Bool := decide (97 ≤ c) && decide (c ≤ 122)
def isWordS (z : Str) : Bool := z.cps.toList.all lowC
/-- a text is judged by its signs, any other value is none -/
def spIsWord (K : PySem.W.Frag) : Sp := fun vs H Q _ => ∃ x, vs = [x] ∧ ((∃ z : Str, x = .str z ∧ z.length ≤ 10000 ∧ ∀ H', (∀ b o, H b = some o → H' b = some o) → Q (.bl (isWordS z)) H') ∨ (∃ k : Kd, Is K H x k ∧ k ≠ .str ∧ Q (.bl false) H))
section
variable {P : Program} {w : World} {K : PySem.W.Frag} {mg : Str → Option Value} {base : Heap}
theorem scAreStates : FnScope ["value", "many", "state"] ["value", "many"] (defScope sAreStates) := ⟨rfl, rfl, rfl, by decide +kernel, rfl, by decide +kernel, by decide +kernel⟩
theorem ok_arestates {f fB : Addr} {fd fdB : FuncData} (F : Fun K "are_states" "are_states" sAreStates f fd) (aB : At K mg "is_below" fB fdB ["value", "limit"] []) (gB : FnOk P w K mg base CX0 2 fB fdB ["value", "limit"] (spBelow K))
    (zz : mg "isinstance" = none) (zl : mg "list" = none) (zt : mg "tuple" = none) (zn : mg "len" = none) (za : mg "all" = none) (zs : mg "set" = none) :
    FnOk P w K mg base CX0 3 f fd ["value", "many"] spAreStates := by
  refine F.ok scAreStates (fun vs H Q E h => ?_) (fun cdv A outer s H vs Q E hr h => ?_)
  · obtain ⟨a, ns, n, rfl, _⟩ := h
    rfl
  · obtain ⟨a, ns, n, rfl, ha, hl, nd, hns, q⟩ := h
    refine ⟨_, pss_cons (ps_if (pt_not (pt_val (pe_callB call_isiT (by rfl) zz (by decide +kernel) (pa_cons (pv 0) (pa_cons (pe_tup (pa_cons (pe_bltn (by rfl) zl (by decide +kernel) (rel_ty "list")) (pa_cons (pe_bltn (by rfl) zt (by decide +kernel) (rel_ty "tuple")) pa_nil))) pa_nil))))) (pss_one (ps_ret pe_bl)) pss_nil)
      (pss_cons (ps_if (pt_not (pt_val (pe_callB (cr_all rfl) (by rfl) za (by decide +kernel) (pa_cons (pe_lc (own := [("state", 2)]) (g := gName 2) (tt := tYes) rfl scAreStates.nd (pi_list (pv 0)) (blkOk_by (N := ["value", "many", "state"]) (sc := defScope sAreStates) (by decide +kernel))
          (fun _ _ _ _ _ => pg_name (i := 2) scAreStates.nd rfl (Or.inl rfl)) (fun _ _ _ _ _ => pts_nil) (fun _ _ _ _ _ => pe_call gB hr (by rfl) aB.g aB.kp aB.b .nil pass0 (pa_cons (pv 2) (pa_cons (pv 1) pa_nil)))) pa_nil)))) (pss_one (ps_ret pe_bl)) pss_nil)
      (pss_one (ps_ret (pe_cmpR op_eq (RZ.pe_lenSetI (by rfl) zn (by rfl) zs (pv 0)) (pe_callB call_len_seq (by rfl) zn PySem.boot_len (pa_cons (pv 0) pa_nil)) (nomark _))))), ?_⟩
    refine ⟨_, rfl, (by show 2 ≤ sizeLine; decide), fun p hp => ?_⟩
    have same : ∀ b o, H b = some o → upd H p (.tup [.ty "list", .ty "tuple"]) b = some o := fun b o e => by
      rw [upd_ne (ne_of_none e hp)]
      exact e
    refine ⟨_, p, _, .type "list", _, true, rfl, upd_same, .cons (.ty _) (.cons (.ty _) .nil), .base (.lst (same _ _ ha)), (by first | rfl | decide +kernel), true, rfl, ?_⟩
    refine iteF ?_
    generalize upd H p (.tup [.ty "list", .ty "tuple"]) = H1 at same
    refine ⟨_, rfl, a, rfl, ⟨_, SqL.of (same _ _ ha)⟩, fun D hD => ?_⟩
    have naD : ∀ b o, H b = some o → b ≠ D := fun b o e => ne_of_none (same b o e) hD
    refine lc_list (K := K) (a := a) (xs := ns.map V.int) (fun i H' => (∀ b o, H b = some o → H' b = some o) ∧ H' D = some (.lst ((List.replicate i true).map V.bl))) ⟨fun b o e => by rw [upd_ne (naD b o e)]; exact same b o e, upd_same⟩ (fun i H' _ h => SqL.of (h.1 _ _ ha)) ?_ ?_
    · rintro i x H' hi ⟨h1, h2⟩
      obtain ⟨z, hz, rfl⟩ := at_map hi
      have hil : i < ns.length := (List.getElem?_eq_some_iff.mp hz).1
      have hb := hns z (List.mem_of_getElem? hz)
      refine ⟨rfl, ?_⟩
      refine ⟨_, rfl, _, rfl, .int z, n, rfl, .inl ⟨z, rfl⟩, ?_⟩
      have e : below (.int z) n = true := by
        unfold below
        simp [hb.1, hb.2]
      rw [e]
      refine ⟨_, h2, by rw [List.length_map, List.length_replicate]; exact small1000 (by omega), fun b o e => by rw [upd_ne (naD b o e)]; exact h1 b o e, ?_⟩
      rw [upd_same, List.replicate_succ', List.map_append]
      rfl
    · rintro H' ⟨h1, h2⟩
      refine ⟨D, List.replicate (ns.map V.int).length true, rfl, SqL.of h2, true, by simp, ?_⟩
      refine iteF ?_
      refine ⟨_, rfl, a, ns, rfl, SqL.of (h1 _ _ ha), nd, (by omega), _, rfl, a, _, rfl, .inl (SqL.of (h1 _ _ ha)), ?_⟩
      have e : decide (V.int (ns.length : Nat) = V.int ((ns.map V.int).length : Nat)) = true := by
        rw [List.length_map]
        simp
      have q' := q _ h1
      rw [← e] at q'
      exact ⟨rfl, q'⟩
theorem scIsWord : FnScope ["value", "sign"] ["value"] (defScope sIsWord) := ⟨rfl, rfl, rfl, by decide +kernel, rfl, by decide +kernel, by decide +kernel⟩
theorem ok_isword {f : Addr} {fd : FuncData} (F : Fun K "is_word" "is_word" sIsWord f fd) (zz : mg "isinstance" = none) (zs : mg "str" = none) (za : mg "all" = none) :
    FnOk P w K mg base CX0 1 f fd ["value"] (spIsWord K) := by
  refine F.ok scIsWord (fun vs H Q E h => ?_) (fun cdv A outer s H vs Q E hr h => ?_)
  · obtain ⟨x, rfl, _⟩ := h
    rfl
  · obtain ⟨x, rfl, hx⟩ := h
    refine ⟨_, pss_one (ps_ret (pe_and (pe_callB call_isi (by rfl) zz (by decide +kernel) (pa_cons (pv 0) (pa_cons (pe_bltn (by rfl) zs (by decide +kernel) (rel_ty "str")) pa_nil)))
      (pe_one (pe_callB (cr_all rfl) (by rfl) za (by decide +kernel) (pa_cons (pe_lc (own := [("sign", 1)]) (g := gName 1) (tt := tYes) rfl scIsWord.nd (pi_str (pv 0)) (blkOk_by (N := ["value", "sign"]) (sc := defScope sIsWord) (by decide +kernel))
          (fun _ _ _ _ _ => pg_name (i := 1) scIsWord.nd rfl (Or.inl rfl)) (fun _ _ _ _ _ => pts_nil) (fun _ _ _ _ _ => pe_chain op_le_str op_le_str pe_str (pv 1) pe_str)) pa_nil))))), ?_⟩
    rcases hx with ⟨z, rfl, hz, q⟩ | ⟨k, ik, nk, q⟩
    · refine ⟨_, rfl, _, _, _, _, true, rfl, .ty _, .base (.str z), kit_ty (by decide +kernel), true, rfl, ?_⟩
      refine ⟨_, rfl, z, rfl, fun D hD => ?_⟩
      have zl : z.cps.size ≤ 10000 := hz
      refine lc_it walk_str (fun i H' => (∀ b o, H b = some o → H' b = some o) ∧ H' D = some (.lst ((z.cps.toList.take i).map fun c => V.bl (lowC c)))) ⟨fun b o e => by rw [upd_ne (ne_of_none e hD)]; exact e, upd_same⟩ (fun _ _ _ _ => trivial) ?_ ?_
      · rintro i x H1 H' hi ⟨h1, h2⟩ ⟨rfl, c, hc, rfl⟩
        refine ⟨rfl, _, rfl, _, _, rfl, rfl, _, rfl, ?_⟩
        have put : ∃ acc, H' D = some (.lst acc) ∧ acc.length < sizeLine ∧ ((∀ b o, H b = some o → (upd H' D (.lst (acc ++ [.bl (lowC c)]))) b = some o) ∧ (upd H' D (.lst (acc ++ [.bl (lowC c)]))) D = some (.lst ((z.cps.toList.take (i + 1)).map fun c => V.bl (lowC c)))) := by
          refine ⟨_, h2, ?_, fun b o e => by rw [upd_ne (ne_of_none e hD)]; exact h1 b o e, ?_⟩
          · rw [List.length_map, List.length_take, Array.length_toList, sizeLine_eq]
            omega
          · have hc' : z.cps.toList[i]? = some c := by
              rw [Array.getElem?_toList]
              exact hc
            rw [upd_same, take_more hc', List.map_append]
            rfl
        rw [cmp_a c]
        by_cases c1 : 97 ≤ c
        · rw [if_pos (decide_eq_true c1)]
          refine ⟨_, _, rfl, rfl, ?_⟩
          rw [cmp_z c]
          have e : decide (c ≤ 122) = lowC c := by
            unfold lowC
            rw [decide_eq_true c1, Bool.true_and]
          rw [e]
          exact put
        · rw [if_neg (by rw [decide_eq_false c1]; exact Bool.false_ne_true)]
          have e : false = lowC c := by
            unfold lowC
            rw [decide_eq_false c1, Bool.false_and]
          rw [e]
          exact put
      · rintro H' ⟨h1, h2⟩
        have e : List.take z.cps.size z.cps.toList = z.cps.toList := by
          rw [← Array.length_toList, List.take_length]
        rw [e] at h2
        refine ⟨D, z.cps.toList.map lowC, rfl, SqL.of (by rw [List.map_map]; exact h2), ?_⟩
        have e2 : (z.cps.toList.map lowC).all id = isWordS z := by
          unfold isWordS
          rw [List.all_map]
          rfl
        rw [e2]
        exact q _ h1
    · have e : PySem.W.kitOne K (.type k.nm) (.type "str") = some false := by
        cases k with
        | str => exact absurd rfl nk
        | _ => exact kit_ty (by decide +kernel)
      exact ⟨_, rfl, _, _, _, _, false, rfl, .ty _, ik, e, false, rfl, q⟩
end
end Sl
/-! ## P4 -/
set_option Elab.async false
set_option linter.all false
set_option maxRecDepth 100000
set_option maxHeartbeats 4000000
namespace Sl
open PySem PySem.Spec PyProof.Rows L2
/-- what stood stands -/
abbrev Ext (H H' : Hp) : Prop := ∀ b o, H b = some o → H' b = some o
theorem Ext.refl (H : Hp) : Ext H H := fun _ _ h => h
theorem Ext.trans {H H1 H2 : Hp} (h : Ext H H1) (h' : Ext H1 H2) : Ext H H2 := fun b o e => h' b o (h b o e)
theorem Ext.new {H : Hp} {p : Addr} {o : HO} (h : H p = none) : Ext H (upd H p o) := fun b u e => by
  rw [upd_ne (ne_of_none e h)]
  exact e
theorem Ext.free {H H' : Hp} {p : Addr} (h : Ext H H') (n : H' p = none) : H p = none := by
  cases e : H p with
  | none => rfl
  | some o =>
    rw [h p o e] at n
    cases n
def nameS (z : Str) : Bool := isWordS z && (decide (1 ≤ z.length) && decide (z.length ≤ 8))
def signS (z : Str) : Bool := isWordS z && decide (z.length = 1)
def markS (z : Str) : Bool := nameS z && decide (1 < z.length)
theorem small_size {n : Nat} (h : n ≤ 10000) : n ≤ sizeLine := by
  rw [sizeLine_eq]
  omega
/-- a test of a text -/
def spText (t : Str → Bool) : Sp := fun vs H Q _ => ∃ z : Str, vs = [.str z] ∧ z.length ≤ 10000 ∧ ∀ H', Ext H H' → Q (.bl (t z)) H'
end Sl
/-! ## V2 -/
set_option Elab.async false
set_option linter.all false
set_option maxRecDepth 100000
set_option maxHeartbeats 4000000
set_option pp.maxSteps 1500
set_option pp.deepTerms false
/-! explored, reached: all nodes to which a lambda leads -/
namespace Sl
open PySem PySem.Spec PyProof.Rows L2 LamX NdefX
abbrev sExplored : Stmt := top 9
abbrev sReached : Stmt := top 10
/-! ### the mathematics -/
abbrev Gr := Nat → List (Str × Nat)
def addNew (q : List Nat) (l : List (Str × Nat)) : List Nat := l.foldl (fun q e => if e.2 ∈ q then q else q ++ [e.2]) q
def bfs (g : Gr) : Nat → List Nat → Nat → List Nat
  | 0, q, _ => q
  | n + 1, q, i => match q[i]? with
    | none => q
    | some x => bfs g n (addNew q (g x)) (i + 1)
def reachedL (g : Gr) (N first : Nat) : List Nat := bfs g (N + 1) [first] 0
theorem addNew_nil (q : List Nat) : addNew q [] = q := rfl
theorem addNew_cons (q : List Nat) (e : Str × Nat) (l : List (Str × Nat)) : addNew q (e :: l) = addNew (if e.2 ∈ q then q else q ++ [e.2]) l := rfl
theorem addNew_append (q : List Nat) (l m : List (Str × Nat)) : addNew q (l ++ m) = addNew (addNew q l) m := List.foldl_append
theorem addNew_one (q : List Nat) (e : Str × Nat) : addNew q [e] = if e.2 ∈ q then q else q ++ [e.2] := rfl
theorem addNew_ok {N : Nat} : ∀ {l : List (Str × Nat)} {q : List Nat}, q.Nodup → (∀ x ∈ q, x < N) → (∀ e ∈ l, e.2 < N) → (addNew q l).Nodup ∧ (∀ x ∈ addNew q l, x < N) ∧ q.length ≤ (addNew q l).length
  | [], q, nd, h, _ => ⟨nd, h, Nat.le_refl _⟩
  | e :: l, q, nd, h, hl => by
    rw [addNew_cons]
    have hl' := fun e' he => hl e' (List.mem_cons_of_mem _ he)
    by_cases c : e.2 ∈ q
    · rw [if_pos c]
      exact addNew_ok nd h hl'
    · rw [if_neg c]
      have k := addNew_ok (N := N) (l := l) (q := q ++ [e.2]) (List.nodup_append.mpr ⟨nd, by simp, fun a ha b hb z => c (by rw [List.mem_singleton.mp hb] at z; rw [← z]; exact ha)⟩) (fun x hx => by
        rcases List.mem_append.mp hx with hx | hx
        · exact h x hx
        · rw [List.mem_singleton.mp hx]
          exact hl e List.mem_cons_self) hl'
      refine ⟨k.1, k.2.1, ?_⟩
      have := k.2.2
      rw [List.length_append] at this
      omega
theorem nodup_len : ∀ {N : Nat} {q : List Nat}, q.Nodup → (∀ x ∈ q, x < N) → q.length ≤ N
  | N, q, nd, h => by
    have := (List.nodup_range (n := N)).length_le_of_subset (l₂ := q)
    have k : q.length ≤ (List.range N).length := by
      refine List.Nodup.length_le_of_subset nd fun x hx => List.mem_range.mpr (h x hx)
    rwa [List.length_range] at k
theorem bfs_end {g : Gr} {n i : Nat} {q : List Nat} (h : q.length ≤ i) : bfs g n q i = q := by
  cases n with
  | zero => rfl
  | succ n =>
    unfold bfs
    rw [List.getElem?_eq_none h]
theorem bfs_step {g : Gr} {n i x : Nat} {q : List Nat} (h : q[i]? = some x) : bfs g (n + 1) q i = bfs g n (addNew q (g x)) (i + 1) := by
  rw [bfs, h]
/-! ### what is told of leads -/
inductive LeadsAt (H : Hp) : List Addr → List (Str × Nat) → Prop
  | nil : LeadsAt H [] []
  | cons {t : Addr} {z : Str} {n : Nat} {ts : List Addr} {l : List (Str × Nat)} : H t = some (.tup [.str z, .int n]) → LeadsAt H ts l → LeadsAt H (t :: ts) ((z, n) :: l)
theorem LeadsAt.ext {H H' : Hp} (x : ∀ t xs, H t = some (.tup xs) → H' t = some (.tup xs)) : ∀ {ts : List Addr} {l : List (Str × Nat)}, LeadsAt H ts l → LeadsAt H' ts l
  | _, _, .nil => .nil
  | _, _, .cons a h => .cons (x _ _ a) (h.ext x)
theorem LeadsAt.len {H : Hp} : ∀ {ts : List Addr} {l : List (Str × Nat)}, LeadsAt H ts l → ts.length = l.length
  | _, _, .nil => rfl
  | _, _, .cons _ h => congrArg (· + 1) h.len
theorem LeadsAt.at_ {H : Hp} : ∀ {ts : List Addr} {l : List (Str × Nat)} {i : Nat} {t : Addr}, LeadsAt H ts l → ts[i]? = some t → ∃ e, l[i]? = some e ∧ H t = some (.tup [.str e.1, .int e.2])
  | _, _, i, _, .nil, e => by
    cases i <;> cases e
  | _, _, 0, _, .cons a _, e => by
    cases e
    exact ⟨_, rfl, a⟩
  | _, _, i + 1, _, .cons _ h, e => h.at_ (i := i) e
theorem LeadsAt.snoc {H : Hp} {t : Addr} {z : Str} {n : Nat} (a : H t = some (.tup [.str z, .int n])) : ∀ {ts : List Addr} {l : List (Str × Nat)}, LeadsAt H ts l → LeadsAt H (ts ++ [t]) (l ++ [(z, n)])
  | _, _, .nil => .cons a .nil
  | _, _, .cons b h => .cons b (h.snoc a)
/-- leads of a node, wherever G holds -/
def spLeads (G : Hp → Prop) (g : Gr) (N : Nat) : List V → Hp → VK → Prop := fun vs H Q => ∃ n : Nat, vs = [.int n] ∧ n < N ∧ G H ∧ ∀ (H' : Hp) (p : Addr) (ts : List Addr), Ext H H' → H p = none → H' p = some (.lst (ts.map V.ref)) → LeadsAt H' ts (g n) → Q (.ref p) H'
def spNo : List (Option V) → Sp := fun _ vs H Q _ => ∃ x, vs = [x] ∧ Q (.bl false) H
/-- a graph within bounds -/
structure GrOk (G : Hp → Prop) (g : Gr) (N : Nat) : Prop where
  st : ∀ H H', ExtN H H' → G H → G H'
  n : N ≤ 100
  lt : ∀ n, n < N → ∀ e ∈ g n, e.2 < N
  le : ∀ n, (g n).length ≤ 100
/-- a lambda that tells leads -/
structure LeadL (P : Program) (w : World) (K : PySem.W.Frag) (mg : Str → Option Value) (base : Heap) (k : Nat) (G : Hp → Prop) (g : Gr) (N : Nat) (F : LF) (fr : List Str) (ws : List (Option V)) : Prop where
  ok : ∃ y sp, LOk P w K mg base CX0 k F [y] fr sp ∧ ∀ vs H Q E, spLeads G g N vs H Q → sp ws vs H Q E
def keyI (n : Nat) : Key := Sum.inl (n : Int)
def spExplored (P : Program) (w : World) (K : PySem.W.Frag) (mg : Str → Option Value) (base : Heap) (k : Nat) : List (Str × Addr) → List Str → List (Option V) → Sp := fun cl fr ws vs H Q _ => ∃ (f f2 : Addr) (F F2 : LF) (y2 : Str) (first N : Nat) (G : Hp → Prop) (g : Gr), vs = [.int first, .ref f, .ref f2] ∧
  H f = some (LamO f F) ∧ H F.c = some (CodeO F.c F.qual) ∧ F.cl = cl ∧ LeadL P w K mg base k G g N F fr ws ∧ H f2 = some (LamO f2 F2) ∧ H F2.c = some (CodeO F2.c F2.qual) ∧ F2.cl = [] ∧ LOk P w K mg base CX0 k F2 [y2] [] spNo ∧ G H ∧ GrOk G g N ∧ first < N ∧
  ∀ (H' : Hp) (t b : Addr) (kvs : List (Key × V)), Ext H H' → H t = none → H' t = some (.tup [.ref b, .non]) → H b = none → H' b = some (.dK kvs) → kvs.map (·.1) = (reachedL g N first).map keyI → Q (.ref t) H'
/-- where the search stands -/
def ExpW (H : Hp) (fl f2 b q : Addr) (first N : Nat) (g : Gr) : Nat → L2.St → Hp → Prop := fun m σ H' => ∃ (v6 v7 v8 : Option V) (i : Nat) (Lq : List Nat) (kvs : List (Key × V)), m = N + 1 - i ∧
  σ = [some (.int first), some (.ref fl), some (.ref f2), some (.ref b), some (.ref q), some (.int i), v6, v7, v8] ∧ Ext H H' ∧ H' q = some (.lst (Lq.map fun n => V.int (n : Nat))) ∧ H' b = some (.dK kvs) ∧ kvs.map (·.1) = Lq.map keyI ∧
  Lq.Nodup ∧ (∀ x ∈ Lq, x < N) ∧ i ≤ Lq.length ∧ bfs g (N + 1 - i) Lq i = reachedL g N first
theorem keyI_mem {a : Nat} {l : List Nat} : keyI a ∈ l.map keyI ↔ a ∈ l := by
  constructor
  · intro h
    obtain ⟨x, hx, e⟩ := List.mem_map.mp h
    unfold keyI at e
    injection e with e
    have : x = a := by omega
    rw [← this]
    exact hx
  · exact fun h => List.mem_map.mpr ⟨a, h, rfl⟩
theorem val_key {kvs : List (Key × V)} {l : List Nat} (h : kvs.map (·.1) = l.map keyI) (a : Nat) : (valV kvs (keyI a)).isSome = decide (a ∈ l) := by
  cases e : valV kvs (keyI a) with
  | none =>
    have := valV_not e
    rw [h, keyI_mem] at this
    rw [decide_eq_false this]
    rfl
  | some v =>
    have := valV_in e
    rw [h, keyI_mem] at this
    rw [decide_eq_true this]
    rfl
theorem small_l {n : Nat} (h : n ≤ 10000) : n < sizeLine := by
  rw [sizeLine_eq]
  omega
abbrev nExplored : List Str := ["first", "leads", "is_goal", "before", "queue", "at", "node", "sign", "after"]
section
variable {P : Program} {w : World} {K : PySem.W.Frag} {mg : Str → Option Value} {base : Heap}
theorem scExplored : FnScope nExplored ["first", "leads", "is_goal"] (defScope sExplored) := ⟨rfl, rfl, rfl, by decide +kernel, rfl, by decide +kernel, by decide +kernel⟩
theorem ok_explored {k : Nat} {f : Addr} {fd : FuncData} (Fn : Fun K "explored" "explored" sExplored f fd) (zn : mg "len" = none) : FnV P w K mg base CX0 (k + 1) f fd ["first", "leads", "is_goal"] (spExplored P w K mg base k) := by
  refine Sl.Fun.okV Fn scExplored (fun cl fr ws vs H Q E h => ?_) (fun A0 outer s H vs cl fr ws Q E hr C h => ?_)
  · obtain ⟨f, f2, F, F2, y2, first, N, G, g, rfl, _⟩ := h
    rfl
  · obtain ⟨fl, f2, F, F2, y2, first, N, G, g, rfl, hf, hc, ecl, LL, hf2, hc2, ecl2, LN, hG, gk, fN, kk⟩ := h
    obtain ⟨y, spF, LF, imp⟩ := LL.ok
    have hu := hu_of hr
    have C1 : CellsAt F.cl fr ws (cxOf CX0 P w K mg base nExplored "explored" (defScope sExplored) f fd.code A0 outer s H E).s_0.heap (cxOf CX0 P w K mg base nExplored "explored" (defScope sExplored) f fd.code A0 outer s H E).H_0 := by
      rw [ecl]
      exact C.at_
    refine ⟨_, pss_cons (ps_set (i := 3) scExplored.nd rfl (.inl rfl) (pe_disp (pps_cons (pv 0) pe_non pps_nil) (by rfl) (by rfl) (fun z => by cases z) (by decide)))
      (pss_cons (ps_set (i := 4) scExplored.nd rfl (.inl rfl) (pe_lst (pa_cons (pv 0) pa_nil)))
      (pss_cons (ps_set (i := 5) scExplored.nd rfl (.inl rfl) pe_int)
      (pss_cons (ps_while (passes_of rfl) (pt_cmpR op_lt (pv 5) (pe_callB call_len_seq (by rfl) zn PySem.boot_len (pa_cons (pv 4) pa_nil)) (nomark _))
        (pss_cons (ps_set (i := 6) scExplored.nd rfl (.inl rfl) (pe_ix ix_list (pv 4) (pv 5) (fun _ _ => rfl)))
        (pss_cons (ps_if (pt_val (pe_callL (E := fun _ _ _ => False) (i := 2) LN (fun pins σ H s I => by rw [ecl2]; exact cells_nil) hr (Nat.le_refl _) pass0 rfl (.inl rfl) (pa_cons (pv 6) pa_nil))) (pss_one (ps_ret (pe_tup (pa_cons (pv 3) (pa_cons (pv 6) pa_nil))))) pss_nil)
        (pss_cons (ps_for (passes_of rfl) rfl (pi_list (pe_callL (E := fun _ _ _ => False) (i := 1) LF (fun pins σ H s I => cells_later C1 rfl I) hr (Nat.le_refl _) pass0 rfl (.inl rfl) (pa_cons (pv 6) pa_nil))) (pg_tup (by rfl) (pgs_cons (pg_name (i := 7) scExplored.nd rfl (.inl rfl)) (pgs_cons (pg_name (i := 8) scExplored.nd rfl (.inl rfl)) pgs_nil)))
          (pss_one (ps_if (pt_cmp (pc_dnotin hu (pv 8) (pv 3))) (pss_cons (ps_dput hu (pv 3) (pv 8) (pe_tup (pa_cons (pv 6) (pa_cons (pv 7) pa_nil))) rfl) (pss_one (ps_expr (pe_bm PySem.F.plainAttrs_list PySem.F.slot_list_append PySem.F.type_list_append mt_append (pv 4) (pa_cons (pv 8) pa_nil))))) pss_nil)))
        (pss_one (ps_aug (i := 5) scExplored.nd rfl (.inl rfl) pe_int ip_add))))))
      (pss_one (ps_ret (pe_tup (pa_cons (pv 3) (pa_cons pe_non pa_nil)))))))), ?_⟩
    have sz1 : (1 : Nat) ≤ sizeLine := by decide
    have sz2 : (2 : Nat) ≤ sizeLine := by decide
    refine fun b nb => ⟨_, rfl, upd_same, [(keyI first, V.non)], rfl, by show 1 ≤ 15; decide, ?_⟩
    have x1 : Ext H (upd (upd H b (.dK [])) b (.dK (mergeK [] [(keyI first, V.non)]))) := fun a o e => by
      rw [upd_ne (ne_of_none e nb), upd_ne (ne_of_none e nb)]
      exact e
    have h1 : (upd (upd H b (.dK [])) b (.dK (mergeK [] [(keyI first, V.non)]))) b = some (.dK [(keyI first, V.non)]) := upd_same
    generalize upd (upd H b (.dK [])) b (.dK (mergeK [] [(keyI first, V.non)])) = H1 at x1 h1 ⊢
    refine ⟨_, rfl, sz1, fun q nq => ?_⟩
    have x2 := Ext.new nq (o := .lst [V.int first])
    have h2 : (upd H1 q (.lst [V.int first])) q = some (.lst (([first] : List Nat).map fun n => V.int (n : Nat))) := upd_same
    have nqH := x1.free nq
    have nbq : b ≠ q := ne_of_none h1 nq
    have hb2 := x2 _ _ h1
    have x02 := x1.trans x2
    generalize upd H1 q (.lst [V.int first]) = H2 at x02 h2 hb2 ⊢
    refine ⟨ExpW H fl f2 b q first N g, ⟨_, none, none, none, 0, [first], _, rfl, rfl, x02, h2, hb2, rfl, by simp, by simpa using fN, by simp, rfl⟩, ?_⟩
    rintro m σ H3 ⟨v6, v7, v8, i, Lq, kvs, rfl, rfl, x3, hq, hb, hk, nd, lt, le, run⟩
    have lN := nodup_len nd lt
    have n100 := gk.n
    refine ⟨_, rfl, _, rfl, q, _, rfl, .inl (SqL.of hq), _, _, rfl, rfl, _, rfl, ?_⟩
    rw [List.length_map]
    refine ite2 (fun c => ?_) (fun c => ?_)
    · have c : i < Lq.length := by have := of_decide_eq_true c; omega
      obtain ⟨x, hx⟩ : ∃ x, Lq[i]? = some x := ⟨Lq[i], List.getElem?_eq_getElem c⟩
      have xN := lt x (List.mem_of_getElem? hx)
      refine ⟨ExpW H fl f2 b q first N g (N - i), fun σ' H' h => ⟨_, by omega, h⟩, ?_⟩
      refine ⟨_, rfl, _, rfl, q, _, _, .int x, rfl, rfl, SqL.of hq, atI_nat (by rw [List.getElem?_map, hx]; rfl), ?_⟩
      refine ⟨f2, rfl, x3 _ _ hf2, _, rfl, x3 _ _ hf2, x3 _ _ hc2, _, rfl, false, rfl, iteF ?_⟩
      refine ⟨fl, rfl, x3 _ _ hf, _, rfl, x3 _ _ hf, x3 _ _ hc, imp _ _ _ _ ⟨x, rfl, xN, gk.st _ _ (ExtN.of x3) hG, fun H4 p ts x4 np hp hts => ?_⟩⟩
      have x04 := x3.trans x4
      have gl := gk.lt x xN
      have g100 := gk.le x
      refine ⟨p, rfl, ⟨_, SqL.of hp⟩, ?_⟩
      refine for_it (walk_list (xs := ts.map V.ref)) (fun j σ H' => ∃ v7 v8 kvs, σ = [some (.int first), some (.ref fl), some (.ref f2), some (.ref b), some (.ref q), some (.int i), some (.int x), v7, v8] ∧ Ext H H' ∧ H' p = some (.lst (ts.map V.ref)) ∧ LeadsAt H' ts (g x) ∧
          H' q = some (.lst ((addNew Lq ((g x).take j)).map fun n => V.int (n : Nat))) ∧ H' b = some (.dK kvs) ∧ kvs.map (·.1) = (addNew Lq ((g x).take j)).map keyI)
        ⟨v7, v8, kvs, rfl, x04, hp, hts, x4 _ _ hq, x4 _ _ hb, hk⟩ (fun j σ H' _ ⟨_, _, _, _, _, h, _⟩ => SqL.of h) ?_ ?_
      · rintro j y σ H5 H6 hj ⟨v7, v8, kvs, rfl, x5, hp5, ht5, hq5, hb5, hk5⟩ ⟨rfl, hy⟩
        obtain ⟨t, htj, rfl⟩ := at_map hy
        obtain ⟨e, he, hte⟩ := ht5.at_ htj
        have ha := gl e (List.mem_of_getElem? he)
        have ok5 := addNew_ok (N := N) nd lt (l := (g x).take j) fun e he => gl e (List.mem_of_mem_take he)
        have l5 := nodup_len ok5.1 ok5.2.1
        have lk5 : kvs.length = (addNew Lq ((g x).take j)).length := by
          have := congrArg List.length hk5
          rwa [List.length_map, List.length_map] at this
        refine ⟨t, _, rfl, SqT.of hte, rfl, _, _, rfl, _, _, rfl, rfl, ?_⟩
        refine ⟨_, rfl, _, rfl, b, _, rfl, DGet.k (k := keyI e.2) hb5, _, rfl, ?_⟩
        rw [val_key hk5]
        have en : addNew Lq ((g x).take (j + 1)) = if e.2 ∈ addNew Lq ((g x).take j) then addNew Lq ((g x).take j) else addNew Lq ((g x).take j) ++ [e.2] := by
          rw [take_more he, addNew_append, addNew_one]
        by_cases ce : e.2 ∈ addNew Lq ((g x).take j)
        · rw [decide_eq_true ce]
          refine iteF ⟨_, _, kvs, rfl, x5, hp5, ht5, ?_, hb5, ?_⟩
          · rw [en, if_pos ce]
            exact hq5
          · rw [en, if_pos ce]
            exact hk5
        · rw [decide_eq_false ce]
          refine iteT ⟨_, rfl, _, rfl, sz2, fun T nT => ⟨_, rfl, _, rfl, b, _, rfl, DPut.k (k := keyI e.2) (Ext.new nT _ _ hb5) (small_l (by omega)), ?_⟩⟩
          have nv : valV kvs (keyI e.2) = none := by
            have := val_key hk5 e.2
            rw [decide_eq_false ce] at this
            cases z : valV kvs (keyI e.2) with
            | none => rfl
            | some v =>
              rw [z] at this
              cases this
          have bT : b ≠ T := ne_of_none hb5 nT
          have keep : ∀ c o, H6 c = some o → c ≠ b → (upd (upd H6 T (.tup [.int x, .str e.1])) b (.dK (putK kvs (keyI e.2) (.ref T)))) c = some o := fun c o h n => by
            rw [upd_ne n]
            exact Ext.new nT _ _ h
          have tk : ∀ t xs, H6 t = some (.tup xs) → (upd (upd H6 T (.tup [.int x, .str e.1])) b (.dK (putK kvs (keyI e.2) (.ref T)))) t = some (.tup xs) := fun t xs h => keep t _ h (ne_of h hb5 (by intro z; cases z))
          have hb7 : (upd (upd H6 T (.tup [.int x, .str e.1])) b (.dK (putK kvs (keyI e.2) (.ref T)))) b = some (.dK (putK kvs (keyI e.2) (.ref T))) := upd_same
          have hq7 := keep _ _ hq5 nbq.symm
          have hp7 := keep _ _ hp5 (ne_of hp5 hb5 (by intro z; cases z))
          have x7 : Ext H (upd (upd H6 T (.tup [.int x, .str e.1])) b (.dK (putK kvs (keyI e.2) (.ref T)))) := fun c o h => keep _ _ (x5 _ _ h) (ne_of_none h nb)
          have t7 := ht5.ext tk
          generalize upd (upd H6 T (.tup [.int x, .str e.1])) b (.dK (putK kvs (keyI e.2) (.ref T))) = H7 at hb7 hq7 hp7 x7 t7 ⊢
          refine ⟨_, rfl, .inl ⟨rfl, _, SqL.of hq7⟩, _, rfl, q, _, _, rfl, rfl, hq7, by rw [List.length_map]; exact small_l (by omega), ?_⟩
          have npq : p ≠ q := fun z => by
            rw [z, hq] at np
            cases np
          refine ⟨_, _, putK kvs (keyI e.2) (.ref T), rfl, fun c o h => ?_, ?_, ?_, ?_, ?_, ?_⟩
          · rw [upd_ne (ne_of_none h nqH)]
            exact x7 _ _ h
          · rw [upd_ne npq]
            exact hp7
          · exact t7.ext fun t xs h => by
              rw [upd_ne (ne_of h hq7 (by intro z; cases z))]
              exact h
          · rw [upd_same, en, if_neg ce, List.map_append]
            rfl
          · rw [upd_ne nbq]
            exact hb7
          · rw [en, if_neg ce, putK_new _ nv, List.map_append, List.map_append, hk5]
            rfl
      · rintro σ H5 ⟨v7, v8, kvs, rfl, x5, hp5, ht5, hq5, hb5, hk5⟩
        rw [List.length_map, hts.len, List.take_length] at hq5 hk5
        have ok5 := addNew_ok (N := N) nd lt (l := g x) gl
        refine ⟨_, rfl, _, _, rfl, rfl, ?_⟩
        refine ⟨some (.int x), v7, v8, i + 1, addNew Lq (g x), kvs, by omega, ?_, x5, hq5, hb5, hk5, ok5.1, ok5.2.1, by have := ok5.2.2; omega, ?_⟩
        · rfl
        · rw [← run, show N + 1 - i = (N + 1 - (i + 1)) + 1 by omega, bfs_step hx]
    · have c : Lq.length ≤ i := by
        have := of_decide_eq_false (Bool.not_eq_true _ ▸ c)
        omega
      rw [bfs_end c] at run
      refine ⟨_, rfl, sz2, fun t nt => kk _ t b kvs (x3.trans (Ext.new nt)) (x3.free nt) upd_same nb (Ext.new nt _ _ hb) ?_⟩
      rw [hk, run]
end
end Sl
/-! ## V3 -/
set_option Elab.async false
set_option linter.all false
set_option maxRecDepth 100000
set_option maxHeartbeats 4000000
set_option pp.maxSteps 1500
set_option pp.deepTerms false
/-! reached -/
namespace Sl
open PySem PySem.Spec PyProof.Rows L2 LamX NdefX
/-- what the making of lambdas in a def asks: its code object, its table, the name -/
structure Lams (base : Heap) (mg : Str → Option Value) (T : List NTab) (fd : FuncData) (nm : Str) : Prop where
  ex : ∃ c Tb, fd.code = .ref c ∧ TabB base mg c Tb ∧ (Tb, fun _ _ => nm) ∈ T ∧ ∀ p ∈ T, p.1 = Tb → p.2 = fun _ _ => nm
def spReached (P : Program) (w : World) (K : PySem.W.Frag) (mg : Str → Option Value) (base : Heap) (T : List NTab) (k : Nat) : List (Str × Addr) → List Str → List (Option V) → Sp := fun cl fr ws vs H Q _ => ∃ (f : Addr) (F : LF) (first N : Nat) (G : Hp → Prop) (g : Gr), vs = [.int first, .ref f] ∧
  H f = some (LamO f F) ∧ H F.c = some (CodeO F.c F.qual) ∧ F.cl = cl ∧ LeadL P w K mg base k G g N F fr ws ∧ TabsN T H ∧ G H ∧ GrOk G g N ∧ first < N ∧
  ∀ (H' : Hp) (p : Addr), ExtN H H' → (∀ b, H' b = none → H b = none) → TabsN T H' → H p = none → H' p = some (.lst ((reachedL g N first).map fun n => V.int (n : Nat))) → Q (.ref p) H'
abbrev nReached : List Str := ["first", "leads", "before", "_"]
theorem keys_ints {kvs : List (Key × V)} {l : List Nat} (h : kvs.map (·.1) = l.map keyI) : kvs.map (fun kv => kV kv.1) = l.map fun n => V.int (n : Nat) := by
  have e : kvs.map (fun kv => kV kv.1) = (kvs.map (·.1)).map kV := by rw [List.map_map]; rfl
  rw [e, h, List.map_map]
  rfl
section
variable {P : Program} {w : World} {K : PySem.W.Frag} {mg : Str → Option Value} {base : Heap}
theorem scReached : FnScope nReached ["first", "leads"] (defScope sReached) := ⟨rfl, rfl, rfl, by decide +kernel, rfl, by decide +kernel, by decide +kernel⟩
theorem ok_reached {k : Nat} {T : List NTab} {f fE : Addr} {fd fdE : FuncData} (Fn : Fun K "reached" "reached" sReached f fd) (LM : Lams base mg T fd "reached.<locals>.<lambda>") (aE : At K mg "explored" fE fdE ["first", "leads", "is_goal"] []) (gE : FnV P w K mg base CX0 (k + 2) fE fdE ["first", "leads", "is_goal"] (spExplored P w K mg base (k + 1)))
    (zl : mg "list" = none) : FnV P w K mg base CX0 (k + 3) f fd ["first", "leads"] (spReached P w K mg base T (k + 1)) := by
  obtain ⟨c, Tb, hcode, TB, hmT, hu⟩ := LM.ex
  refine Sl.Fun.okV Fn scReached (fun cl fr ws vs H Q E h => ?_) (fun A0 outer s H vs cl fr ws Q E hr C h => ?_)
  · obtain ⟨f, F, first, N, G, g, rfl, _⟩ := h
    rfl
  · obtain ⟨fl, F, first, N, G, g, rfl, hf, hc, ecl, LL, hT, hG, gk, fN, kk⟩ := h
    refine ⟨_, pss_cons (ps_asg (pe_callV (cl := fun _ => cl) (fr := fr) (ws := fun _ => ws) (E := fun _ _ _ => False) gE (fun pins σ H s I => cellsF_later C rfl rfl rfl I) hr (by rfl) aE.g aE.kp aE.b pass0
        (pa_cons (pv 0) (pa_cons (pv 1) (pa_cons (pe_lamV (T := T) TB hcode hmT hu rfl (fun y hy e => by
          rcases List.mem_singleton.mp hy with rfl
          cases e)) pa_nil)))) (pg_tup (by rfl) (pgs_cons (pg_name (i := 2) scReached.nd rfl (.inl rfl)) (pgs_cons (pg_name (i := 3) scReached.nd rfl (.inl rfl)) pgs_nil))))
      (pss_one (ps_ret (pe_callTy (call_listD rfl) (by rfl) zl (by decide +kernel) (pa_cons (pv 2) pa_nil)))), ?_⟩
    refine ⟨_, rfl, _, rfl, hT, fun f2 c2 H1 x1 nn T1 nf2 hf2 hc2 => ?_⟩
    refine ⟨fl, f2, F, _, "node", first, N, G, g, rfl, x1 _ _ hf lamO_ne, x1 _ _ hc codeO_ne, ecl, LL, hf2, hc2, rfl, ?_, gk.st _ _ x1 hG, gk, fN, fun H2 t b kvs x2 nt ht nb hb hk => ?_⟩
    · refine lok_of (N := ["node"]) (nscope_by (by rfl)) (fun pm ctv us hl => match us, hl with | [_], _ => rfl) (fun ws vs H Q E h => ?_) (fun f A outer s H vs ws Q E hr hf hc hl h => ?_)
      · obtain ⟨x, rfl, _⟩ := h
        rfl
      · obtain ⟨x, rfl, q⟩ := h
        exact ⟨_, pe_bl, q⟩
    · refine ⟨t, _, rfl, SqT.of ht, rfl, _, _, rfl, _, _, rfl, rfl, ?_⟩
      refine ⟨_, rfl, b, kvs, rfl, Rd.of hb, fun p np => ?_⟩
      have x12 : ExtN H H2 := x1.trans (ExtN.of x2)
      refine kk _ p (x12.trans (ExtN.of (Ext.new np))) (fun b e => nn _ (x2.free ((Ext.new np).free e))) ((T1.ext x2).ext (Ext.new np)) (nn _ (x2.free np)) ?_
      rw [upd_same, keys_ints hk]
end
end Sl
/-! ## V5 -/
set_option Elab.async false
set_option linter.all false
set_option maxRecDepth 100000
set_option maxHeartbeats 4000000
/-! a local that a dict comprehension is stored to on one line; dict comprehensions by their walks -/
namespace Sl
open PySem PySem.Spec PyProof.Rows L2
section
variable {X : Cx}
theorem sw_trueD {kx vx : Expr} {gens : List Comprehension} {sc : Scope} {pos py : Pos} {y : Str} {l : Nat} {env : Env} (h1 : env.scope.kind = .function) (h2 : env.scope.names.lookup y = some .local) (h3 : (py.line == pos.line) = true)
    (h4 : (sc.names.any fun (n, k) => n == y && (k == .local || k == .cell)) = false) : swapsWith (.DictComp kx vx gens sc pos) (some (.Name y py)) l env = pure true := by
  have e1 : env.kindOf y = some .local := h2
  have e2 : env.blockKind = .function := by
    unfold Env.blockKind
    rw [h1]
    rfl
  simp only [swapsWith, e2, e1, h4, Expr.pos, h3]
  rfl
theorem ps_setDc {i : Nat} {y : Str} {py : Pos} {kx vx tg iter : Expr} {ifs : List Expr} {sc : Scope} {own : List (Str × Nat)} {pos spos : Pos} {wi : TI} {g : TG} {tt : TT} {tk tv : TE} (calm : X.calm = true) (nd : X.N.Nodup) (hy : X.N[i]? = some y) (hl : X.env.scope.names.lookup y = some .local)
    (sw : swapsWith (.DictComp kx vx [⟨tg, iter, ifs, 0⟩] sc pos) (some (.Name y py)) spos.line X.env = pure true) (hi : PI X tg iter wi) (ok : BlkOk X.N X.env.scope sc own)
    (hg : ∀ (s : Shared) (H : Hp) (C : Addr) (cl : List (Str × Addr)) (fp : List Addr), PG (X.blk s H sc (compEnvC sc cl C X.env) fp) tg g) (ht : ∀ (s : Shared) (H : Hp) (C : Addr) (cl : List (Str × Addr)) (fp : List Addr), PTs (X.blk s H sc (compEnvC sc cl C X.env) fp) ifs tt)
    (hk : ∀ (s : Shared) (H : Hp) (C : Addr) (cl : List (Str × Addr)) (fp : List Addr), PE (X.blk s H sc (compEnvC sc cl C X.env) fp) kx tk) (hv : ∀ (s : Shared) (H : Hp) (C : Addr) (cl : List (Str × Addr)) (fp : List Addr), PE (X.blk s H sc (compEnvC sc cl C X.env) fp) vx tv)
    (hs : ∀ x, foldedSetIterable iter X.env x = pure x := by intro _; rfl) : PS X (.Assign [.Name y py] (.DictComp kx vx [⟨tg, iter, ifs, 0⟩] sc pos) spos) (tAsg (tDc wi g tt tk tv (own.map (·.2))) (gName i)) := by
  refine ⟨fun pins s σ H D I told => ?_⟩
  rw [exec_Assign_Name_used _ _ _ _ sw]
  refine wpAny_bind (wpAny_standAt (wpAny_bind ?_))
  show wpAny _ X.A (do let _ ← comprehension (.DictComp kx vx [⟨tg, iter, ifs, 0⟩] sc pos) sc X.env (firstIterPos [⟨tg, iter, ifs, 0⟩] pos) newDict false (eval iter X.env) (some (assign (.Name y py) X.env))) _ _ s
  have told' : tDc wi g tt tk tv (own.map (·.2)) σ H (fun x H1 => gName i x σ H1 D.nx) := told
  refine wpAny_bind (thn (dc_core (Qf := fun _ s' => SP X pins D .next s') calm nd I hi ok hg ht hk hv hs told' fun L C s' m H' J q ns fp => ?_) fun _ s' done => wpAny_pure (wpAny_pure done))
  show wpAny _ _ (assign (.Name y py) X.env (.ref L)) _ _ _
  obtain ⟨f0, f1, f2, f3, f4, f5⟩ := fp
  refine wpAny_assign_Name (store_ok2 (v := V.ref L) J nd hy (.inl hl) rfl (fun s2 J2 ⟨a, sb, ha⟩ => ?_) (.inr hl))
  have apart : C ≠ a := by
    rcases ha with z | z
    · rw [z]
      exact f1
    · exact fun e => f4 y a z e.symm
  exact ⟨m, ns.sameBut sb apart, fun h3 sb3 => ⟨_, H', J2.turned (t' := s2.toks) (fun b o hb e => (sb3.2 b hb).trans e) f0 f1 f3 f4 f5, q⟩⟩
end
theorem dcW {J : It} {n : Nat} {G : Hp → Prop} {Y : Nat → Hp → V → Hp → Prop} (w : Walk J n G Y) {g : TG} {tt : TT} {tk tv : TE} {vs : List Nat} {σ : L2.St} {H1 : Hp} {D : Addr} {Qd : Hp → Prop} (Pv : Nat → Hp → Prop) (h0 : Pv 0 (upd H1 D (.dK []))) (hG : ∀ i H, i ≤ n → Pv i H → G H)
    (hs : ∀ i x H H', i < n → Pv i H → Y i H x H' → g x (wipe σ vs) H' fun σ2 H2 => wipe σ2 vs = wipe σ vs ∧ tt σ2 H2 fun b H3 =>
      if b = true then tk σ2 H3 fun y H4 => tv σ2 H4 fun z H5 => ∃ kvs k, y = kV k ∧ H5 D = some (.dK kvs) ∧ kvs.length < sizeLine ∧ Pv (i + 1) (upd H5 D (.dK (putK kvs k z))) else Pv (i + 1) H3) (hd : ∀ H, Pv n H → Qd H) :
    ∃ W : Nat → Nat → Hp → Prop, (∃ m, W 0 m (upd H1 D (.dK []))) ∧ ∀ i m H, W i m H →
      (J.stop i H ∧ Qd H) ∨ (J.go i H ∧ ∃ Nx : Hp → Prop, (∀ H', Nx H' → ∃ m', m' < m ∧ W (i + 1) m' H') ∧ ∀ x H', J.yld i H x H' → g x (wipe σ vs) H' fun σ2 H2 => wipe σ2 vs = wipe σ vs ∧ tt σ2 H2 fun b H3 =>
        if b = true then tk σ2 H3 fun y H4 => tv σ2 H4 fun z H5 => ∃ kvs k, y = kV k ∧ H5 D = some (.dK kvs) ∧ kvs.length < sizeLine ∧ Nx (upd H5 D (.dK (putK kvs k z))) else Nx H3) := by
  refine ⟨fun i m H => m = n - i ∧ i ≤ n ∧ Pv i H, ⟨n, by simp, Nat.zero_le _, h0⟩, fun i m H z => ?_⟩
  obtain ⟨rfl, hi, p⟩ := z
  by_cases hlt : i < n
  · exact .inr ⟨w.goes i H hlt (hG i H hi p), Pv (i + 1), fun H' p' => ⟨n - (i + 1), by omega, rfl, hlt, p'⟩, fun x H' y => hs i x H H' hlt p (w.yields i H x H' hlt (hG i H hi p) y)⟩
  · obtain rfl : i = n := by omega
    exact .inl ⟨w.stops H (hG i H hi p), hd H p⟩
end Sl
/-! ## B1 -/
set_option Elab.async false
set_option linter.all false
set_option maxRecDepth 100000
set_option maxHeartbeats 4000000
/-! ascending lists of texts: two of the same texts are the same -/
namespace Sl
open PySem PySem.Spec PyProof.Rows
theorem cps_irr : ∀ a : List Nat, ltCps a a = false
  | [] => rfl
  | x :: a => by
    show (decide (x < x) || (x == x && ltCps a a)) = false
    rw [cps_irr a]
    simp
theorem cps_anti : ∀ {a b : List Nat}, ltCps a b = false → ltCps b a = false → a = b
  | [], [], _, _ => rfl
  | [], _ :: _, h, _ => by cases h
  | _ :: _, [], _, h => by cases h
  | x :: a, y :: b, h, k => by
    have h : (decide (x < y) || (x == y && ltCps a b)) = false := h
    have k : (decide (y < x) || (y == x && ltCps b a)) = false := k
    simp only [Bool.or_eq_false_iff, decide_eq_false_iff_not, Bool.and_eq_false_iff, beq_eq_false_iff_ne] at h k
    have e : x = y := by omega
    subst e
    rw [cps_anti (h.2.resolve_left fun z => z rfl) (k.2.resolve_left fun z => z rfl)]
theorem cps_trans : ∀ {a b c : List Nat}, ltCps b a = false → ltCps c b = false → ltCps c a = false
  | [], _, [], _, _ => rfl
  | [], [], _ :: _, _, k => by cases k; rfl
  | [], _ :: _, _ :: _, _, _ => rfl
  | _ :: _, [], _, h, _ => by cases h
  | _ :: _, _ :: _, [], _, k => by cases k
  | x :: a, y :: b, z :: c, h, k => by
    have h : (decide (y < x) || (y == x && ltCps b a)) = false := h
    have k : (decide (z < y) || (z == y && ltCps c b)) = false := k
    show (decide (z < x) || (z == x && ltCps c a)) = false
    simp only [Bool.or_eq_false_iff, decide_eq_false_iff_not, Bool.and_eq_false_iff, beq_eq_false_iff_ne] at h k ⊢
    refine ⟨by omega, ?_⟩
    by_cases e : z = x
    · refine .inr ?_
      have e1 : y = x := by omega
      have e2 : z = y := by omega
      exact cps_trans (h.2.resolve_left fun q => q e1) (k.2.resolve_left fun q => q e2)
    · exact .inl e
/-- a is not behind b -/
def leS (a b : Str) : Prop := ltCps b.cps.toList a.cps.toList = false
theorem leS_anti {a b : Str} (h : leS a b) (k : leS b a) : a = b := by
  have e : b.cps.toList = a.cps.toList := cps_anti h k
  have e2 : b.cps = a.cps := Array.toList_inj.mp e
  cases a
  cases b
  cases e2
  rfl
theorem leS_trans {a b c : Str} (h : leS a b) (k : leS b c) : leS a c := cps_trans h k
theorem pair_of_rising : ∀ {l : List Str} {p : Str}, risingS p l = true → (p :: l).Pairwise leS
  | [], p, _ => List.pairwise_singleton _ _
  | x :: l, p, h => by
    have h : (!ltCps x.cps.toList p.cps.toList && risingS x l) = true := h
    obtain ⟨h1, h2⟩ := Bool.and_eq_true_iff.mp h
    have hx : leS p x := by
      unfold leS
      cases e : ltCps x.cps.toList p.cps.toList with
      | false => rfl
      | true =>
        rw [e] at h1
        cases h1
    have ih := pair_of_rising h2
    refine List.pairwise_cons.mpr ⟨fun y hy => ?_, ih⟩
    rcases List.mem_cons.mp hy with rfl | hy
    · exact hx
    · exact leS_trans hx ((List.pairwise_cons.mp ih).1 y hy)
theorem pair_of_sorted : ∀ {l : List Str}, sortedS l = true → l.Pairwise leS
  | [], _ => .nil
  | _ :: _, h => pair_of_rising h
theorem asc_unique {α : Type} {r : α → α → Prop} : ∀ {l m : List α}, (∀ a ∈ l, ∀ b ∈ l, r a b → r b a → a = b) → l.Pairwise r → m.Pairwise r → l.Perm m → l = m
  | [], m, _, _, _, p => (p.symm.eq_nil).symm
  | x :: l, [], _, _, _, p => by cases p.eq_nil
  | x :: l, y :: m, anti, h, k, p => by
    obtain ⟨h1, h2⟩ := List.pairwise_cons.mp h
    obtain ⟨k1, k2⟩ := List.pairwise_cons.mp k
    have e : x = y := by
      have hx : x ∈ y :: m := p.mem_iff.mp List.mem_cons_self
      have hy : y ∈ x :: l := p.mem_iff.mpr List.mem_cons_self
      rcases List.mem_cons.mp hx with q | q
      · exact q
      rcases List.mem_cons.mp hy with q2 | q2
      · exact q2.symm
      exact anti x List.mem_cons_self y (List.mem_cons_of_mem _ q2) (h1 y q2) (k1 x q)
    subst e
    rw [asc_unique (fun a ha b hb => anti a (List.mem_cons_of_mem _ ha) b (List.mem_cons_of_mem _ hb)) h2 k2 ((List.perm_cons x).mp p)]
theorem sorted_unique {l m : List Str} (h : sortedS l = true) (k : sortedS m = true) (p : l.Perm m) : l = m := asc_unique (fun _ _ _ _ => leS_anti) (pair_of_sorted h) (pair_of_sorted k) p
theorem ints_unique {l m : List Int} (h : l.Pairwise (· ≤ ·)) (k : m.Pairwise (· ≤ ·)) (p : l.Perm m) : l = m := asc_unique (fun _ _ _ _ a b => Int.le_antisymm a b) h k p
/-- rows of the same entries by ascending keys are the same -/
theorem row_unique {α : Type} {r l m : List (Str × α)} (nd : (r.map (·.1)).Nodup) (pl : l.Perm r) (pm : m.Perm r) (sl : sortedS (l.map (·.1)) = true) (sm : sortedS (m.map (·.1)) = true) : l = m := by
  have inj : ∀ {q : List (Str × α)}, (q.map (·.1)).Nodup → ∀ a ∈ q, ∀ b ∈ q, a.1 = b.1 → a = b := by
    intro q
    induction q with
    | nil => intro _ a ha; cases ha
    | cons x q ih =>
      intro h a ha b hb e
      obtain ⟨h1, h2⟩ := List.nodup_cons.mp h
      rcases List.mem_cons.mp ha with e1 | ha' <;> rcases List.mem_cons.mp hb with e2 | hb'
      · rw [e1, e2]
      · exact (h1 (List.mem_map.mpr ⟨b, hb', by rw [← e, e1]⟩)).elim
      · exact (h1 (List.mem_map.mpr ⟨a, ha', by rw [e, e2]⟩)).elim
      · exact ih h2 a ha' b hb' e
  have ndl : (l.map (·.1)).Nodup := (pl.map _).nodup_iff.mpr nd
  refine asc_unique (r := fun a b => leS a.1 b.1) (fun a ha b hb h k => inj ndl a ha b hb (leS_anti h k)) ?_ ?_ (pl.trans pm.symm)
  · exact List.pairwise_map.mp (pair_of_sorted sl)
  · exact List.pairwise_map.mp (pair_of_sorted sm)
end Sl
/-! ## B2 -/
set_option Elab.async false
set_option linter.all false
set_option maxRecDepth 100000
set_option maxHeartbeats 4000000
/-! a list or a tuple alike: walked, measured, asked for its kind, its ints as a set -/
namespace Sl
open PySem PySem.Spec PyProof.Rows L2
/-- a list (true) or a tuple (false) of these -/
def SqK (K : PySem.W.Frag) (k : Bool) (H : Hp) (a : Addr) (xs : List V) : Prop := match k with
  | true => SqL K H a xs
  | false => SqT K H a xs
def ItK (K : PySem.W.Frag) (k : Bool) (a : Addr) : It := match k with
  | true => Itl K a
  | false => Itt K a
theorem SqK.or {K : PySem.W.Frag} {k : Bool} {H : Hp} {a : Addr} {xs : List V} (h : SqK K k H a xs) : SqL K H a xs ∨ SqT K H a xs := by
  cases k
  · exact .inr h
  · exact .inl h
theorem SqK.l {K : PySem.W.Frag} {H : Hp} {a : Addr} {xs : List V} (h : H a = some (.lst xs)) : SqK K true H a xs := SqL.of h
theorem SqK.t {K : PySem.W.Frag} {H : Hp} {a : Addr} {xs : List V} (h : H a = some (.tup xs)) : SqK K false H a xs := SqT.of h
theorem rd_ext {H H' : Hp} {a : Addr} {o : HO} (x : Ext H H') (h : Rd H a o) : Rd H' a o := by
  rcases h with h | ⟨ob, h⟩
  · exact .inl (x _ _ h)
  · exact .inr ⟨ob, x _ _ h⟩
theorem SqK.ext {K : PySem.W.Frag} {k : Bool} {H H' : Hp} {a : Addr} {xs : List V} (x : Ext H H') (h : SqK K k H a xs) : SqK K k H' a xs := by
  cases k
  · exact h.elim (fun h => .inl (rd_ext x h)) .inr
  · exact h.elim (fun h => .inl (rd_ext x h)) .inr
theorem SqK.keep {K : PySem.W.Frag} {k : Bool} {H H' : Hp} {a p : Addr} {xs : List V} (x : Keep p H H') (n : a ≠ p) (h : SqK K k H a xs) : SqK K k H' a xs := by
  have r : ∀ {o}, Rd H a o → Rd H' a o := fun {o} h => by
    rcases h with h | ⟨ob, h⟩
    · exact .inl (x _ _ h n)
    · exact .inr ⟨ob, x _ _ h n⟩
  cases k
  · exact h.elim (fun h => .inl (r h)) .inr
  · exact h.elim (fun h => .inl (r h)) .inr
theorem walk_seq {K : PySem.W.Frag} {k : Bool} {a : Addr} {xs : List V} : Walk (ItK K k a) xs.length (fun H => SqK K k H a xs) (YAt xs) := by
  cases k
  · exact walk_tup
  · exact walk_list
def iSeq (K : PySem.W.Frag) (te : TE) : TI := fun σ H R => te σ H fun x H1 => ∃ (k : Bool) (a : Addr), x = .ref a ∧ (∃ xs, SqK K k H1 a xs) ∧ R (ItK K k a) H1
theorem pi_seq {X : Cx} {tg e : Expr} {te : TE} (he : PE X e te) : PI X tg e (iSeq X.K te) := by
  refine ⟨fun pins s σ H R I h => thn (he.run pins s σ H _ I h) fun v s1 r => ?_⟩
  obtain ⟨x, H1, J, rv, k, a, rfl, ⟨xs, hs⟩, q⟩ := r
  cases rv
  have nw : ∀ b : Addr, b ∈ [s1.heap.objs.size] → b = s1.heap.objs.size := fun b hb => List.mem_singleton.mp hb
  cases k with
  | true =>
    obtain ⟨us, rs, pl, z⟩ := J.list hs
    refine wpAny_pyIter_list pl.isList ⟨s1.heap.objs.size, [s1.heap.objs.size], _, _, H1, rfl, J.kept (t' := s1.toks) fun b o g => Heap.get?_push_of_some _ g, turn_list a _, ⟨_, Heap.get?_push_size _ rfl, rfl, rfl⟩, fun b hb => ?_, q⟩
    rw [nw b hb]
    exact J.fpOk (Nat.le_refl _) (J.hok.fresh (Nat.le_refl _))
  | false =>
    obtain ⟨us, rs, pl, z⟩ := J.tuple hs
    refine wpAny_pyIter_tuple (show s1.heap.IsTuple a us.toArray from pl) ⟨s1.heap.objs.size, [s1.heap.objs.size], _, _, H1, rfl, J.kept (t' := s1.toks) fun b o g => Heap.get?_push_of_some _ g, turn_tuple a _, ⟨_, Heap.get?_push_size _ rfl, rfl, rfl⟩, fun b hb => ?_, q⟩
    rw [nw b hb]
    exact J.fpOk (Nat.le_refl _) (J.hok.fresh (Nat.le_refl _))
/-- its kind, for isinstance -/
theorem SqK.kind {K : PySem.W.Frag} {k : Bool} {H : Hp} {a : Addr} {xs : List V} (h : SqK K k H a xs) : Is K H (.ref a) (if k then .lst else .tup) := by
  cases k with
  | false =>
    rcases h with (h | ⟨o, h⟩) | ⟨o, its, n, e, c, _⟩
    · exact .base (.tup h)
    · exact .fTuple h
    · exact .kTuple e c
  | true =>
    rcases h with (h | ⟨o, h⟩) | ⟨o, its, n, e, c, _⟩
    · exact .base (.lst h)
    · exact .base (.frz h)
    · exact .kList e c
theorem seq_any {K : PySem.W.Frag} (k : Bool) : PySem.W.kitAny K (.type (if k then Kd.lst else Kd.tup).nm) [.type "list", .type "tuple"] = some true := by
  cases k
  · first | rfl | decide +kernel
  · first | rfl | decide +kernel
/-! ### len(set(..)) of different ints -/
theorem setR_count {w : World} {h : Heap} {a : Addr} {ns : List Int} {c : Nat} (nd : ns.Nodup) (R : SetR w h a (fun j => decide (j ∈ ns)) c) : c = ns.length := by
  obtain ⟨o, es, ep, t, _, _, _, _, ndk, mem, _, _, sz, _⟩ := R
  have p : (es.toList.map keyOf).Perm ns := perm_of_mem ndk nd fun k => by
    rw [← mem k]
    exact decide_eq_true_iff
  have e := p.length_eq
  rw [List.length_map, Array.length_toList] at e
  omega
where
  perm_of_mem : ∀ {l m : List Int}, l.Nodup → m.Nodup → (∀ k, k ∈ l ↔ k ∈ m) → l.Perm m
    | [], [], _, _, _ => .nil
    | [], y :: m, _, _, h => absurd ((h y).mpr List.mem_cons_self) List.not_mem_nil
    | x :: l, m, nl, nm, h => by
      obtain ⟨n1, n2⟩ := List.nodup_cons.mp nl
      have hx := (h x).mp List.mem_cons_self
      have p := List.perm_cons_erase hx
      refine (List.Perm.cons x (perm_of_mem n2 (nm.erase x) fun k => ?_)).trans p.symm
      rw [nm.mem_erase_iff]
      constructor
      · exact fun hk => ⟨fun e => n1 (by rw [← e]; exact hk), (h k).mp (List.mem_cons_of_mem _ hk)⟩
      · rintro ⟨ne, hk⟩
        rcases List.mem_cons.mp ((h k).mpr hk) with e | hk
        · exact absurd e ne
        · exact hk
def tLenSeqI (K : PySem.W.Frag) (ta : TE) : TE := fun σ H Q => ta σ H fun x H1 => ∃ (k : Bool) (a : Addr) (ns : List Int), x = .ref a ∧ SqK K k H1 a (ns.map V.int) ∧ ns.Nodup ∧ ns.length ≤ 1000 ∧ Q (.int (ns.length : Nat)) H1
theorem pe_lenSeqI {X : Cx} {a : Expr} {ta : TE} {p p2 q pos : Pos} (hg : Gl X "len") (hm : X.mg "len" = none) (hg2 : Gl X "set") (hm2 : X.mg "set" = none) (ha : PE X a ta) (hc : X.calm = true := by rfl)
    (na : starEach [a] X.env = (false, eval a X.env) :: starEach [] X.env := by rfl) : PE X (.Call (.Name "len" p) [.Call (.Name "set" p2) [a] [] q] [] pos) (tLenSeqI X.K ta) := by
  refine ⟨fun pins s σ H Q I h => Call_ (ld_blt I hg hm boot_len (callWith_builtin1 (args_cons (Call_ (ld_blt I hg2 hm2 boot_set (callWith_type1 (args_cons (thn (ha.run pins s σ H _ I h) fun v s1 r => args_nil ?_) na) na rfl))) rfl) rfl rfl))⟩
  obtain ⟨x, H1, J, rv, k, b, ns, rfl, hs, nd, sz, c⟩ := r
  cases rv
  cases k with
  | true =>
    obtain ⟨us, rs, pl, z⟩ := J.list hs
    have e : us.toArray.size = ns.length := by rw [List.size_toArray, ← rs.length, List.length_map]
    refine call_set_list (J.ok.hd hc) pl.isList (by simpa using RZ.intsAre_vals rs) (by rw [e]; unfold scanBound; omega) fun h' tk hS hk => args_nil ?_
    rw [e, RZ.firstMet_nodup nd ns.length (Nat.le_refl _), List.take_length] at hS
    obtain ⟨o, es, ep, t, ho, ex, hd, _, _, _, hf, hn⟩ := hS
    have J2 : Inv X pins σ H1 { s1 with heap := h', toks := tk } := J.kept fun d u g => hk d u (Heap.lt_size g) g
    exact call_len_set ho ex hd hf (by rw [hn]; omega) ⟨.int ns.length, H1, J2.tok _, ⟨_, by rw [hn]⟩, c⟩
  | false =>
    obtain ⟨us, rs, pl, z⟩ := J.tuple hs
    refine call_set_tupI ns (J.ok.hd hc) (show s1.heap.IsTuple b us.toArray from pl) (by simpa using RZ.intsAre_vals rs) (by unfold scanBound; omega) fun h' tk cn R le hk => args_nil ?_
    have cnt := setR_count nd R
    obtain ⟨o, es, ep, t, ho, ex, hd, _, _, _, _, hf, hn, _⟩ := R
    have J2 : Inv X pins σ H1 { s1 with heap := h', toks := tk } := J.kept hk
    exact call_len_set ho ex hd hf (by rw [hn]; omega) ⟨.int ns.length, H1, J2.tok _, ⟨_, by rw [hn, cnt]⟩, c⟩
end Sl
/-! ## V4 -/
set_option Elab.async false
set_option linter.all false
set_option maxRecDepth 100000
set_option maxHeartbeats 4000000
set_option pp.maxSteps 1500
set_option pp.deepTerms false
/-! distances_to: all nodes from which a graph leads to goals -/
namespace Sl
open PySem PySem.Spec PyProof.Rows L2 LamX NdefX
abbrev sDist : Stmt := top 14
/-! ### the mathematics -/
/-- the edges, as they are met -/
def edgesN (g : Gr) (n : Nat) : List (Nat × Nat) := (g n).map fun e => (n, e.2)
def edges (g : Gr) (N : Nat) : List (Nat × Nat) := (List.range N).flatMap (edgesN g)
def preL (l : List (Nat × Nat)) (a : Nat) : List Nat := (l.filter fun e => decide (e.2 = a)).map (·.1)
def preG (g : Gr) (N : Nat) : Gr := fun n => (preL (edges g N) n).map fun x => (Str.ofString "", x)
def closeL (g : Gr) (N : Nat) (init : List Nat) : List Nat := bfs g (N + 1) init 0
theorem edges_succ (g : Gr) (n : Nat) : edges g (n + 1) = edges g n ++ edgesN g n := by
  unfold edges
  rw [List.range_succ, List.flatMap_append]
  simp
theorem preL_append (l m : List (Nat × Nat)) (a : Nat) : preL (l ++ m) a = preL l a ++ preL m a := by
  unfold preL
  rw [List.filter_append, List.map_append]
theorem preL_one (x a b : Nat) : preL [(x, a)] b = if a = b then [x] else [] := by
  unfold preL
  by_cases h : a = b
  · simp [h]
  · simp [h]
theorem edges_len {g : Gr} (h : ∀ n, (g n).length ≤ 100) : ∀ N, (edges g N).length ≤ 100 * N
  | 0 => by simp [edges]
  | n + 1 => by
    have ih := edges_len h n
    have := h n
    rw [edges_succ, List.length_append]
    unfold edgesN
    rw [List.length_map]
    omega
theorem edges_lt {g : Gr} {N : Nat} : ∀ e ∈ edges g N, e.1 < N := fun e he => by
  obtain ⟨n, hn, h⟩ := List.mem_flatMap.mp he
  obtain ⟨e', _, rfl⟩ := List.mem_map.mp h
  exact List.mem_range.mp hn
theorem preL_lt {g : Gr} {N a : Nat} : ∀ x ∈ preL (edges g N) a, x < N := fun x hx => by
  obtain ⟨e, he, rfl⟩ := List.mem_map.mp hx
  exact edges_lt e (List.mem_filter.mp he).1
theorem preL_len (l : List (Nat × Nat)) (a : Nat) : (preL l a).length ≤ l.length := by
  unfold preL
  rw [List.length_map]
  exact List.length_filter_le _ _
theorem addNew_sub : ∀ {l : List (Str × Nat)} {q : List Nat} {x : Nat}, x ∈ q → x ∈ addNew q l
  | [], _, _, h => h
  | e :: l, q, x, h => by
    rw [addNew_cons]
    refine addNew_sub ?_
    by_cases c : e.2 ∈ q
    · rw [if_pos c]
      exact h
    · rw [if_neg c]
      exact List.mem_append.mpr (.inl h)
/-! ### the graph as a dict -/
def kvsG (Ls : List Addr) : List (Key × V) := Ls.mapIdx fun i L => (keyI i, V.ref L)
theorem kvsG_snoc (Ls : List Addr) (L : Addr) : kvsG (Ls ++ [L]) = kvsG Ls ++ [(keyI Ls.length, .ref L)] := by
  unfold kvsG
  rw [List.mapIdx_append]
  simp
theorem kvsG_len (Ls : List Addr) : (kvsG Ls).length = Ls.length := by simp [kvsG]
theorem kvsG_at {Ls : List Addr} {i : Nat} {k : Key} {v : V} (h : (kvsG Ls)[i]? = some (k, v)) : ∃ L, Ls[i]? = some L ∧ k = keyI i ∧ v = .ref L := by
  unfold kvsG at h
  rw [List.getElem?_mapIdx] at h
  cases e : Ls[i]? with
  | none =>
    rw [e] at h
    cases h
  | some L =>
    rw [e] at h
    injection h with h
    obtain ⟨h1, h2⟩ := Prod.mk.inj h
    exact ⟨L, rfl, h1.symm, h2.symm⟩
/-- the lists of leads -/
def LsAt (H : Hp) (g : Gr) (Ls : List Addr) : Prop := ∀ i L, Ls[i]? = some L → ∃ ts, H L = some (.lst (ts.map V.ref)) ∧ LeadsAt H ts (g i)
/-- the nodes ahead of which node: for each one a list of its own -/
structure AheadF (H0 H : Hp) (b : Addr) (l : List (Nat × Nat)) (kvs : List (Key × V)) (Lf : Nat → Option Addr) : Prop where
  d : H b = some (.dK kvs)
  le : kvs.length ≤ l.length
  v : ∀ a, valV kvs (keyI a) = (Lf a).map V.ref
  at_ : ∀ a L, Lf a = some L → H0 L = none ∧ L ≠ b ∧ H L = some (.lst ((preL l a).map fun n => V.int (n : Nat)))
  no : ∀ a, Lf a = none → preL l a = []
  inj : ∀ a a' L, Lf a = some L → Lf a' = some L → a = a'
theorem AheadF.nil {H0 H : Hp} {b : Addr} (h : H b = some (.dK [])) : AheadF H0 H b [] [] fun _ => none := ⟨h, Nat.le_refl _, fun _ => rfl, fun _ _ e => (nomatch e), fun _ _ => rfl, fun _ _ _ e => (nomatch e)⟩
theorem AheadF.hit {H0 H : Hp} {b : Addr} {l : List (Nat × Nat)} {kvs : List (Key × V)} {Lf : Nat → Option Addr} (F : AheadF H0 H b l kvs Lf) {x a : Nat} {L M : Addr} (hL : Lf a = some L) (nM : H M = none) :
    AheadF H0 (upd (upd H M (.lst [])) L (.lst ((preL l a).map (fun n => V.int (n : Nat)) ++ [V.int (x : Nat)]))) b (l ++ [(x, a)]) kvs Lf := by
  obtain ⟨h1, h2, h3⟩ := F.at_ a L hL
  refine ⟨?_, by rw [List.length_append]; have := F.le; omega, F.v, fun c P hP => ?_, fun c hc => ?_, F.inj⟩
  · rw [upd_ne (Ne.symm h2)]
    exact Ext.new nM _ _ F.d
  · obtain ⟨k1, k2, k3⟩ := F.at_ c P hP
    refine ⟨k1, k2, ?_⟩
    rw [preL_append, preL_one]
    by_cases e : P = L
    · have ec : c = a := F.inj c a L (by rw [← e]; exact hP) hL
      rw [e, upd_same, ec, if_pos rfl, List.map_append]
      rfl
    · have ec : ¬ a = c := fun z => e (by rw [z, hP] at hL; exact Option.some.inj hL)
      rw [upd_ne e, if_neg ec, List.append_nil]
      exact Ext.new nM _ _ k3
  · rw [preL_append, preL_one, F.no c hc, if_neg fun z => by rw [z, hc] at hL; cases hL]
    rfl
theorem AheadF.new {H0 H : Hp} {b : Addr} {l : List (Nat × Nat)} {kvs : List (Key × V)} {Lf : Nat → Option Addr} (F : AheadF H0 H b l kvs Lf) {x a : Nat} {M : Addr} (hn : Lf a = none) (nM : H M = none) (n0 : H0 M = none) :
    AheadF H0 (upd (upd (upd H M (.lst [])) b (.dK (putK kvs (keyI a) (.ref M)))) M (.lst ([] ++ [V.int (x : Nat)]))) b (l ++ [(x, a)]) (putK kvs (keyI a) (.ref M)) (fun c => if c = a then some M else Lf c) := by
  have nv : valV kvs (keyI a) = none := by rw [F.v, hn]; rfl
  have bM : b ≠ M := ne_of_none F.d nM
  refine ⟨by rw [upd_ne bM, upd_same], ?_, fun c => ?_, fun c P hP => ?_, fun c hc => ?_, fun c c' P h1 h2 => ?_⟩
  · rw [putK_new _ nv, List.length_append, List.length_append]
    have := F.le
    simp
    omega
  · rw [valV_put]
    by_cases e : c = a
    · rw [if_pos e, e, if_pos rfl]
      rfl
    · rw [if_neg e, if_neg fun z => e (by unfold keyI at z; injection z with z; omega)]
      exact F.v c
  · rw [preL_append, preL_one]
    by_cases e : c = a
    · rw [if_pos e] at hP
      obtain rfl := Option.some.inj hP
      refine ⟨n0, bM.symm, ?_⟩
      rw [upd_same, if_pos e.symm, e, F.no a hn]
      rfl
    · rw [if_neg e] at hP
      obtain ⟨k1, k2, k3⟩ := F.at_ c P hP
      refine ⟨k1, k2, ?_⟩
      rw [upd_ne (ne_of_none k3 nM), upd_ne k2, if_neg (Ne.symm e), List.append_nil]
      exact Ext.new nM _ _ k3
  · by_cases e : c = a
    · rw [if_pos e] at hc
      cases hc
    · rw [if_neg e] at hc
      rw [preL_append, preL_one, F.no c hc, if_neg (Ne.symm e)]
      rfl
  · have other : ∀ d P, Lf d = some P → P ≠ M := fun d P h => ne_of_none (F.at_ d P h).2.2 nM
    by_cases e : c = a
    · rw [if_pos e] at h1
      obtain rfl := Option.some.inj h1
      by_cases e' : c' = a
      · rw [e, e']
      · rw [if_neg e'] at h2
        exact absurd rfl (other _ _ h2)
    · rw [if_neg e] at h1
      by_cases e' : c' = a
      · rw [if_pos e'] at h2
        obtain rfl := Option.some.inj h2
        exact absurd rfl (other _ _ h1)
      · rw [if_neg e'] at h2
        exact F.inj _ _ _ h1 h2
def spDist (K : PySem.W.Frag) : Sp := fun vs H Q _ => ∃ (kk : Bool) (gs gr : Addr) (goals : List Nat) (Ls : List Addr) (g : Gr) (N : Nat), vs = [.ref gs, .ref gr] ∧ SqK K kk H gs (goals.map fun n => V.int (n : Nat)) ∧ goals.Nodup ∧ (∀ x ∈ goals, x < N) ∧ H gr = some (.dK (kvsG Ls)) ∧ Ls.length = N ∧ LsAt H g Ls ∧
  N ≤ 100 ∧ (∀ n, n < N → ∀ e ∈ g n, e.2 < N) ∧ (∀ n, (g n).length ≤ 100) ∧
  ∀ (H' : Hp) (d : Addr) (kvs : List (Key × V)), Ext H H' → H d = none → H' d = some (.dK kvs) → kvs.map (·.1) = (closeL (preG g N) N goals).map keyI → Q (.ref d) H'
def DistW (H6 : Hp) (gs gr b D q : Addr) (N : Nat) (p : Gr) (R : List Nat) : Nat → L2.St → Hp → Prop := fun m σ H' => ∃ (v3 v4 v5 v6 v10 : Option V) (i : Nat) (Lq : List Nat) (kvs : List (Key × V)), m = N + 1 - i ∧
  σ = [some (.ref gs), some (.ref gr), some (.ref b), v3, v4, v5, v6, some (.ref D), some (.ref q), some (.int i), v10, none] ∧ Ext H6 H' ∧ H' q = some (.lst (Lq.map fun n => V.int (n : Nat))) ∧ H' D = some (.dK kvs) ∧ kvs.map (·.1) = Lq.map keyI ∧
  (∀ kv ∈ kvs, ∃ d : Int, kv.2 = .int d) ∧ Lq.Nodup ∧ (∀ x ∈ Lq, x < N) ∧ i ≤ Lq.length ∧ bfs p (N + 1 - i) Lq i = R
theorem val_int {kvs : List (Key × V)} {k : Key} {v : V} (h : valV kvs k = some v) (i : ∀ kv ∈ kvs, ∃ d : Int, kv.2 = .int d) : ∃ d : Int, v = .int d := by
  unfold valV at h
  cases e : kvs.find? fun kv => decide (kv.1 = k) with
  | none =>
    rw [e] at h
    cases h
  | some kv =>
    rw [e] at h
    obtain ⟨d, hd⟩ := i kv (List.mem_of_find?_eq_some e)
    exact ⟨d, by rw [← hd]; exact (Option.some.inj h).symm⟩
abbrev nDist : List Str := ["goals", "graph", "ahead", "node", "ways", "_", "after", "distances", "queue", "at", "before", "goal"]
section
variable {P : Program} {w : World} {K : PySem.W.Frag} {mg : Str → Option Value} {base : Heap}
theorem scDist : FnScope nDist ["goals", "graph"] (defScope sDist) := ⟨rfl, rfl, rfl, by decide +kernel, rfl, by decide +kernel, by decide +kernel⟩
theorem ok_dist {f : Addr} {fd : FuncData} (Fn : Fun K "distances_to" "distances_to" sDist f fd) (zn : mg "len" = none) (zl : mg "list" = none) : FnOk P w K mg base CX0 1 f fd ["goals", "graph"] (spDist K) := by
  refine Fun.ok Fn scDist (fun vs H Q E h => ?_) (fun cdv A0 outer s H vs Q E hr h => ?_)
  · obtain ⟨kb, gs, gr, goals, Ls, g, N, rfl, _⟩ := h
    rfl
  · obtain ⟨kb, gs, gr, goals, Ls, g, N, rfl, hgs, ndg, ltg, hgr, lLs, hLs, n100, glt, gle, kk⟩ := h
    have hu := hu_of hr
    refine ⟨_, pss_cons (ps_set (i := 2) scDist.nd rfl (.inl rfl) pe_dnewK)
      (pss_cons (ps_lock (ps_for PassesOwn.never rfl (pi_items (pv 1)) (pg_tup (by rfl) (pgs_cons (pg_name (i := 3) scDist.nd rfl (.inl rfl)) (pgs_cons (pg_name (i := 4) scDist.nd rfl (.inl rfl)) pgs_nil)))
        (pss_one (ps_for PassesOwn.never rfl (pi_list (pv 4)) (pg_tup (by rfl) (pgs_cons (pg_name (i := 5) scDist.nd rfl (.inl rfl)) (pgs_cons (pg_name (i := 6) scDist.nd rfl (.inl rfl)) pgs_nil)))
          (pss_one (ps_expr (pe_bm PySem.F.plainAttrs_list PySem.F.slot_list_append PySem.F.type_list_append mt_append (pe_dsetd (pv 2) (pv 6) (pe_lst pa_nil) ⟨rfl, rfl, rfl, rfl⟩) (pa_cons (pv 3) pa_nil))))))))
      (pss_cons (ps_setDc (i := 7) (own := [("goal", 11)]) (g := gName 11) (tt := tYes) (tk := tVar 11) (tv := tC (.int 0)) rfl scDist.nd rfl rfl (sw_trueD rfl rfl rfl (by decide +kernel)) (pi_seq (pv 0)) (blkOk_by (N := nDist) (sc := defScope sDist) (by decide +kernel))
          (fun _ _ _ _ _ => pg_name (i := 11) scDist.nd rfl (Or.inl rfl)) (fun _ _ _ _ _ => pts_nil) (fun _ _ _ _ _ => pv 11) (fun _ _ _ _ _ => pe_int))
      (pss_cons (ps_set (i := 8) scDist.nd rfl (.inl rfl) (pe_callTy call_list_of (by rfl) zl (by decide +kernel) (pa_cons (pv 0) pa_nil)))
      (pss_cons (ps_set (i := 9) scDist.nd rfl (.inl rfl) pe_int)
      (pss_cons (ps_while PassesOwn.never (pt_cmpR op_lt (pv 9) (pe_callB call_len_seq (by rfl) zn PySem.boot_len (pa_cons (pv 8) pa_nil)) (nomark _))
        (pss_cons (ps_set (i := 3) scDist.nd rfl (.inl rfl) (pe_ix ix_list (pv 8) (pv 9) (fun _ _ => rfl)))
        (pss_cons (ps_for PassesOwn.never rfl (pi_list (pe_dget2 hu (pv 2) (pv 3) (pe_lst pa_nil) ⟨rfl, rfl, rfl, rfl⟩)) (pg_name (i := 10) scDist.nd rfl (.inl rfl))
          (pss_one (ps_if (pt_cmp (pc_dnotin hu (pv 10) (pv 7))) (pss_cons (ps_dput hu (pv 7) (pv 10) (pe_op op_add (pe_dget hu (pv 7) (pv 3) (fun _ _ => rfl)) pe_int) rfl) (pss_one (ps_expr (pe_bm PySem.F.plainAttrs_list PySem.F.slot_list_append PySem.F.type_list_append mt_append (pv 8) (pa_cons (pv 10) pa_nil))))) pss_nil)))
        (pss_one (ps_aug (i := 9) scDist.nd rfl (.inl rfl) pe_int ip_add)))))
      (pss_one (ps_ret (pv 7)))))))), ?_⟩
    have sz0 : (0 : Nat) ≤ sizeLine := by decide
    refine fun b nb => ?_
    have x1 := Ext.new nb (o := .dK [])
    have hb1 : (upd H b (.dK [])) b = some (.dK []) := upd_same
    generalize upd H b (.dK []) = H1 at x1 hb1 ⊢
    have hgr1 := x1 _ _ hgr
    have nbg : b ≠ gr := (ne_of_none hgr nb).symm
    refine ⟨gr, _, hgr1, trivial, fun od => ?_⟩
    have gl : (upd H1 gr (.frz od (.dK (kvsG Ls)))) gr = some (.frz od (.dK (kvsG Ls))) := upd_same
    have out : ∀ a o, H1 a = some o → a ≠ gr → (upd H1 gr (.frz od (.dK (kvsG Ls)))) a = some o := fun a o e n => by
      rw [upd_ne n]
      exact e
    have hbl := out _ _ hb1 nbg
    generalize upd H1 gr (.frz od (.dK (kvsG Ls))) = Hl at gl out hbl ⊢
    have inl_ : ∀ a o, H a = some o → a ≠ gr → Hl a = some o ∧ a ≠ b := fun a o e n => ⟨out _ _ (x1 _ _ e) n, ne_of_none e nb⟩
    refine ⟨_, rfl, gr, od, kvsG Ls, rfl, gl, ?_⟩
    refine for_it walk_items (fun i σ H' => ∃ v3 v4 v5 v6 kvs Lf, σ = [some (.ref gs), some (.ref gr), some (.ref b), v3, v4, v5, v6, none, none, none, none, none] ∧ (∀ a o, Hl a = some o → a ≠ b → H' a = some o) ∧ AheadF Hl H' b (edges g i) kvs Lf)
      ⟨none, none, none, none, [], fun _ => none, rfl, fun _ _ e _ => e, AheadF.nil hbl⟩ (fun i σ H' _ ⟨_, _, _, _, _, _, _, kp, _⟩ => kp _ _ gl nbg.symm) ?_ ?_
    · rintro i x σ H3 H4 hi ⟨v3, v4, v5, v6, kvs, Lf, rfl, kp, ah⟩ ⟨T1, x', y', rfl, nT, rfl, q1, q2⟩
      obtain ⟨⟨k0, w0⟩, hkv⟩ : ∃ e, (kvsG Ls)[i]? = some e := ⟨_, List.getElem?_eq_getElem hi⟩
      dsimp only at q1 q2
      rw [hkv] at q1 q2
      obtain rfl := Option.some.inj q1
      obtain rfl := Option.some.inj q2
      obtain ⟨L, hL, rfl, rfl⟩ := kvsG_at hkv
      obtain ⟨ts, hts, lds⟩ := hLs i L hL
      have iN : i < N := by
        rw [kvsG_len] at hi
        omega
      have ldsl : LeadsAt Hl ts (g i) := lds.ext fun t xs e => (inl_ _ _ e (ne_of e hgr (by intro z; cases z))).1
      obtain ⟨hLl, nLb⟩ := inl_ _ _ hts (ne_of hts hgr (by intro z; cases z))
      have xT := Ext.new nT (o := .tup [kV (keyI i), V.ref L])
      refine ⟨T1, _, rfl, SqT.of upd_same, rfl, _, _, rfl, _, _, rfl, rfl, ?_⟩
      have kp4 : ∀ a o, Hl a = some o → a ≠ b → (upd H3 T1 (.tup [kV (keyI i), V.ref L])) a = some o := fun a o e n => xT _ _ (kp _ _ e n)
      have ah4 : AheadF Hl (upd H3 T1 (.tup [kV (keyI i), V.ref L])) b (edges g i) kvs Lf := ⟨xT _ _ ah.d, ah.le, ah.v, fun a P h => ⟨(ah.at_ a P h).1, (ah.at_ a P h).2.1, xT _ _ (ah.at_ a P h).2.2⟩, ah.no, ah.inj⟩
      generalize upd H3 T1 (.tup [kV (keyI i), V.ref L]) = H4 at kp4 ah4 ⊢
      refine ⟨_, rfl, L, rfl, ⟨_, SqL.of (kp4 _ _ hLl nLb)⟩, ?_⟩
      have elen : (edgesN g i).length = ts.length := by
        unfold edgesN
        rw [List.length_map, ldsl.len]
      refine for_it (walk_list (xs := ts.map V.ref)) (fun j σ H' => ∃ v5 v6 kvs Lf, σ = [some (.ref gs), some (.ref gr), some (.ref b), some (.int i), some (.ref L), v5, v6, none, none, none, none, none] ∧ (∀ a o, Hl a = some o → a ≠ b → H' a = some o) ∧ AheadF Hl H' b (edges g i ++ (edgesN g i).take j) kvs Lf)
        ⟨v5, v6, kvs, Lf, rfl, kp4, by simpa using ah4⟩ (fun j σ H' _ ⟨_, _, _, _, _, kp, _⟩ => SqL.of (kp _ _ hLl nLb)) ?_ ?_
      · rintro j y σ H5 H6 hj ⟨v5, v6, kvs, Lf, rfl, kp5, ah5⟩ ⟨rfl, hy⟩
        obtain ⟨t, htj, rfl⟩ := at_map hy
        obtain ⟨e, he, hte⟩ := ldsl.at_ htj
        have te6 := kp5 _ _ hte (ne_of hte hbl (by intro z; cases z))
        have l5 : (edges g i ++ (edgesN g i).take j).length ≤ 10000 := by
          have h1 := edges_len gle i
          have h2 := gle i
          rw [List.length_append, List.length_take]
          unfold edgesN
          rw [List.length_map]
          omega
        have lk := ah5.le
        have en : edges g i ++ (edgesN g i).take (j + 1) = (edges g i ++ (edgesN g i).take j) ++ [(i, e.2)] := by
          have : (edgesN g i)[j]? = some (i, e.2) := by
            unfold edgesN
            rw [List.getElem?_map, he]
            rfl
          rw [take_more this, List.append_assoc]
        refine ⟨t, _, rfl, SqT.of te6, rfl, _, _, rfl, _, _, rfl, rfl, ?_⟩
        refine ⟨_, rfl, b, rfl, .inl ⟨_, Rd.of ah5.d⟩, _, rfl, sz0, fun M nM => ⟨kvs, keyI e.2, Ext.new nM _ _ ah5.d, rfl, small_l (by omega), fun v hv => ?_, fun hv => ?_⟩⟩
        · rw [ah5.v] at hv
          cases hf : Lf e.2 with
          | none =>
            rw [hf] at hv
            cases hv
          | some P =>
            rw [hf] at hv
            obtain rfl := Option.some.inj hv
            obtain ⟨k1, k2, k3⟩ := ah5.at_ _ _ hf
            have k4 := Ext.new nM (o := .lst []) _ _ k3
            refine ⟨.inl ⟨rfl, _, SqL.of k4⟩, _, rfl, P, _, _, rfl, rfl, k4, by rw [List.length_map]; exact small_l (Nat.le_trans (preL_len _ _) l5), ?_⟩
            refine ⟨_, _, kvs, Lf, rfl, fun a o h n => ?_, ?_⟩
            · rw [upd_ne (ne_of_none h k1)]
              exact Ext.new nM _ _ (kp5 _ _ h n)
            · rw [en]
              exact ah5.hit hf nM
        · rw [ah5.v] at hv
          cases hf : Lf e.2 with
          | some P =>
            rw [hf] at hv
            cases hv
          | none =>
            have bM : b ≠ M := ne_of_none ah5.d nM
            have hM : (upd (upd H6 M (.lst [])) b (.dK (putK kvs (keyI e.2) (.ref M)))) M = some (.lst []) := by
              rw [upd_ne bM.symm]
              exact upd_same
            have M0 : Hl M = none := by
              cases z : Hl M with
              | none => rfl
              | some o =>
                have := kp5 _ _ z bM.symm
                rw [nM] at this
                cases this
            refine ⟨.inl ⟨rfl, _, SqL.of hM⟩, _, rfl, M, _, _, rfl, rfl, hM, by show 0 < sizeLine; decide, ?_⟩
            refine ⟨_, _, putK kvs (keyI e.2) (.ref M), fun c => if c = e.2 then some M else Lf c, rfl, fun a o h n => ?_, ?_⟩
            · rw [upd_ne (ne_of_none h M0), upd_ne n]
              exact Ext.new nM _ _ (kp5 _ _ h n)
            · rw [en]
              exact ah5.new hf nM M0
      · rintro σ H5 ⟨v5, v6, kvs, Lf, rfl, kp5, ah5⟩
        rw [List.length_map, ← elen, List.take_length, ← edges_succ] at ah5
        exact ⟨_, _, _, _, kvs, Lf, rfl, kp5, ah5⟩
    rintro σ H5 ⟨v3, v4, v5, v6, kvsA, Lf, rfl, kp5, ah5⟩
    rw [kvsG_len, lLs] at ah5
    refine ⟨kp5 _ _ gl nbg.symm, ?_⟩
    have x6 : Ext H (upd H5 gr (.dK (kvsG Ls))) := fun a o e => by
      by_cases c : a = gr
      · rw [c, upd_same, ← hgr, ← c]
        exact e
      · rw [upd_ne c]
        exact kp5 _ _ (inl_ _ _ e c).1 (inl_ _ _ e c).2
    have ng : ∀ a P, Lf a = some P → P ≠ gr := fun a P h z => by
      have := (ah5.at_ a P h).1
      rw [z, gl] at this
      cases this
    have hb6 : (upd H5 gr (.dK (kvsG Ls))) b = some (.dK kvsA) := by
      rw [upd_ne nbg]
      exact ah5.d
    have hL6 : ∀ a P, Lf a = some P → (upd H5 gr (.dK (kvsG Ls))) P = some (.lst ((preL (edges g N) a).map fun n => V.int (n : Nat))) := fun a P h => by
      rw [upd_ne (ng a P h)]
      exact (ah5.at_ a P h).2.2
    have hv6 := ah5.v
    have hno := ah5.no
    clear ah5 kp5
    generalize upd H5 gr (.dK (kvsG Ls)) = H6 at x6 hb6 hL6 ⊢
    -- the goals
    have hgs6 := hgs.ext x6
    have lgN := nodup_len ndg ltg
    refine ⟨_, rfl, kb, gs, rfl, ⟨_, hgs6⟩, fun D nD => ?_⟩
    refine dcW (walk_seq (xs := goals.map fun n => V.int (n : Nat))) (fun i H' => Ext H6 H' ∧ ∃ kvs, H' D = some (.dK kvs) ∧ kvs.map (·.1) = (goals.take i).map keyI ∧ ∀ kv ∈ kvs, ∃ d : Int, kv.2 = .int d) ⟨Ext.new nD, [], upd_same, rfl, fun _ h => (nomatch h)⟩ (fun i H' _ h => hgs6.ext h.1) ?_ ?_
    · rintro i x H7 H8 hi ⟨x7, kvs, d7, k7, i7⟩ ⟨rfl, hx⟩
      obtain ⟨z, hz, rfl⟩ := at_map hx
      have nz : z ∉ goals.take i := fun hm => by
        have h1 : (goals.take (i + 1)).Nodup := ndg.sublist (List.take_sublist _ _)
        rw [take_more hz] at h1
        exact (List.nodup_append.mp h1).2.2 z hm z (by simp) rfl
      have nv : valV kvs (keyI z) = none := by
        have := val_key k7 z
        rw [decide_eq_false nz] at this
        cases q : valV kvs (keyI z) with
        | none => rfl
        | some v =>
          rw [q] at this
          cases this
      have lk : kvs.length ≤ goals.length := by
        have := congrArg List.length k7
        rw [List.length_map, List.length_map, List.length_take] at this
        omega
      refine ⟨rfl, _, rfl, kvs, keyI z, rfl, d7, small_l (by omega), fun a o e => by rw [upd_ne (ne_of_none e nD)]; exact x7 _ _ e, _, upd_same, ?_, fun kv hkv => ?_⟩
      · rw [putK_new _ nv, take_more hz, List.map_append, List.map_append, k7]
        rfl
      · rw [putK_new _ nv] at hkv
        rcases List.mem_append.mp hkv with h | h
        · exact i7 kv h
        · rw [List.mem_singleton.mp h]
          exact ⟨0, rfl⟩
    rintro H7 ⟨x7, kvs, d7, k7, i7⟩
    rw [List.length_map, List.take_length] at k7
    refine ⟨_, rfl, gs, _, rfl, (hgs6.ext x7).or, fun q nq => ?_⟩
    have xq := Ext.new nq (o := .lst (goals.map fun n => V.int (n : Nat)))
    have hq8 : (upd H7 q (.lst (goals.map fun n => V.int (n : Nat)))) q = some (.lst (goals.map fun n => V.int (n : Nat))) := upd_same
    have d8 := xq _ _ d7
    have x8 := x7.trans xq
    have nDq : D ≠ q := ne_of_none d7 nq
    have nq6 := x7.free nq
    generalize upd H7 q (.lst (goals.map fun n => V.int (n : Nat))) = H8 at hq8 d8 x8 ⊢
    have plt : ∀ n, ∀ e ∈ preG g N n, e.2 < N := fun n e he => by
      obtain ⟨x, hx, rfl⟩ := List.mem_map.mp he
      exact preL_lt x hx
    refine ⟨DistW H6 gs gr b D q N (preG g N) (closeL (preG g N) N goals), ⟨_, _, _, _, _, none, 0, goals, kvs, rfl, rfl, x8, hq8, d8, k7, i7, ndg, ltg, Nat.zero_le _, rfl⟩, ?_⟩
    rintro m σ H9 ⟨v3, v4, v5, v6, v10, i, Lq, kvs, rfl, rfl, x9, hq, hD, hk, its, nd, lt, le, run⟩
    have lN := nodup_len nd lt
    refine ⟨_, rfl, _, rfl, q, _, rfl, .inl (SqL.of hq), _, _, rfl, rfl, _, rfl, ?_⟩
    rw [List.length_map]
    refine ite2 (fun c => ?_) (fun c => ?_)
    · have c : i < Lq.length := by have := of_decide_eq_true c; omega
      obtain ⟨x, hx⟩ : ∃ x, Lq[i]? = some x := ⟨Lq[i], List.getElem?_eq_getElem c⟩
      have xm := List.mem_of_getElem? hx
      refine ⟨DistW H6 gs gr b D q N (preG g N) (closeL (preG g N) N goals) (N - i), fun σ' H' h => ⟨_, by omega, h⟩, ?_⟩
      refine ⟨_, rfl, _, rfl, q, _, _, .int x, rfl, rfl, SqL.of hq, atI_nat (by rw [List.getElem?_map, hx]; rfl), ?_⟩
      have hb9 := x9 _ _ hb6
      refine ⟨_, rfl, b, rfl, .inl ⟨_, Rd.of hb9⟩, _, rfl, sz0, fun M nM => ⟨_, DGet.k (k := keyI x) (Ext.new nM _ _ hb9), ?_⟩⟩
      rw [hv6]
      have xM := Ext.new nM (o := .lst [])
      have hM : (upd H9 M (.lst [])) M = some (.lst []) := upd_same
      have x10 := x9.trans xM
      have hq10 := xM _ _ hq
      have hD10 := xM _ _ hD
      obtain ⟨Pl, eP, hP, nPD, nPq⟩ : ∃ Pl, ((Lf x).map V.ref).getD (.ref M) = .ref Pl ∧ (upd H9 M (.lst [])) Pl = some (.lst ((preL (edges g N) x).map fun n => V.int (n : Nat))) ∧ Pl ≠ D ∧ Pl ≠ q := by
        cases hf : Lf x with
        | none =>
          refine ⟨M, rfl, ?_, (ne_of_none hD nM).symm, (ne_of_none hq nM).symm⟩
          rw [hno x hf]
          exact hM
        | some L => exact ⟨L, rfl, x10 _ _ (hL6 x L hf), ne_of_none (hL6 x L hf) nD, ne_of_none (hL6 x L hf) nq6⟩
      rw [eP]
      clear eP hM
      generalize upd H9 M (.lst []) = H10 at x10 hq10 hD10 hP ⊢
      refine ⟨Pl, rfl, ⟨_, SqL.of hP⟩, ?_⟩
      refine for_it (walk_list (xs := (preL (edges g N) x).map fun n => V.int (n : Nat))) (fun j σ H' => ∃ v10 kvs, σ = [some (.ref gs), some (.ref gr), some (.ref b), some (.int x), v4, v5, v6, some (.ref D), some (.ref q), some (.int i), v10, none] ∧ Ext H6 H' ∧ H' Pl = some (.lst ((preL (edges g N) x).map fun n => V.int (n : Nat))) ∧
          H' q = some (.lst ((addNew Lq ((preG g N x).take j)).map fun n => V.int (n : Nat))) ∧ H' D = some (.dK kvs) ∧ kvs.map (·.1) = (addNew Lq ((preG g N x).take j)).map keyI ∧ ∀ kv ∈ kvs, ∃ d : Int, kv.2 = .int d)
        ⟨v10, kvs, rfl, x10, hP, hq10, hD10, hk, its⟩ (fun j σ H' _ ⟨_, _, _, _, h, _⟩ => SqL.of h) ?_ ?_
      · rintro j y σ H11 H12 hj ⟨v10, kvs, rfl, x11, hP11, hq11, hD11, hk11, in11⟩ ⟨rfl, hy⟩
        obtain ⟨a, haj, rfl⟩ := at_map hy
        have he : (preG g N x)[j]? = some (Str.ofString "", a) := by
          unfold preG
          rw [List.getElem?_map, haj]
          rfl
        have aN := plt x _ (List.mem_of_getElem? he)
        have ok5 := addNew_ok (N := N) nd lt (l := (preG g N x).take j) fun e he => plt x e (List.mem_of_mem_take he)
        have l5 := nodup_len ok5.1 ok5.2.1
        have lk5 : kvs.length = (addNew Lq ((preG g N x).take j)).length := by
          have := congrArg List.length hk11
          rwa [List.length_map, List.length_map] at this
        refine ⟨_, rfl, _, rfl, D, _, rfl, DGet.k (k := keyI a) hD11, _, rfl, ?_⟩
        rw [val_key hk11]
        have en : addNew Lq ((preG g N x).take (j + 1)) = if a ∈ addNew Lq ((preG g N x).take j) then addNew Lq ((preG g N x).take j) else addNew Lq ((preG g N x).take j) ++ [a] := by
          rw [take_more he, addNew_append, addNew_one]
        by_cases ce : a ∈ addNew Lq ((preG g N x).take j)
        · rw [decide_eq_true ce]
          refine iteF ⟨_, kvs, rfl, x11, hP11, ?_, hD11, ?_, in11⟩
          · rw [en, if_pos ce]
            exact hq11
          · rw [en, if_pos ce]
            exact hk11
        · rw [decide_eq_false ce]
          have xin : x ∈ addNew Lq ((preG g N x).take j) := addNew_sub xm
          have hsx := val_key hk11 x
          rw [decide_eq_true xin] at hsx
          obtain ⟨vx, hvx⟩ := Option.isSome_iff_exists.mp hsx
          obtain ⟨dx, rfl⟩ := val_int hvx in11
          have nv : valV kvs (keyI a) = none := by
            have := val_key hk11 a
            rw [decide_eq_false ce] at this
            cases z : valV kvs (keyI a) with
            | none => rfl
            | some v =>
              rw [z] at this
              cases this
          have gx : DGet H12 D (.int x) (some (.int dx)) := by
            rw [← hvx]
            exact DGet.k (k := keyI x) hD11
          refine iteT ⟨_, rfl, _, rfl, D, _, rfl, gx, _, _, rfl, rfl, _, rfl, _, rfl, D, _, rfl, DPut.k (k := keyI a) hD11 (small_l (by omega)), ?_⟩
          have q7 : (upd H12 D (.dK (putK kvs (keyI a) (.int (dx + 1))))) q = some (.lst ((addNew Lq ((preG g N x).take j)).map fun n => V.int (n : Nat))) := by
            rw [upd_ne nDq.symm]
            exact hq11
          refine ⟨_, rfl, .inl ⟨rfl, _, SqL.of q7⟩, _, rfl, q, _, _, rfl, rfl, q7, by rw [List.length_map]; exact small_l (by omega), ?_⟩
          refine ⟨_, putK kvs (keyI a) (.int (dx + 1)), rfl, fun c o h => ?_, ?_, ?_, ?_, ?_, fun kv hkv => ?_⟩
          · rw [upd_ne (ne_of_none h nq6), upd_ne (ne_of_none h nD)]
            exact x11 _ _ h
          · rw [upd_ne nPq, upd_ne nPD]
            exact hP11
          · rw [upd_same, en, if_neg ce, List.map_append]
            rfl
          · rw [upd_ne nDq, upd_same]
          · rw [en, if_neg ce, putK_new _ nv, List.map_append, List.map_append, hk11]
            rfl
          · rw [putK_new _ nv] at hkv
            rcases List.mem_append.mp hkv with h | h
            · exact in11 kv h
            · rw [List.mem_singleton.mp h]
              exact ⟨_, rfl⟩
      · rintro σ H11 ⟨v10, kvs, rfl, x11, hP11, hq11, hD11, hk11, in11⟩
        have pl : ((preL (edges g N) x).map fun n => V.int (n : Nat)).length = (preG g N x).length := by
          unfold preG
          rw [List.length_map, List.length_map]
        rw [pl, List.take_length] at hq11 hk11
        have ok5 := addNew_ok (N := N) nd lt (l := preG g N x) (plt x)
        refine ⟨_, rfl, _, _, rfl, rfl, ?_⟩
        refine ⟨some (.int x), v4, v5, v6, v10, i + 1, addNew Lq (preG g N x), kvs, by omega, ?_, x11, hq11, hD11, hk11, in11, ok5.1, ok5.2.1, by have := ok5.2.2; omega, ?_⟩
        · rfl
        · rw [← run, show N + 1 - i = (N + 1 - (i + 1)) + 1 by omega, bfs_step hx]
    · have c : Lq.length ≤ i := by
        have := of_decide_eq_false (Bool.not_eq_true _ ▸ c)
        omega
      rw [bfs_end c] at run
      refine ⟨_, rfl, kk _ D kvs (x6.trans x9) (x6.free nD) hD ?_⟩
      rw [hk, run]
end
end Sl
/-! ## M1 -/
set_option Elab.async false
set_option linter.all false
set_option maxRecDepth 100000
set_option maxHeartbeats 4000000
/-! what the searches find -/
namespace Sl
open PySem PySem.Spec PyProof.Rows L2
inductive Reach (g : Gr) (q : List Nat) : Nat → Prop
  | base {x : Nat} : x ∈ q → Reach g q x
  | step {x : Nat} {e : Str × Nat} : Reach g q x → e ∈ g x → Reach g q e.2
theorem Reach.mono {g : Gr} {q r : List Nat} (h : ∀ x ∈ q, Reach g r x) : ∀ {x}, Reach g q x → Reach g r x
  | _, .base m => h _ m
  | _, .step a m => (a.mono h).step m
theorem addNew_mem : ∀ {l : List (Str × Nat)} {q : List Nat} {x : Nat}, x ∈ addNew q l ↔ x ∈ q ∨ ∃ e ∈ l, e.2 = x
  | [], q, x => by simp [addNew_nil]
  | e :: l, q, x => by
    rw [addNew_cons, addNew_mem]
    by_cases c : e.2 ∈ q
    · rw [if_pos c]
      constructor
      · rintro (h | ⟨e', h, r⟩)
        · exact .inl h
        · exact .inr ⟨e', List.mem_cons_of_mem _ h, r⟩
      · rintro (h | ⟨e', h, r⟩)
        · exact .inl h
        · rcases List.mem_cons.mp h with rfl | h
          · exact .inl (r ▸ c)
          · exact .inr ⟨e', h, r⟩
    · rw [if_neg c]
      constructor
      · rintro (h | ⟨e', h, r⟩)
        · rcases List.mem_append.mp h with h | h
          · exact .inl h
          · exact .inr ⟨e, List.mem_cons_self, (List.mem_singleton.mp h).symm⟩
        · exact .inr ⟨e', List.mem_cons_of_mem _ h, r⟩
      · rintro (h | ⟨e', h, r⟩)
        · exact .inl (List.mem_append.mpr (.inl h))
        · rcases List.mem_cons.mp h with rfl | h
          · exact .inl (List.mem_append.mpr (.inr (by rw [r]; exact List.mem_singleton.mpr rfl)))
          · exact .inr ⟨e', h, r⟩
theorem addNew_pre : ∀ {l : List (Str × Nat)} {q : List Nat}, q <+: addNew q l
  | [], q => List.prefix_refl _
  | e :: l, q => by
    rw [addNew_cons]
    by_cases c : e.2 ∈ q
    · rw [if_pos c]
      exact addNew_pre
    · rw [if_neg c]
      exact (List.prefix_append _ _).trans addNew_pre
structure Found (g : Gr) (N : Nat) (q r : List Nat) : Prop where
  nd : r.Nodup
  lt : ∀ x ∈ r, x < N
  pre : q <+: r
  cl : ∀ x ∈ r, ∀ e ∈ g x, e.2 ∈ r
  re : ∀ x ∈ r, Reach g q x
theorem bfs_found {g : Gr} {N : Nat} {q0 : List Nat} (hlt : ∀ n, n < N → ∀ e ∈ g n, e.2 < N) : ∀ (n i : Nat) (q : List Nat), q.Nodup → (∀ x ∈ q, x < N) → i ≤ q.length → N + 1 ≤ n + i → (∀ j x, j < i → q[j]? = some x → ∀ e ∈ g x, e.2 ∈ q) → q0 <+: q → (∀ x ∈ q, Reach g q0 x) → Found g N q0 (bfs g n q i)
  | 0, i, q, nd, lt, le, hn, _, _, _ => by
    have := nodup_len nd lt
    omega
  | n + 1, i, q, nd, lt, le, hn, cl, pre, re => by
    by_cases c : i < q.length
    · obtain ⟨x, hx⟩ : ∃ x, q[i]? = some x := ⟨q[i], List.getElem?_eq_getElem c⟩
      have xm := List.mem_of_getElem? hx
      rw [bfs_step hx]
      have ok := addNew_ok (l := g x) nd lt (hlt x (lt x xm))
      refine bfs_found hlt n (i + 1) _ ok.1 ok.2.1 (by have := ok.2.2; omega) (by omega) (fun j y hj hy e he => ?_) (pre.trans addNew_pre) fun y hy => ?_
      · have hl : j < q.length := by omega
        have hy' : q[j]? = some y := by
          obtain ⟨t, ht⟩ := addNew_pre (l := g x) (q := q)
          rw [← ht, List.getElem?_append_left hl] at hy
          exact hy
        by_cases e1 : j = i
        · subst e1
          obtain rfl : x = y := Option.some.inj (hx.symm.trans hy')
          exact addNew_mem.mpr (.inr ⟨e, he, rfl⟩)
        · exact addNew_mem.mpr (.inl (cl j y (by omega) hy' e he))
      · rcases addNew_mem.mp hy with h | ⟨e, he, rfl⟩
        · exact re y h
        · exact (re x xm).step he
    · rw [bfs_end (by omega)]
      refine ⟨nd, lt, pre, fun x hx e he => ?_, re⟩
      obtain ⟨j, hj⟩ := List.getElem?_of_mem hx
      exact cl j x (by have := (List.getElem?_eq_some_iff.mp hj).1; omega) hj e he
theorem Found.iff {g : Gr} {N : Nat} {q r : List Nat} (F : Found g N q r) {x : Nat} : x ∈ r ↔ Reach g q x := by
  refine ⟨F.re x, fun h => ?_⟩
  induction h with
  | base m => exact F.pre.subset m
  | step _ m ih => exact F.cl _ ih _ m
theorem reachedL_found {g : Gr} {N first : Nat} (hlt : ∀ n, n < N → ∀ e ∈ g n, e.2 < N) (h : first < N) : Found g N [first] (reachedL g N first) :=
  bfs_found hlt (N + 1) 0 [first] (by simp) (by simpa using h) (Nat.zero_le _) (by omega) (fun _ _ h => absurd h (Nat.not_lt_zero _)) (List.prefix_refl _) fun x hx => .base hx
theorem closeL_found {g : Gr} {N : Nat} {goals : List Nat} (hlt : ∀ n, n < N → ∀ e ∈ g n, e.2 < N) (nd : goals.Nodup) (h : ∀ x ∈ goals, x < N) : Found g N goals (closeL g N goals) :=
  bfs_found hlt (N + 1) 0 goals nd h (Nat.zero_le _) (by omega) (fun _ _ h => absurd h (Nat.not_lt_zero _)) (List.prefix_refl _) fun x hx => .base hx
theorem preG_lt {g : Gr} {N : Nat} : ∀ n, ∀ e ∈ preG g N n, e.2 < N := fun n e he => by
  obtain ⟨x, hx, rfl⟩ := List.mem_map.mp he
  exact preL_lt x hx
theorem preG_mem {g : Gr} {N n x : Nat} : (∃ e ∈ preG g N n, e.2 = x) ↔ x < N ∧ ∃ e ∈ g x, e.2 = n := by
  constructor
  · rintro ⟨e, he, rfl⟩
    obtain ⟨y, hy, rfl⟩ := List.mem_map.mp he
    obtain ⟨p, hp, rfl⟩ := List.mem_map.mp hy
    obtain ⟨hp, h2⟩ := List.mem_filter.mp hp
    have h2 := of_decide_eq_true h2
    obtain ⟨m, hm, h⟩ := List.mem_flatMap.mp hp
    obtain ⟨e', he', rfl⟩ := List.mem_map.mp h
    exact ⟨List.mem_range.mp hm, e', he', h2⟩
  · rintro ⟨hx, e, he, rfl⟩
    refine ⟨(Str.ofString "", x), List.mem_map.mpr ⟨x, List.mem_map.mpr ⟨(x, e.2), List.mem_filter.mpr ⟨?_, decide_eq_true rfl⟩, rfl⟩, rfl⟩, rfl⟩
    exact List.mem_flatMap.mpr ⟨x, List.mem_range.mpr hx, List.mem_map.mpr ⟨e, he, rfl⟩⟩
/-- backwards: from x some way leads to a goal -/
inductive Leads (g : Gr) (q : List Nat) : Nat → Prop
  | base {x : Nat} : x ∈ q → Leads g q x
  | step {x : Nat} {e : Str × Nat} : e ∈ g x → Leads g q e.2 → Leads g q x
theorem closeL_iff {g : Gr} {N : Nat} {goals : List Nat} (nd : goals.Nodup) (h : ∀ x ∈ goals, x < N) {x : Nat} (hx : x < N) (glt : ∀ n, n < N → ∀ e ∈ g n, e.2 < N) : x ∈ closeL (preG g N) N goals ↔ Leads g goals x := by
  rw [(closeL_found (fun n _ => preG_lt n) nd h).iff]
  constructor
  · intro r
    clear hx
    induction r with
    | base m => exact .base m
    | step a m ih =>
      obtain ⟨_, e', h1, h2⟩ := preG_mem.mp ⟨_, m, rfl⟩
      rw [← h2] at ih
      exact .step h1 ih
  · intro l
    induction l with
    | base m => exact .base m
    | step m a ih =>
      have := ih (glt _ hx _ m)
      obtain ⟨e', h1, h2⟩ := preG_mem.mpr ⟨hx, _, m, rfl⟩
      rw [← h2]
      exact this.step h1
theorem closeL_len {g : Gr} {N : Nat} {goals : List Nat} (nd : goals.Nodup) (h : ∀ x ∈ goals, x < N) : (closeL (preG g N) N goals).length ≤ N :=
  let F := closeL_found (g := preG g N) (fun n _ => preG_lt n) nd h
  nodup_len F.nd F.lt
end Sl
/-! ## V8 -/
set_option Elab.async false
set_option linter.all false
set_option maxRecDepth 100000
set_option maxHeartbeats 4000000
/-! dicts whose keys are tuples of whole numbers, or of True and False: setdefault, len -/
namespace Sl
open PySem PySem.Spec PyProof.Rows L2
/-- an item of a key -/
def nkV : V → Option Int
  | .int i => some i
  | .bl b => some (if b = true then 1 else 0)
  | _ => none
def nk (l : List Int) : NestedKey := .tup (l.map NestedKey.num)
theorem nk_inj {l m : List Int} (h : nk l = nk m) : l = m := by
  unfold nk at h
  injection h with h
  induction l generalizing m with
  | nil =>
    cases m with
    | nil => rfl
    | cons a m => cases h
  | cons a l ih =>
    cases m with
    | nil => cases h
    | cons b m =>
      rw [List.map_cons, List.map_cons] at h
      injection h with h1 h2
      injection h1 with h1
      rw [h1, ih h2]
theorem nk_depth (l : List Int) : (nk l).depth ≤ 8 := by
  have : ∀ m : List Int, NestedKey.depthAll (m.map NestedKey.num) = 0 := fun m => by
    induction m with
    | nil => rfl
    | cons a m ih =>
      rw [List.map_cons, NestedKey.depthAll, ih]
      rfl
  unfold nk
  rw [NestedKey.depth, this]
  decide
theorem nk_all {h : Heap} : ∀ {vs : List V} {us : List Value} {l : List Int}, Vals vs us → vs.map nkV = l.map some → NestedAll h (l.map NestedKey.num) us
  | _, _, [], .nil, _ => .nil
  | v :: vs, u :: us, [], .cons r t, e => by cases e
  | _, _, i :: l, .nil, e => by cases e
  | v :: vs, u :: us, i :: l, .cons r t, e => by
    rw [List.map_cons, List.map_cons] at e
    injection e with e1 e2
    refine .cons ?_ (nk_all t e2)
    cases v with
    | int j =>
      obtain rfl : j = i := Option.some.inj e1
      obtain ⟨k, rfl⟩ := r
      exact .int _ _
    | bl b =>
      obtain rfl : u = .bool b := r
      exact .bool (Option.some.inj e1).symm
    | _ => cases e1
abbrev Ents := List (List Int × Addr × Value)
def entsN (xs : Ents) : List (NestedKey × Addr × Value) := xs.map fun x => (nk x.1, x.2)
/-- such a dict at d, by its entries -/
def NumO (P : Program) (w : World) (d : Addr) (xs : Ents) : HO := .ext fun h => (d == sysModules) = false ∧ ∃ o es ep, h.get? d = some o ∧ o.ExactDict ∧ o.data = .dict es ep ∧ es.toList = (entsN xs).map (entryOfKey (nestedKind P w)) ∧ ((entsN xs).map (·.1)).Nodup
structure NumE (H : Hp) (p : List Int × Nat) (x : List Int × Addr × Value) : Prop where
  key : x.1 = p.1
  at_ : ∃ vs, H x.2.1 = some (.tup vs) ∧ vs.map nkV = p.1.map some
  val : L2.RelV (.int (p.2 : Nat)) x.2.2
/-- .. its keys and values -/
def NumAt (P : Program) (w : World) (H : Hp) (d : Addr) (kvs : List (List Int × Nat)) : Prop := ∃ xs : Ents, H d = some (NumO P w d xs) ∧ Paired (NumE H) kvs xs
def numV (kvs : List (List Int × Nat)) (l : List Int) : Option Nat := (kvs.find? fun kv => decide (kv.1 = l)).map (·.2)
theorem NumAt.ext {P : Program} {w : World} {H H' : Hp} {d : Addr} {kvs : List (List Int × Nat)} (x : NumAt P w H d kvs) (hd : ∀ o, H d = some o → H' d = some o) (ht : ∀ t vs, H t = some (.tup vs) → H' t = some (.tup vs)) : NumAt P w H' d kvs := by
  obtain ⟨xs, e, p⟩ := x
  exact ⟨xs, hd _ e, Paired.mapP p fun a b r => ⟨r.key, let ⟨vs, h1, h2⟩ := r.at_; ⟨vs, ht _ _ h1, h2⟩, r.val⟩⟩
theorem num_find {H : Hp} : ∀ {kvs : List (List Int × Nat)} {xs : Ents} {l : List Int}, Paired (NumE H) kvs xs → (∀ m, numV kvs l = some m → ∃ p, atKey (entsN xs) (nk l) = some p ∧ L2.RelV (.int (m : Nat)) p.2) ∧ (numV kvs l = none → atKey (entsN xs) (nk l) = none)
  | _, _, _, .nil => ⟨fun _ h => (nomatch h), fun _ => rfl⟩
  | kv :: kvs, x :: xs, l, .cons r t => by
    have ih := num_find (l := l) t
    by_cases c : kv.1 = l
    · have c' : nk x.1 = nk l := by rw [r.key, c]
      have e1 : numV (kv :: kvs) l = some kv.2 := by simp [numV, c]
      have e2 : atKey (entsN (x :: xs)) (nk l) = some x.2 := by simp [atKey, entsN, c']
      rw [e1, e2]
      exact ⟨fun m hm => ⟨_, rfl, by rw [← Option.some.inj hm]; exact r.val⟩, fun z => (nomatch z)⟩
    · have c' : ¬ nk x.1 = nk l := fun z => c (by rw [← r.key]; exact nk_inj z)
      have e1 : numV (kv :: kvs) l = numV kvs l := by simp [numV, c]
      have e2 : atKey (entsN (x :: xs)) (nk l) = atKey (entsN xs) (nk l) := by simp [atKey, entsN, c']
      rw [e1, e2]
      exact ih
section
variable {X : Cx} {pins : List (Addr × Obj)} {σ : L2.St} {H : Hp} {s : Shared} {d : Addr}
theorem numO_ok {P : Program} {w : World} {h : Heap} {xs : Ents} (x : (d == sysModules) = false ∧ ∃ o es ep, h.get? d = some o ∧ o.ExactDict ∧ o.data = .dict es ep ∧ es.toList = (entsN xs).map (entryOfKey (nestedKind P w)) ∧ ((entsN xs).map (·.1)).Nodup) : ObjOk P w H h d (NumO P w d xs) :=
  ⟨x, let ⟨_, o, _, _, e, _⟩ := x; ⟨o, e⟩, fun h1 h2 ⟨z, o, es, ep, e, r⟩ k => ⟨z, o, es, ep, k _ e, r⟩⟩
theorem num_key {b : Addr} {vs : List V} {l : List Int} {h : Heap} {P : Program} {w : World} (ok : HOk P w H h) (e : H b = some (.tup vs)) (hv : vs.map nkV = l.map some) : (nestedKind P w).is h (nk l) b := by
  obtain ⟨_, its, r, o, ho, hc, n, hd⟩ := (show ObjOk P w H h b (.tup vs) from ok b _ e)
  exact ⟨.tup ho hc hd (nk_all r hv), nk_depth l⟩
theorem num_at {kvs : List (List Int × Nat)} {P : Program} {w : World} {h : Heap} (ok : HOk P w H h) {xs : Ents} (e : H d = some (NumO P w d xs)) (p : Paired (NumE H) kvs xs) : (d == sysModules) = false ∧ h.DictOfH (nestedKind P w) d (entsN xs) := by
  obtain ⟨⟨z, o, es, ep, ho, h1, h2, h3, h4⟩, _⟩ := ok d _ e
  refine ⟨z, o, es, ep, ho, h1, h2, h3, fun x hx => ?_, h4⟩
  obtain ⟨y, hy, rfl⟩ := List.mem_map.mp hx
  have : ∀ {kvs : List (List Int × Nat)} {xs : Ents}, Paired (NumE H) kvs xs → ∀ y ∈ xs, (nestedKind P w).is h (nk y.1) y.2.1 := fun {kvs xs} p => by
    induction p with
    | nil => exact fun _ h => (nomatch h)
    | cons r t ih =>
      intro y hy
      rcases List.mem_cons.mp hy with rfl | hy
      · obtain ⟨vs, h1, h2⟩ := r.at_
        rw [r.key]
        exact num_key ok h1 h2
      · exact ih y hy
  exact this p y hy
def tDNewN (P : Program) (w : World) : TE := fun _ H Q => ∀ p, H p = none → NumAt P w (upd H p (NumO P w p [])) p [] → Q (.ref p) (upd H p (NumO P w p []))
theorem pe_dnewN {pos : Pos} : PE X (.Dict [] [] pos) (tDNewN X.prog X.w) := ⟨fun pins s σ H Q I h => by
  have new : ObjOk X.prog X.w (upd H s.heap.objs.size (NumO X.prog X.w s.heap.objs.size [])) (s.heap.push { cls := .type "dict", data := .dict #[] }) s.heap.objs.size (NumO X.prog X.w s.heap.objs.size []) :=
    numO_ok ⟨beq_eq_false_iff_ne.mpr (Ne.symm (Nat.ne_of_lt I.big)), _, #[], 0, Heap.get?_push_size _ rfl, ⟨rfl, rfl, rfl⟩, rfl, rfl, List.nodup_nil⟩
  exact wpAny_Dict_empty ⟨.ref s.heap.objs.size, _, I.laid (a := s.heap.objs.size) (t' := s.toks) (fun _ _ q => Heap.get?_push_of_some _ q) (Nat.le_refl _) new, rfl, h _ (I.hok.fresh (Nat.le_refl _)) ⟨[], upd_same, .nil⟩⟩⟩
theorem call_lenN : CallR X (.builtin "len") (fun xs H Q => ∃ a kvs, xs = [V.ref a] ∧ NumAt X.prog X.w H a kvs ∧ kvs.length ≤ sizeLine ∧ Q (.int (kvs.length : Nat)) H) := by
  intro pins s σ H xs us Q I r h
  obtain ⟨p, kvs, rfl, ⟨ys, hp, pr⟩, z, q⟩ := h
  obtain ⟨u, rfl, rx⟩ := vals1 r
  obtain rfl : u = .ref p := rx
  obtain ⟨hd, dd⟩ := num_at I.hok hp pr
  have hl : kvs.length = (entsN ys).length := by
    unfold entsN
    rw [List.length_map]
    exact Paired.length pr
  refine call_len_dictH hd dd (by rw [← hl]; rw [sizeLine_eq] at z; omega) ?_
  rw [← hl]
  exact ⟨.int ((kvs.length : Nat) : Int), H, I.tok _, ⟨_, rfl⟩, q⟩
/-- d.setdefault(y, z) -/
def tDsetN (P : Program) (w : World) (td ty tx : TE) : TE := fun σ H Q => td σ H fun x H1 => ∃ a kvs, x = .ref a ∧ NumAt P w H1 a kvs ∧ ty σ H1 fun y H2 => tx σ H2 fun z H3 => ∃ (kvs : List (List Int × Nat)) (l : List Int) (n : Nat) (b : Addr) (vs : List V), NumAt P w H3 a kvs ∧ y = .ref b ∧ H3 b = some (.tup vs) ∧ vs.map nkV = l.map some ∧ z = .int n ∧ kvs.length < sizeLine ∧
  (∀ m, numV kvs l = some m → Q (.int (m : Nat)) H3) ∧ (numV kvs l = none → ∀ o, NumAt P w (upd H3 a o) a (kvs ++ [(l, n)]) → Q (.int n) (upd H3 a o))
variable {o e f : Expr} {td ty tx : TE} {apos cpos : Pos}
theorem pe_dsetN (hu : X.A.units + 9 < cLine) (ho : PE X o td) (he : PE X e ty) (hf : PE X f tx) (m : M2 X o "setdefault" apos e f cpos) : PE X (.Call (.Attribute o "setdefault" apos) [e, f] [] cpos) (tDsetN X.prog X.w td ty tx) := by
  refine ⟨fun pins s σ H Q I h => ?_⟩
  refine wpAny_Call_method m.base m.few m.line PySem.F.plainAttrs_dict PySem.F.slot_dict_setdefault PySem.F.type_dict_setdefault (thn (ho.run pins s σ H _ I h) fun u s1 ⟨x, H1, I1, rx, a, kvs0, ex, d, q1⟩ => ?_)
  subst ex
  obtain rfl : u = Value.ref a := rx
  obtain ⟨xs0, e0, p0⟩ := d
  obtain ⟨z0, dd0⟩ := num_at I1.hok e0 p0
  refine ⟨dd0.typeIs, fun b q => ?_, ?_⟩
  · cases q
    obtain ⟨ob, _, _, h1, h2, _⟩ := dd0
    exact ⟨ob, h1, h2.2.1⟩
  rw [m.trees]
  refine Calls.callWith_builtin rfl (Calls.evalArgs_plain (Calls.spliced_cons (thn (he.run pins s1 σ H1 _ I1 q1) fun iv s2 ⟨y, H2, I2, ry, q2⟩ =>
    Calls.spliced_cons (thn (hf.run pins s2 σ H2 _ I2 q2) fun fv s3 ⟨z, H3, I3, rz, kvs, l, n, b, vs, d3, ey, hb, hv, ez, hl, q3, q4⟩ => Calls.spliced_nil ?_))))
  subst ey
  subst ez
  obtain rfl : iv = Value.ref b := ry
  obtain ⟨xs, e3, p3⟩ := d3
  obtain ⟨z3, dd3⟩ := num_at I3.hok e3 p3
  have hlen : (entsN xs).length ≤ sizeLine := by
    unfold entsN
    rw [List.length_map, ← Paired.length p3]
    exact Nat.le_of_lt hl
  have F := num_find (l := l) p3
  refine call_setdefault_heap (hsz := hlen) (k := nk l) (by show X.A.units + 1 + 8 < cLine; exact hu) (num_key I3.hok hb hv) z3 dd3 (fun p hp => ?_) fun hn h' dd' hs => ?_
  · cases hm : numV kvs l with
    | none =>
      rw [F.2 hm] at hp
      cases hp
    | some m =>
      obtain ⟨p', e', r'⟩ := F.1 m hm
      obtain rfl : p' = p := Option.some.inj (e'.symm.trans hp)
      exact ⟨_, H3, I3.tok _, r', q3 m hm⟩
  · have hm : numV kvs l = none := by
      cases hm : numV kvs l with
      | none => rfl
      | some m =>
        obtain ⟨p', e', _⟩ := F.1 m hm
        rw [e'] at hn
        cases hn
    rw [storedH_new hn] at dd'
    obtain ⟨o', es, ep, ho', h1, h2, h3, h4, h5⟩ := dd'
    have en : entsN (xs ++ [(l, b, fv)]) = entsN xs ++ [(nk l, b, fv)] := by
      unfold entsN
      rw [List.map_append]
      rfl
    have new : ObjOk X.prog X.w (upd H3 a (NumO X.prog X.w a (xs ++ [(l, b, fv)]))) h' a (NumO X.prog X.w a (xs ++ [(l, b, fv)])) := numO_ok ⟨z3, o', es, ep, ho', h1, h2, by rw [en]; exact h3, by rw [en]; exact h5⟩
    have nt : ∀ t vs, H3 t = some (.tup vs) → (upd H3 a (NumO X.prog X.w a (xs ++ [(l, b, fv)]))) t = some (.tup vs) := fun t vs ht => by
      rw [upd_ne (ne_of ht e3 (by intro z; cases z))]
      exact ht
    refine ⟨.int n, _, d_write I3 (by rw [e3]; exact True.intro) hs ⟨o', ho'⟩ new, rz, q4 hm _ ⟨_, upd_same, ?_⟩⟩
    refine Paired.snoc (Paired.mapP p3 fun c y r => ⟨r.key, let ⟨ws, k1, k2⟩ := r.at_; ⟨ws, nt _ _ k1, k2⟩, r.val⟩) ⟨rfl, ⟨vs, nt _ _ hb, hv⟩, rz⟩
end
end Sl
/-! ## M2 -/
set_option Elab.async false
set_option linter.all false
set_option maxRecDepth 100000
set_option maxHeartbeats 4000000
/-! machines: rows, blocks, keys, numbers in the order in which keys are met -/
namespace Sl
open PySem PySem.Spec PyProof.Rows L2
def sgL (z : Str) : List Str := z.cps.toList.map fun c => ⟨#[c]⟩
theorem sgL_len (z : Str) : (sgL z).length = z.cps.size := by simp [sgL]
theorem sgL_at {z : Str} {i : Nat} {c : Nat} (h : z.cps[i]? = some c) : (sgL z)[i]? = some ⟨#[c]⟩ := by
  unfold sgL
  rw [List.getElem?_map, Array.getElem?_toList, h]
  rfl
def keyC (c : Str) : Key := Sum.inr c
def RowsAt (H : Hp) (rows : List Addr) (sg : List Str) (δ : Nat → Str → Nat) : Prop := ∀ i r, rows[i]? = some r → ∃ kvs, H r = some (.dK kvs) ∧ ∀ c ∈ sg, valV kvs (keyC c) = some (.int (δ i c : Nat))
theorem RowsAt.ext {H H' : Hp} (x : Ext H H') {rows : List Addr} {sg : List Str} {δ : Nat → Str → Nat} (h : RowsAt H rows sg δ) : RowsAt H' rows sg δ := fun i r e => let ⟨kvs, h1, h2⟩ := h i r e; ⟨kvs, x _ _ h1, h2⟩
def blkD (order : List Nat) (β : Nat → V) : List (Key × V) := order.map fun n => (keyI n, β n)
theorem keyI_inj {a b : Nat} (h : keyI a = keyI b) : a = b := by
  unfold keyI at h
  injection h with h
  omega
theorem blk_val (β : Nat → V) (n : Nat) : ∀ order : List Nat, valV (blkD order β) (keyI n) = if n ∈ order then some (β n) else none
  | [] => rfl
  | a :: l => by
    have ih := blk_val β n l
    unfold blkD at ih ⊢
    rw [List.map_cons]
    by_cases c : a = n
    · subst c
      rw [valV_pos rfl, if_pos List.mem_cons_self]
    · rw [valV_neg (fun e => c (keyI_inj e)), ih]
      by_cases m : n ∈ l
      · rw [if_pos m, if_pos (List.mem_cons_of_mem _ m)]
      · rw [if_neg m, if_neg (fun h => (List.mem_cons.mp h).elim (fun z => c z.symm) m)]
theorem blk_len (order : List Nat) (β : Nat → V) : (blkD order β).length = order.length := by simp [blkD]
theorem blk_keys (order : List Nat) (β : Nat → V) : (blkD order β).map (·.1) = order.map keyI := by
  unfold blkD
  rw [List.map_map]
  rfl
theorem blk_snoc (l : List Nat) (n : Nat) (β : Nat → V) : blkD (l ++ [n]) β = blkD l β ++ [(keyI n, β n)] := by
  unfold blkD
  rw [List.map_append]
  rfl
/-! ### keys, in the order in which they are met -/
def metL {α : Type} [DecidableEq α] (ks : List α) : List α := ks.foldl (fun acc k => if k ∈ acc then acc else acc ++ [k]) []
section
variable {α : Type} [DecidableEq α]
theorem metL_snoc (ks : List α) (k : α) : metL (ks ++ [k]) = if k ∈ metL ks then metL ks else metL ks ++ [k] := by
  unfold metL
  rw [List.foldl_append]
  rfl
theorem list_snoc {α : Type} {p : List α → Prop} (h0 : p []) (h1 : ∀ l a, p l → p (l ++ [a])) (l : List α) : p l := by
  have : ∀ l : List α, p l.reverse := fun l => by
    induction l with
    | nil => exact h0
    | cons a l ih =>
      rw [List.reverse_cons]
      exact h1 _ _ ih
  have := this l.reverse
  rwa [List.reverse_reverse] at this
theorem metL_mem (ks : List α) {k : α} : k ∈ metL ks ↔ k ∈ ks := by
  refine list_snoc (p := fun ks => k ∈ metL ks ↔ k ∈ ks) (by simp [metL]) (fun l a ih => ?_) ks
  rw [metL_snoc]
  by_cases c : a ∈ metL l
  · rw [if_pos c, ih]
    constructor
    · exact fun h => List.mem_append.mpr (.inl h)
    · intro h
      rcases List.mem_append.mp h with h | h
      · exact h
      · rw [List.mem_singleton.mp h]
        rw [List.mem_singleton.mp h] at ih
        exact ih.mp c
  · rw [if_neg c, List.mem_append, List.mem_append, ih]
theorem metL_nodup (ks : List α) : (metL ks).Nodup := by
  refine list_snoc (p := fun ks => (metL ks).Nodup) (by simp [metL]) (fun l a ih => ?_) ks
  rw [metL_snoc]
  by_cases c : a ∈ metL l
  · rwa [if_pos c]
  · rw [if_neg c]
    exact List.nodup_append.mpr ⟨ih, by simp, fun x hx y hy e => c (by rw [← List.mem_singleton.mp hy, ← e]; exact hx)⟩
theorem metL_pre (ks ms : List α) : metL ks <+: metL (ks ++ ms) := by
  refine list_snoc (p := fun ms => metL ks <+: metL (ks ++ ms)) (by simp) (fun l a ih => ?_) ms
  rw [← List.append_assoc, metL_snoc]
  by_cases c : a ∈ metL (ks ++ l)
  · rwa [if_pos c]
  · rw [if_neg c]
    exact ih.trans (List.prefix_append _ _)
theorem metL_len (ks : List α) : (metL ks).length ≤ ks.length := by
  refine list_snoc (p := fun ks => (metL ks).length ≤ ks.length) (by simp [metL]) (fun l a ih => ?_) ks
  rw [metL_snoc, List.length_append]
  by_cases c : a ∈ metL l
  · rw [if_pos c]
    omega
  · rw [if_neg c, List.length_append]
    simpa using ih
/-- where k stands first -/
def ixL : List α → α → Nat
  | [], _ => 0
  | a :: l, k => if a = k then 0 else ixL l k + 1
theorem ixL_app {k : α} : ∀ {l m : List α}, k ∈ l → ixL (l ++ m) k = ixL l k
  | [], _, h => nomatch h
  | a :: l, m, h => by
    rw [List.cons_append, ixL, ixL]
    by_cases c : a = k
    · rw [if_pos c, if_pos c]
    · rw [if_neg c, if_neg c, ixL_app ((List.mem_cons.mp h).resolve_left fun z => c z.symm)]
theorem idx_pre {l m : List α} {k : α} (h : l <+: m) (hk : k ∈ l) : ixL m k = ixL l k := by
  obtain ⟨t, rfl⟩ := h
  exact ixL_app hk
theorem idx_new {k : α} : ∀ {l : List α}, ¬ k ∈ l → ixL (l ++ [k]) k = l.length
  | [], _ => by simp [ixL]
  | a :: l, h => by
    rw [List.cons_append, ixL, if_neg (fun z => h (by rw [z]; exact List.mem_cons_self)), idx_new fun z => h (List.mem_cons_of_mem _ z)]
    rfl
theorem ixL_at {k : α} : ∀ {l : List α}, k ∈ l → l[ixL l k]? = some k
  | [], h => nomatch h
  | a :: l, h => by
    rw [ixL]
    by_cases c : a = k
    · rw [if_pos c, c]
      rfl
    · rw [if_neg c]
      exact ixL_at ((List.mem_cons.mp h).resolve_left fun z => c z.symm)
theorem ixL_lt {k : α} {l : List α} (h : k ∈ l) : ixL l k < l.length := (List.getElem?_eq_some_iff.mp (ixL_at h)).1
theorem ixL_inj {l : List α} {j k : α} (hj : j ∈ l) (hk : k ∈ l) (e : ixL l j = ixL l k) : j = k := by
  have := ixL_at hj
  rw [e, ixL_at hk] at this
  exact (Option.some.inj this).symm
theorem ixL_nodup : ∀ {l : List α} {i : Nat} {k : α}, l.Nodup → l[i]? = some k → ixL l k = i
  | [], _, _, _, h => by cases h
  | a :: l, 0, k, _, h => by
    rw [ixL, if_pos (Option.some.inj h)]
  | a :: l, i + 1, k, nd, h => by
    have h : l[i]? = some k := h
    have hm := List.mem_of_getElem? h
    rw [ixL, if_neg (fun z => (List.nodup_cons.mp nd).1 (by rw [z]; exact hm)), ixL_nodup (List.nodup_cons.mp nd).2 h]
end
/-- the numbers of keys -/
def numsOf (l : List (List Int)) : List (List Int × Nat) := l.mapIdx fun i k => (k, i)
theorem numsOf_snoc (l : List (List Int)) (k : List Int) : numsOf (l ++ [k]) = numsOf l ++ [(k, l.length)] := by
  unfold numsOf
  rw [List.mapIdx_append]
  simp
theorem numsOf_len (l : List (List Int)) : (numsOf l).length = l.length := by simp [numsOf]
theorem numsOf_val (k : List Int) (l : List (List Int)) : numV (numsOf l) k = if k ∈ l then some (ixL l k) else none := by
  refine list_snoc (p := fun l => numV (numsOf l) k = if k ∈ l then some (ixL l k) else none) (by simp [numsOf, numV]) (fun l a ih => ?_) l
  rw [numsOf_snoc]
  unfold numV at ih ⊢
  rw [List.find?_append]
  by_cases m : k ∈ l
  · rw [if_pos m] at ih
    rw [if_pos (List.mem_append.mpr (.inl m)), ixL_app m]
    cases e : (numsOf l).find? fun kv => decide (kv.1 = k) with
    | none =>
      rw [e] at ih
      cases ih
    | some kv =>
      rw [e] at ih
      exact ih
  · rw [if_neg m] at ih
    have e : ((numsOf l).find? fun kv => decide (kv.1 = k)) = none := by
      cases e : (numsOf l).find? fun kv => decide (kv.1 = k) with
      | none => rfl
      | some kv =>
        rw [e] at ih
        cases ih
    rw [e]
    by_cases c : a = k
    · subst c
      rw [if_pos (List.mem_append.mpr (.inr (List.mem_singleton.mpr rfl))), idx_new m]
      simp
    · rw [if_neg (fun h => (List.mem_append.mp h).elim m fun z => c (List.mem_singleton.mp z).symm)]
      simp [c]
def keyL (βi : Nat → Int) (sg : List Str) (δ : Nat → Str → Nat) (n : Nat) : List Int := βi n :: sg.map fun c => βi (δ n c)
end Sl
/-! ## V13 -/
set_option Elab.async false
set_option linter.all false
set_option maxRecDepth 100000
set_option maxHeartbeats 4000000
/-! the set of a text's signs: the call -/
namespace TxS
open PySem PySem.Spec PyProof.Rows L2 PySem.Froz
section
variable {P : Program} {w : World} {A : Around} {E : Value → Shared → Prop} {s : Shared}
theorem call_set_strTx {z : Str} {t0 : Tok} {Q : Value → Shared → Prop} (calm : A.handled = none) (room : (Sl.sgL z).length + 1 < scanBound)
    (fin : ∀ (h' : Heap) (tk : Nat), SetS P w h' s.heap.objs.size (addAll [] (Sl.sgL z)) →
      (∀ b o, s.heap.get? b = some o → h'.get? b = some o) → Q (.ref s.heap.objs.size) { s with heap := h', toks := tk }) :
    wpAny (model P w) A (call (.type "set") [.str z t0]) Q E s := by
  have mro := PySem.F.called_set.mro
  obtain ⟨top, rest, mro⟩ := mro
  have made := PySem.F.called_set.made
  have subs := PySem.F.called_set.sub
  have notType := PySem.F.called_set.notType
  have canBe := PySem.F.called_set.canCreate
  have checked := PySem.F.typeCall_set_1 (.str z t0)
  refine wpAny_call (codeAny_of_tree ?_)
  show wpAny _ _ (callAny (.type "set") _) _ _ _
  refine wpAny_pure ⟨Code.quiet_builtin _ (by decide +kernel),
    codeAny_builtin PySem.F.entry_type_call ?_⟩
  rw [Around.under_plain (weight_type_call_type "set" [.str z t0] [])
    rfl]
  repeat (any_goals (first | assumption | wp_step))
  let s0 : Shared := { s with heap := s.heap.push (emptyS w) }
  refine codeAny_mono (code_set_led1 (.str z t0) (E := E) (Q₁ := fun v t => v = .ref s.heap.objs.size ∧ t = s0) ⟨rfl, rfl⟩) fun r t hr => ?_
  cases r with
  | error e => exact hr
  | ok fl =>
    cases fl with
    | ret v =>
      obtain ⟨rfl, rfl⟩ := hr
      have at0 : s0.heap.get? s.heap.objs.size = some (emptyS w) := Heap.get?_push_size _ rfl
      have ty : s0.TypeIs (.ref s.heap.objs.size) "set" := ⟨_, at0, rfl⟩
      have look := PySem.F.called_set.init.lookup
      have binds := PySem.F.called_set.init.bind (.ref s.heap.objs.size)
      repeat (any_goals (first | assumption | wp_step))
      refine codeAny_mono (codeAny_call_builtin (R := wants (fun v t => v = .none ∧ ∃ h' tk, t = { s with heap := h', toks := tk } ∧
          SetS P w h' s.heap.objs.size (addAll [] (Sl.sgL z)) ∧ (∀ b o, s.heap.get? b = some o → h'.get? b = some o)) E)
        PySem.F.called_set.init.plain PySem.F.entry_set_init (check_set_init_1 ty ?_)) fun r2 t2 hr2 => ?_
      · have not1 := PySem.F.sub_str_set
        have not2 := PySem.F.sub_str_frozenset
        have not3 : (Value.type "str" == Value.type "dict") = false := by decide
        have size0 : s0.heap.objs.size = s.heap.objs.size + 1 := Heap.size_push ..
        unfold Builtin.«set.__init__» noKeywords Builtin.Frozenset.updateFrom
        generalize named : pyIter = PI
        have g0 : s0.gens = s.gens := rfl
        have d0 : s0.drawn = s.drawn := rfl
        have o0 : s0.os = s.os := rfl
        have old0 : ∀ b o, s.heap.get? b = some o → s0.heap.get? b = some o := fun b o e => Heap.get?_push_of_some _ e
        generalize s0 = z0 at *
        wp_walk
        subst named
        refine wpAny_pyIter_str fun ob St Wk st0 => wpAny_bind (wpAny_runValue ?_)
        have hA : A.in1.in1.in1.handled = none := by
          rw [← calm]
        have out : s.heap.objs.size ∉ [z0.heap.objs.size] := by
          intro c
          have e := List.mem_singleton.mp c
          rw [size0] at e
          exact absurd e (Nat.ne_of_lt (Nat.lt_succ_self _))
        have val : ∀ (i : Nat) (v : Value), SignAt z i v → ∃ k t, (Sl.sgL z)[i]? = some k ∧ v = .str k t := fun i v e => by
          obtain ⟨c, u, hc, rfl⟩ := e
          exact ⟨_, u, Sl.sgL_at hc, rfl⟩
        refine fillTx (Wk _ hA).toS s.heap.objs.size out (Sl.sgL z) (Sl.sgL_len z).symm val (z.cps.size - 0) 0 [] _ rfl (Nat.zero_le _) ?_ st0 ?_ ?_
        · have := Sl.sgL_len z
          show 0 + (z.cps.size - 0) + 1 < scanBound
          omega
        · exact emptyS_at (Heap.get?_push_of_some _ at0)
        · intro s3 m3 got
          obtain ⟨h3, g3, d3, t3, o3⟩ := s3
          have eg : g3 = s.gens := m3.gens.trans g0
          have ed : d3 = s.drawn := m3.drawn.trans d0
          have eo : o3 = s.os := m3.os.trans o0
          subst eg ed eo
          show wpAny _ _ _ _ _ _
          refine wpAny_pure ?_
          show wpAny _ _ (ret Value.none) _ _ _
          refine wpAny_pure ⟨rfl, h3, t3, rfl, got, fun b o e => ?_⟩
          have lb : b < s.heap.objs.size := Heap.lt_size e
          refine m3.heap b o (fun c => ?_) (Heap.get?_push_of_some _ (old0 b o e))
          rcases List.mem_cons.mp c with e | c
          · exact absurd e (Nat.ne_of_lt lb)
          · refine absurd (List.mem_singleton.mp c) (Nat.ne_of_lt ?_)
            rw [size0]
            exact Nat.lt_succ_of_lt lb
      · cases r2 with
        | error e => exact hr2
        | ok fl2 =>
          cases fl2 with
          | ret v =>
            obtain ⟨rfl, h', tk, rfl, got, old⟩ := hr2
            repeat (any_goals (first | assumption | wp_step))
            exact fin _ _ got old
          | _ => exact hr2.elim
    | _ => exact hr.elim
end
end TxS
/-! ## V7 -/
set_option Elab.async false
set_option linter.all false
set_option maxRecDepth 100000
set_option maxHeartbeats 4000000
/-! lambdas with captured names of others whose own parameters are captured, too -/
namespace Sl
open PySem PySem.Spec PyProof.Rows L2 LamX NdefX
/-! ### the frame -/
theorem lookApp {l m : List (Str × Addr)} {x : Str} {c : Addr} (h : l.lookup x = some c) : (l ++ m).lookup x = some c := by
  rw [List.lookup_append, h]
  rfl
theorem lookApp2 {l m : List (Str × Addr)} {x : Str} (h : l.lookup x = none) : (l ++ m).lookup x = m.lookup x := by
  rw [List.lookup_append, h]
  rfl
theorem store_same {env : Env} {cs : List (Str × Addr)} {n : Str} {v : Value} (h : env.kindOf n = some .local ∨ env.cells.lookup n = cs.lookup n) : storeName env n v = storeName { env with cells := cs } n v := by
  rcases h with h | h
  · have h' : ({ env with cells := cs } : Env).kindOf n = some .local := h
    unfold storeName
    rw [h, h']
    rfl
  · unfold storeName PySem.cellOf
    rw [h]
    rfl
theorem store_all {env : Env} {cs : List (Str × Addr)} {f g : Str × Value → PUnit → Sem (ForInStep PUnit)} (hf : ∀ n v u, f (n, v) u = (do storeName env n v; pure (.yield ⟨⟩))) (hg : ∀ n v u, g (n, v) u = (do storeName { env with cells := cs } n v; pure (.yield ⟨⟩))) :
    ∀ {binds : List (Str × Value)}, (∀ x ∈ binds, env.kindOf x.1 = some .local ∨ env.cells.lookup x.1 = cs.lookup x.1) → forIn binds ⟨⟩ f = forIn binds ⟨⟩ g
  | [], _ => by rw [List.forIn_nil, List.forIn_nil]
  | (n, v) :: r, h => by
    have ih := store_all (binds := r) hf hg fun x hx => h x (List.mem_cons_of_mem _ hx)
    rw [List.forIn_cons, List.forIn_cons, hf, hg, store_same (n := n) (h (n, v) List.mem_cons_self)]
    refine congrArg _ (funext fun x => ?_)
    cases x with
    | done b => rfl
    | yield b => exact ih
/-- the frame of a function that captured cl, and some of whose own names are captured -/
theorem frame_cl {M : Model} {A : Around} {E : Value → Shared → Prop} {s : Shared} {sc : Scope} {gl : Addr} {cl : List (Str × Addr)} {binds : List (Str × Value)} {qual : Str} {fn : Option Addr} {cd : Value} {bl : Addr} {Q : Env → Shared → Prop} (hk : sc.kind = .function)
    (hb : ∀ x ∈ binds, sc.names.lookup x.1 = some .local ∨ (sc.names.lookup x.1 = some .cell ∧ ((cellsFrom (s.heap.objs.size + 1) sc.names []).lookup x.1).isSome = true))
    (h : ∀ s', InCallC s s.heap.objs.size (bindL (fun y => sc.names.lookup y) binds fun _ => none) (cellsFrom (s.heap.objs.size + 1) sc.names []) (bindC (fun y => sc.names.lookup y) binds fun _ => none) s' →
      Q (newEnv sc s.heap.objs.size gl (cellsFrom (s.heap.objs.size + 1) sc.names cl) qual fn cd none bl) s') :
    wpAny M A (newFunctionEnv sc gl cl binds qual fn cd none bl) Q E s := by
  simp only [newFunctionEnv, Option.isSome_none, Bool.false_eq_true, if_false]
  refine wpAny_bind (wpAny_alloc (wpAny_bind (wpAny_layCells _ (fun nm kd cells => by cases hq : kd == NameKind.cell <;> simp [hq]) sc.names cl _ _ ?_)))
  rw [show ({ s with heap := s.heap.push { cls := .type "frame", data := .dict #[] } } : Shared).heap.objs.size = s.heap.objs.size + 1 from Heap.size_push ..]
  have k := cellsFrom_ok sc.names (s.heap.push { cls := .type "frame", data := .dict #[] }) (s.heap.objs.size + 1) [] ⟨fun _ _ e => (nomatch e), .nil⟩ (Nat.le_of_eq (Heap.size_push ..).symm)
  rw [Heap.size_push] at k
  have keep : ∀ b o, s.heap.get? b = some o → (pushCells (s.heap.push { cls := .type "frame", data := .dict #[] }) sc.names).get? b = some o := fun b o e => pushCells_keeps _ _ b o (Heap.get?_push_of_some _ e)
  refine wpAny_bind ?_
  rw [store_all (cs := cellsFrom (s.heap.objs.size + 1) sc.names []) (g := fun x _ => do storeName { (newEnv sc s.heap.objs.size gl (cellsFrom (s.heap.objs.size + 1) sc.names cl) qual fn cd none bl) with cells := cellsFrom (s.heap.objs.size + 1) sc.names [] } x.1 x.2; pure (.yield ⟨⟩)) (fun _ _ _ => rfl) (fun _ _ _ => rfl) fun x hx => ?_]
  · exact wpAny_bindParams (s₀ := s) (env := { (newEnv sc s.heap.objs.size gl (cellsFrom (s.heap.objs.size + 1) sc.names cl) qual fn cd none bl) with cells := cellsFrom (s.heap.objs.size + 1) sc.names [] }) _ (fun _ _ _ => rfl) hk binds (fun _ => none) (fun _ => none) _ _
      ⟨⟨⟨_, _, rfl⟩, (Heap.Ns.new s.heap (.type "frame")).keeps (pushCells_keeps _ _), keep, Nat.le_refl _⟩, fun n c e => (k.empty n c (mem_of_lookup e)).1, k.apart, fun n c e => (k.empty n c e).2⟩ hb fun s' x => wpAny_pure (h s' x)
  · rcases hb x hx with e | ⟨_, e⟩
    · exact .inl e
    · refine .inr ?_
      obtain ⟨c, e⟩ := Option.isSome_iff_exists.mp e
      show (cellsFrom (s.heap.objs.size + 1) sc.names cl).lookup x.1 = _
      rw [cellsFrom_over, lookApp e, e]
/-- its names: the parameters, then what it captured, then its locals -/
structure CScope (N ps fr : List Str) (sc : Scope) : Prop where
  kind : sc.kind = .function
  co : sc.isCoroutine = false
  gen : sc.isGenerator = false
  nd : N.Nodup
  pre : N.take (ps.length + fr.length) = ps ++ fr
  par : ∀ x ∈ ps, sc.names.lookup x = some .local ∨ sc.names.lookup x = some .cell
  nfr : ∀ y ∈ sc.names, y.2 = .cell → y.1 ∉ fr
  free : ∀ y ∈ sc.names, y.2 = .free → y.1 ∈ fr
  frk : ∀ x ∈ fr, sc.names.lookup x = some .free
def cscB (N ps fr : List Str) (sc : Scope) : Bool := decide (sc.kind = .function) && (!sc.isCoroutine && (!sc.isGenerator && (decide N.Nodup && (decide (N.take (ps.length + fr.length) = ps ++ fr) && (ps.all (fun x => decide (sc.names.lookup x = some .local) || decide (sc.names.lookup x = some .cell)) &&
  (sc.names.all (fun y => !decide (y.2 = .cell) || !decide (y.1 ∈ fr)) && (sc.names.all (fun y => !decide (y.2 = .free) || decide (y.1 ∈ fr)) && fr.all (fun x => decide (sc.names.lookup x = some .free)))))))))
theorem cscope_by {N ps fr : List Str} {sc : Scope} (h : cscB N ps fr sc = true) : CScope N ps fr sc := by
  unfold cscB at h
  simp only [Bool.and_eq_true, Bool.not_eq_true', decide_eq_true_eq, List.all_eq_true, Bool.or_eq_true, decide_eq_false_iff_not] at h
  obtain ⟨h1, h2, h3, h4, h5, h6, h7, h8, h9⟩ := h
  exact ⟨h1, h2, h3, h4, h5, h6, fun y hy e => (h7 y hy).elim (fun z => absurd e z) id, fun y hy e => (h8 y hy).elim (fun z => absurd e z) id, h9⟩
/-- the cells' names are names of cells -/
theorem from_cell : ∀ (names : List (Str × NameKind)) (n : Nat) {x : Str} {c : Addr}, (cellsFrom n names []).lookup x = some c → (x, NameKind.cell) ∈ names
  | [], _, _, _, h => by cases h
  | (y, kd) :: r, n, x, c, h => by
    by_cases e : kd = .cell
    · subst e
      have h : (cellsFrom (n + 1) r ([(y, n)])).lookup x = some c := h
      rw [show ([(y, n)] : List (Str × Addr)) = [] ++ [(y, n)] from rfl, cellsFrom_append] at h
      cases q : (cellsFrom (n + 1) r []).lookup x with
      | some c' => exact List.mem_cons_of_mem _ (from_cell r (n + 1) q)
      | none =>
        rw [lookApp2 q, List.lookup_cons] at h
        cases z : x == y with
        | true =>
          rw [beq_iff_eq.mp z]
          exact List.mem_cons_self
        | false =>
          rw [z] at h
          cases h
    · unfold cellsFrom at h
      have e' : (kd == NameKind.cell) = false := by cases kd <;> first | rfl | exact absurd rfl e
      rw [e'] at h
      exact List.mem_cons_of_mem _ (from_cell r n h)
abbrev envG (F : NF) (f L : Addr) : Env := PySem.W.envX F.qual F.scope L f (.ref F.c) (cellsFrom (L + 1) F.scope.names F.cl)
/-- the context of its body -/
def gcx (CX : CXT) (P : Program) (w : World) (K : PySem.W.Frag) (mg : Str → Option Value) (base : Heap) (N : List Str) (F : NF) (f : Addr) (A : Around) (outer : List Env) (s : Shared) (H : Hp) (E : XK) : Cx where
  prog := P
  w := w
  K := K
  mg := mg
  base := base
  A := A.deeper (envG F f s.heap.objs.size)
  N := N
  s_0 := s
  H_0 := H
  env := envG F f s.heap.objs.size
  outer := outer
  stack := envG F f s.heap.objs.size :: outer
  ex := []
  calm := true
  fn := fun _ => false
  pn := []
  xe := fun e s' => wpAny (model P w) (A.deeper (envG F f s.heap.objs.size)) (leaving (envG F f s.heap.objs.size) e) (fun _ s'' => CX outer H s E e s'') (fun e' s'' => CX outer H s E e' s'') s'
section
variable {CX : CXT} {P : Program} {w : World} {K : PySem.W.Frag} {mg : Str → Option Value} {base : Heap} {N ps fr : List Str} {F : NF} {f : Addr} {A : Around} {outer : List Env} {s s1 : Shared} {H : Hp} {E : XK} {us : List Value} {vs : List V} {ws : List (Option V)}
theorem inv_startC (S : CScope N ps fr F.scope) (hd : A.handled = none) (e0 : Env0 P w K mg base A outer s H) (hl : vs.length = ps.length) (r : Vals vs us) (C : CellsAt F.cl fr ws s.heap H)
    (x : InCallC s s.heap.objs.size (bindL (fun y => F.scope.names.lookup y) (ps.zip us) fun _ => none) (cellsFrom (s.heap.objs.size + 1) F.scope.names []) (bindC (fun y => F.scope.names.lookup y) (ps.zip us) fun _ => none) s1) :
    Inv (gcx CX P w K mg base N F f A outer s H E) [] (startF N vs ws) H s1 := by
  have hpl : ps.length + fr.length ≤ N.length := by
    have q := congrArg List.length S.pre
    rw [List.length_take, List.length_append] at q
    omega
  obtain ⟨h1, tk, rfl, kp⟩ := x.done
  have cellK : ∀ {c : Addr} {v : Option Value}, s.heap.IsCell c v → h1.IsCell c v := fun ⟨o, ho, hd⟩ => ⟨o, kp _ _ ho, hd⟩
  -- a name of the environment's cells: an own one, or a captured one
  have two : ∀ y c, (cellsFrom (s.heap.objs.size + 1) F.scope.names F.cl).lookup y = some c → (cellsFrom (s.heap.objs.size + 1) F.scope.names []).lookup y = some c ∨ ((cellsFrom (s.heap.objs.size + 1) F.scope.names []).lookup y = none ∧ F.cl.lookup y = some c) := fun y c e => by
    rw [cellsFrom_over] at e
    cases q : (cellsFrom (s.heap.objs.size + 1) F.scope.names []).lookup y with
    | some c' =>
      rw [lookApp q] at e
      exact .inl e
    | none =>
      rw [lookApp2 q] at e
      exact .inr ⟨rfl, e⟩
  have low : ∀ y c, F.cl.lookup y = some c → c < s.heap.objs.size := fun y c e => by
    obtain ⟨_, v, o, ho, _⟩ := C.all y c e
    exact Heap.lt_size ho
  have own : ∀ y c, (cellsFrom (s.heap.objs.size + 1) F.scope.names []).lookup y = some c → (cellsFrom (s.heap.objs.size + 1) F.scope.names F.cl).lookup y = some c := fun y c e => by
    rw [cellsFrom_over, lookApp e]
  have cap : ∀ y c, y ∈ fr → F.cl.lookup y = some c → (cellsFrom (s.heap.objs.size + 1) F.scope.names F.cl).lookup y = some c := fun y c hy e => by
    rw [cellsFrom_over]
    cases q : (cellsFrom (s.heap.objs.size + 1) F.scope.names []).lookup y with
    | some c' => exact absurd hy (S.nfr _ (from_cell _ _ q) rfl)
    | none => rw [lookApp2 q, e]
  have noA : ∀ b : Addr, b ∉ (gcx CX P w K mg base N F f A outer s H E).ex := fun b z => absurd (show b ∈ ([] : List Addr) from z) (by simp)
  refine ⟨⟨e0.mod, S.kind, rfl, rfl, Nat.le_refl _, fun y z c h1 h2 => ?_, fun y hy => ?_, fun y c z _ => ?_, fun _ => hd, Around.frames_deeper e0.frames, .inr ⟨rfl, rfl⟩, fun b z => absurd z (noA b), e0.bs, e0.bsz, fun b _ _ => noA b,
      fun b z => absurd z (noA b), e0.funs, e0.frf⟩,
    rfl, e0.bare, Un.kept kp, ⟨_, x.toInCall.ns, fun i y v e1 e2 e3 => ?_⟩, fun y c e => ?_, e0.hok.fresh (Nat.le_refl _), fun y c e => ?_, fun q hq => absurd (show q ∈ ([] : List (Addr × Obj)) from hq) (by simp), e0.hok.kept kp, ?_⟩
  · have h1 : (cellsFrom (s.heap.objs.size + 1) F.scope.names F.cl).lookup y = some c := h1
    have h2 : (cellsFrom (s.heap.objs.size + 1) F.scope.names F.cl).lookup z = some c := h2
    rcases two _ _ h1 with a | ⟨_, a⟩ <;> rcases two _ _ h2 with b | ⟨_, b⟩
    · exact name_of_addr x.apart (mem_of_lookup a) (mem_of_lookup b)
    · have k1 := x.above _ _ (mem_of_lookup a)
      exact absurd (low _ _ b) (Nat.not_lt.mpr (Nat.le_of_lt k1))
    · have k1 := x.above _ _ (mem_of_lookup b)
      exact absurd (low _ _ a) (Nat.not_lt.mpr (Nat.le_of_lt k1))
    · exact C.inj _ _ _ a b
  · have hy : F.scope.names.lookup y = some .cell ∨ F.scope.names.lookup y = some .free := hy
    show ∃ c, (cellsFrom (s.heap.objs.size + 1) F.scope.names F.cl).lookup y = some c
    rcases hy with hy | hy
    · obtain ⟨c, e⟩ := cell_has (n := s.heap.objs.size + 1) hy
      exact ⟨c, own y c e⟩
    · have hf := S.free _ (mem_of_lookup hy) rfl
      obtain ⟨i, hi⟩ := List.mem_iff_getElem?.mp hf
      obtain ⟨c, hc, _⟩ := C.has i y hi
      exact ⟨c, cap y c hf hc⟩
  · have z : false = true := z
    cases z
  · have e1 : N[i]? = some y := e1
    have clen := C.len
    unfold startF at e2
    by_cases h1 : i < ps.length
    · have hq : (ps ++ fr)[i]? = some y := by
        rw [← S.pre, List.getElem?_take_of_lt (by omega)]
        exact e1
      rw [List.getElem?_append_left h1] at hq
      rw [List.getElem?_append_left (by rw [List.length_map]; omega), List.getElem?_map] at e2
      have ha : vs[i]? = some v := by
        cases e : vs[i]? with
        | none => rw [e] at e2; cases e2
        | some a => rw [e] at e2; cases e2; rfl
      obtain ⟨u, hu, rv⟩ := r.get ha
      have ndP : ps.Nodup := by
        have q := S.nd.sublist (List.take_sublist (ps.length + fr.length) N)
        rw [S.pre] at q
        exact (List.nodup_append.mp q).1
      refine ⟨u, rv, ?_⟩
      rcases S.par y (List.mem_of_getElem? hq) with kd | kd
      · exact .inl ⟨kd, bindL_get ndP hq hu kd⟩
      · obtain ⟨c, e⟩ := cell_has (n := s.heap.objs.size + 1) kd
        refine .inr ⟨.inl kd, c, own y c e, ?_⟩
        have q := x.cell y c e
        rw [bindC_get ndP hq hu (by show F.scope.names.lookup y ≠ _; rw [kd]; decide)] at q
        exact q
    · rw [List.getElem?_append_right (by rw [List.length_map]; omega), List.length_map] at e2
      by_cases h2 : i < ps.length + fr.length
      · have hq : (ps ++ fr)[i]? = some y := by
          rw [← S.pre, List.getElem?_take_of_lt (by omega)]
          exact e1
        rw [List.getElem?_append_right (by omega)] at hq
        rw [List.getElem?_append_left (by omega), hl] at e2
        obtain ⟨c, hc, hv⟩ := C.has (i - ps.length) y hq
        obtain ⟨u, ru, hu⟩ := hv v e2
        have hf := List.mem_of_getElem? hq
        exact ⟨u, ru, .inr ⟨.inr (S.frk y hf), c, cap y c hf hc, cellK hu⟩⟩
      · rw [List.getElem?_append_right (by omega), List.getElem?_replicate] at e2
        split at e2 <;> cases e2
  · rcases two _ _ e with a | ⟨_, a⟩
    · exact ⟨_, x.cell y c a⟩
    · obtain ⟨v, z⟩ := (C.all y c a).2
      exact ⟨v, cellK z⟩
  · rcases two _ _ e with a | ⟨_, a⟩
    · exact e0.hok.fresh (Nat.le_of_lt (x.above y c (mem_of_lookup a)))
    · exact (C.all y c a).1
  · have clen := C.len
    unfold startF
    show _ = N.length
    rw [List.length_append, List.length_append, List.length_map, List.length_replicate]
    omega
end
section
variable {CX : CXT} {P : Program} {w : World} {K : PySem.W.Frag} {mg : Str → Option Value} {base : Heap} {N ps fr : List Str} {F : LF} {f : Addr} {k j : Nat} {sp sp' : List (Option V) → Sp}
/-- THE RULE: such a lambda by its body -/
theorem lok_ofC (S : CScope N ps fr F.scope) (hb : ∀ (pm ctv : Value) (us : List Value), us.length = ps.length → bindArgs (F.fd pm ctv) ⟨us, []⟩ = pure (ps.zip us)) (len : ∀ ws vs H Q E, sp ws vs H Q E → vs.length = ps.length)
    (hbody : ∀ (f : Addr) (A : Around) (outer : List Env) (s : Shared) (H : Hp) (vs : List V) (ws : List (Option V)) (Q : VK) (E : XK), Room k (A.deeper (envG F.nf f s.heap.objs.size)) → H f = some (LamO f F) → H F.c = some (CodeO F.c F.qual) → ws.length = fr.length → sp ws vs H Q E →
      ∃ t, PE (gcx CX P w K mg base N F.nf f A outer s H E) F.body t ∧ t (startF N vs ws) H Q) :
    LOk P w K mg base CX (k + 1) F ps fr sp := by
  refine ⟨len, fun f A outer s H us vs ws Q E hr e0 hf hc C r hsp => ?_⟩
  have hl := len _ _ _ _ _ hsp
  have lim : s.heap.NoLimit := e0.mod.nolimit.keeps fun b o e => (e0.bs b o e).1
  obtain ⟨od, sl, pm, ctv, ho⟩ := lamO_at e0.hok hf
  refine PySem.W.kla_callFunE hr.depth ho rfl S.co S.gen rfl (codeO_at e0.hok hc) ?_
  rw [hb pm ctv us (by rw [← r.length]; exact hl)]
  refine wpAny_pure (frame_cl S.kind (fun ⟨n, v⟩ hy => ?_) fun s1 x => ⟨lim.keeps x.toInCall.keep, ?_⟩)
  · rcases S.par n (List.of_mem_zip hy).1 with q | q
    · exact .inl q
    · exact .inr ⟨q, PySem.W.cellsFrom_some _ _ _ (.inl q)⟩
  · show codeAny _ _ (.expr F.body (envG F.nf f s.heap.objs.size)) _ _
    obtain ⟨t, ht, hq⟩ := hbody f A outer s H vs ws Q E (hr.deeper _) hf hc C.len hsp
    have I : Inv (gcx CX P w K mg base N F.nf f A outer s H E) [] (startF N vs ws) H s1 := inv_startC (F := F.nf) S hr.hd e0 hl r C x
    refine PySem.W.kla_codeExpr (wpAny_mono (ht.run [] _ (startF N vs ws) H Q I hq) (fun u s' hs => ?_) fun e s' hs => hs)
    obtain ⟨v, H', J, rv, q⟩ := hs
    exact ⟨v, H', J.os, J.bare, J.base, J.hok, rv, q⟩
end
end Sl
/-! ## V9 -/
set_option Elab.async false
set_option linter.all false
set_option maxRecDepth 100000
set_option maxHeartbeats 4000000
set_option pp.maxSteps 1500
set_option pp.deepTerms false
/-! _split: the blocks by where their states lead -/
namespace Sl
open PySem PySem.Spec PyProof.Rows L2
abbrev sSplit : Stmt := top 17
def spSplit (P : Program) (w : World) (K : PySem.W.Frag) : Sp := fun vs H Q _ => ∃ (kb : Bool) (z : Str) (st od bl : Addr) (rows : List Addr) (order : List Nat) (β : Nat → V) (βi : Nat → Int) (δ : Nat → Str → Nat), vs = [.str z, .ref st, .ref od, .ref bl] ∧
  SqK K kb H st (rows.map V.ref) ∧ RowsAt H rows (sgL z) δ ∧ H od = some (.lst (order.map fun n => V.int (n : Nat))) ∧ H bl = some (.dK (blkD order β)) ∧ (∀ n, nkV (β n) = some (βi n)) ∧ order.Nodup ∧ order.length ≤ 1000 ∧
  (∀ n ∈ order, n < rows.length ∧ ∀ c ∈ sgL z, δ n c ∈ order) ∧ z.cps.size ≤ 100 ∧
  ∀ (H' : Hp) (t sp : Addr), Ext H H' → H t = none → H sp = none → H' t = some (.tup [.ref sp, .int ((metL (order.map (keyL βi (sgL z) δ))).length : Nat)]) →
    H' sp = some (.dK (blkD order fun n => .int (ixL (metL (order.map (keyL βi (sgL z) δ))) (keyL βi (sgL z) δ n) : Nat))) → Q (.ref t) H'
abbrev nSplit : List Str := ["signs", "states", "order", "blocks", "numbers", "split", "state", "key", "sign"]
section
variable {P : Program} {w : World} {K : PySem.W.Frag} {mg : Str → Option Value} {base : Heap}
theorem scSplit : FnScope nSplit ["signs", "states", "order", "blocks"] (defScope sSplit) := ⟨rfl, rfl, rfl, by decide +kernel, rfl, by decide +kernel, by decide +kernel⟩
theorem ok_split {f : Addr} {fd : FuncData} (Fn : Fun K "_split" "_split" sSplit f fd) (zn : mg "len" = none) (zt : mg "tuple" = none) : FnOk P w K mg base CX0 1 f fd ["signs", "states", "order", "blocks"] (spSplit P w K) := by
  refine Fun.ok Fn scSplit (fun vs H Q E h => ?_) (fun cdv A0 outer s H vs Q E hr h => ?_)
  · obtain ⟨kb, z, st, od, bl, rows, order, β, βi, δ, rfl, _⟩ := h
    rfl
  · obtain ⟨kb, z, st, od, bl, rows, order, β, βi, δ, rfl, hst, hrows, hod, hbl, hβ, nd, lo, cl, zl, kk⟩ := h
    have hu := hu_of hr
    have hu9 : (A0.deeper (envOfC "_split" (defScope sSplit) s.heap.objs.size f cdv)).units + 9 < cLine := by
      have := hr.un
      omega
    refine ⟨_, pss_cons (ps_set (i := 4) (te := tDNewN P w) scSplit.nd rfl (.inl rfl) pe_dnewN)
      (pss_cons (ps_set (i := 5) scSplit.nd rfl (.inl rfl) pe_dnewK)
      (pss_cons (ps_for PassesOwn.never rfl (pi_list (pv 2)) (pg_name (i := 6) scSplit.nd rfl (.inr rfl))
        (pss_cons (ps_set (i := 7) scSplit.nd rfl (.inl rfl) (pe_callTy call_tuple_of (by rfl) zt (by decide +kernel) (pa_cons (pe_op op_cat (pe_lst (pa_cons (pe_dget hu (pe_var (i := 3) rfl (.inr (.inl rfl))) (pe_var (i := 6) rfl (.inr (.inl rfl))) (fun _ _ => rfl)) pa_nil))
            (pe_lc (own := [("sign", 8)]) (g := gName 8) (tt := tYes) (te := tDGet (tVar 3) (tDGet (tOp (rIx K) (tVar 1) (tVar 6)) (tVar 8))) rfl scSplit.nd (pi_str (pv 0)) (blkOk_by (N := nSplit) (sc := defScope sSplit) (by decide +kernel))
              (fun _ _ _ _ _ => pg_name (i := 8) scSplit.nd rfl (Or.inl rfl)) (fun _ _ _ _ _ => pts_nil)
              (fun _ _ _ _ _ => pe_dget hu (pe_var (i := 3) rfl (.inr (.inl rfl))) (pe_dget hu (pe_ix ix_seq (pe_var (i := 1) rfl (.inr (.inl rfl))) (pe_var (i := 6) rfl (.inr (.inl rfl))) (fun _ _ => rfl)) (pv 8) (fun _ _ => rfl)) (fun _ _ => rfl)))) pa_nil)))
        (pss_one (ps_dput hu (pv 5) (pe_var (i := 6) rfl (.inr (.inl rfl))) (pe_dsetN hu9 (pv 4) (pv 7) (pe_callB call_lenN (by rfl) zn PySem.boot_len (pa_cons (pv 4) pa_nil)) ⟨rfl, rfl, rfl, rfl⟩) rfl))))
      (pss_one (ps_ret (pe_tup (pa_cons (pv 5) (pa_cons (pe_callB call_lenN (by rfl) zn PySem.boot_len (pa_cons (pv 4) pa_nil)) pa_nil))))))), ?_⟩
    refine fun nu nn h0 => ?_
    have x1 := Ext.new nn (o := NumO P w nu [])
    generalize upd H nu (NumO P w nu []) = H1 at x1 h0 ⊢
    have hr0 := fun (H' : Hp) (x : Ext H H') => (⟨hst.ext x, hrows.ext x, x _ _ hod, x _ _ hbl⟩ : SqK K kb H' st (rows.map V.ref) ∧ RowsAt H' rows (sgL z) δ ∧ H' od = some (.lst (order.map fun n => V.int (n : Nat))) ∧ H' bl = some (.dK (blkD order β)))
    generalize hkey : keyL βi (sgL z) δ = key at kk
    generalize hR : metL (order.map key) = R at kk
    refine fun sp ns => ?_
    have x2 := x1.trans (Ext.new ns (o := .dK []))
    have h2 : NumAt P w (upd H1 sp (.dK [])) nu [] := h0.ext (fun o e => Ext.new ns _ _ e) fun t vs e => Ext.new ns _ _ e
    have hs2 : (upd H1 sp (.dK [])) sp = some (.dK []) := upd_same
    have nsH := x1.free ns
    have nus : nu ≠ sp := by
      obtain ⟨xs, e, _⟩ := h0
      exact ne_of_none e ns
    generalize upd H1 sp (.dK []) = H2 at x2 h2 hs2 ⊢
    refine ⟨_, rfl, od, rfl, ⟨_, SqL.of (hr0 _ x2).2.2.1⟩, ?_⟩
    refine for_it (walk_list (xs := order.map fun n => V.int (n : Nat))) (fun i σ H' => ∃ v6 v7, σ = [some (.str z), some (.ref st), some (.ref od), some (.ref bl), some (.ref nu), some (.ref sp), v6, v7, none] ∧ Ext H H' ∧ NumAt P w H' nu (numsOf (metL ((order.take i).map key))) ∧
        H' sp = some (.dK (blkD (order.take i) fun n => .int (ixL R (key n) : Nat))))
      ⟨none, none, rfl, x2, h2, hs2⟩ (fun i σ H' _ ⟨_, _, _, x, _⟩ => SqL.of (hr0 _ x).2.2.1) ?_ ?_
    · rintro i x σ H3 H4 hi ⟨v6, v7, rfl, x3, hn3, hs3⟩ ⟨rfl, hx⟩
      obtain ⟨n, hn, rfl⟩ := at_map hx
      obtain ⟨q1, q2, q3, q4⟩ := hr0 _ x3
      obtain ⟨nN, ncl⟩ := cl n (List.mem_of_getElem? hn)
      have hm := List.mem_of_getElem? hn
      have lnk : (order.take i).length ≤ 1000 := by
        rw [List.length_take]
        omega
      have hg : ∀ (H' : Hp) (m : Nat), Ext H H' → m ∈ order → DGet H' bl (.int m) (some (β m)) := fun H' m x hm => by
        have := DGet.k (k := keyI m) (hr0 _ x).2.2.2
        rw [blk_val, if_pos hm] at this
        exact this
      -- the key
      refine ⟨_, rfl, _, rfl, bl, β n, rfl, hg _ n x3 hm, by show 1 ≤ sizeLine; decide, fun p np => ?_⟩
      have x4 := x3.trans (Ext.new np (o := .lst [β n]))
      have hn4 : NumAt P w (upd H4 p (.lst [β n])) nu (numsOf (metL ((order.take i).map key))) := hn3.ext (fun o e => Ext.new np _ _ e) fun t vs e => Ext.new np _ _ e
      have hs4 := Ext.new np (o := .lst [β n]) _ _ hs3
      have hp4 : (upd H4 p (.lst [β n])) p = some (.lst [β n]) := upd_same
      generalize upd H4 p (.lst [β n]) = H5 at x4 hn4 hs4 hp4 ⊢
      refine ⟨_, rfl, z, rfl, fun D nD => ?_⟩
      refine lc_it (walk_str (z := z)) (fun j H' => Ext H5 H' ∧ H' D = some (.lst (((sgL z).take j).map fun c => β (δ n c)))) ⟨Ext.new nD, upd_same⟩ (fun _ _ _ _ => trivial) ?_ ?_
      · rintro j y H6 H7 hj ⟨x6, hD6⟩ ⟨rfl, c, hc, rfl⟩
        have hsg := sgL_at hc
        have cm := List.mem_of_getElem? hsg
        have x06 := x4.trans x6
        obtain ⟨w1, w2, w3, w4⟩ := hr0 _ x06
        obtain ⟨r, hr⟩ : ∃ r, rows[n]? = some r := ⟨_, List.getElem?_eq_getElem nN⟩
        obtain ⟨kr, hk1, hk2⟩ := w2 n r hr
        have ha : atI (rows.map V.ref) (n : Int) = some (.ref r) := atI_nat (by rw [List.getElem?_map, hr]; rfl)
        have hq : rIx K (.ref st) (.int n) H7 = rIx K (.ref st) (.int n) H7 := rfl
        have gr : DGet H7 r (.str ⟨#[c]⟩) (some (.int (δ n ⟨#[c]⟩ : Nat))) := by
          rw [← hk2 _ cm]
          exact DGet.k (k := keyC ⟨#[c]⟩) hk1
        refine ⟨rfl, ?_⟩
        dsimp only [tYes]
        rw [if_pos rfl]
        refine ⟨_, rfl, _, rfl, _, rfl, ?_⟩
        have fin : ∃ a v, V.ref r = V.ref a ∧ DGet H7 a (.str ⟨#[c]⟩) (some v) ∧ ∃ a' v', V.ref bl = V.ref a' ∧ DGet H7 a' v (some v') ∧ ∃ acc, H7 D = some (.lst acc) ∧ acc.length < sizeLine ∧ Ext H5 (upd H7 D (.lst (acc ++ [v']))) ∧ (upd H7 D (.lst (acc ++ [v']))) D = some (.lst (((sgL z).take (j + 1)).map fun c => β (δ n c))) := by
          refine ⟨r, _, rfl, gr, bl, _, rfl, hg _ _ x06 (ncl _ cm), _, hD6, ?_, fun a o e => ?_, ?_⟩
          · rw [List.length_map, List.length_take, sgL_len]
            exact small1000 (by omega)
          · rw [upd_ne (ne_of_none e nD)]
            exact x6 _ _ e
          · rw [upd_same, take_more hsg, List.map_append]
            rfl
        rcases w1.or with q | q
        · exact .inl ⟨st, _, n, _, rfl, rfl, q, ha, _, rfl, fin⟩
        · exact .inr (.inl ⟨st, _, n, _, rfl, rfl, q, ha, _, rfl, fin⟩)
      · rintro H6 ⟨x6, hD6⟩
        rw [← sgL_len, List.take_length] at hD6
        have x06 := x4.trans x6
        have hn6 : NumAt P w H6 nu (numsOf (metL ((order.take i).map key))) := hn4.ext (fun o e => x6 _ _ e) fun t vs e => x6 _ _ e
        have hs6 := x6 _ _ hs4
        have hp6 := x6 _ _ hp4
        refine ⟨p, D, _, _, rfl, rfl, hp6, hD6, ?_, fun l nl => ?_⟩
        · rw [List.length_map, sgL_len]
          show 1 + z.cps.size ≤ sizeLine
          exact Nat.le_of_lt (small1000 (by omega))
        refine ⟨l, _, rfl, .inl ⟨SqL.of upd_same, fun t nt => ?_⟩⟩
        have xl := Ext.new nl (o := .lst ([β n] ++ (sgL z).map fun c => β (δ n c)))
        have xt := xl.trans (Ext.new nt (o := .tup ([β n] ++ (sgL z).map fun c => β (δ n c))))
        have ht : (upd (upd H6 l (.lst ([β n] ++ (sgL z).map fun c => β (δ n c)))) t (.tup ([β n] ++ (sgL z).map fun c => β (δ n c)))) t = some (.tup ([β n] ++ (sgL z).map fun c => β (δ n c))) := upd_same
        have hv : ([β n] ++ (sgL z).map fun c => β (δ n c)).map nkV = (key n).map some := by
          rw [← hkey]
          unfold keyL
          rw [List.cons_append, List.nil_append, List.map_cons, List.map_cons, List.map_map, List.map_map, hβ]
          refine congrArg _ (List.map_congr_left fun c _ => ?_)
          exact hβ _
        generalize upd (upd H6 l (.lst ([β n] ++ (sgL z).map fun c => β (δ n c)))) t (.tup ([β n] ++ (sgL z).map fun c => β (δ n c))) = H7 at xt ht ⊢
        have x7 := x06.trans xt
        have hn7 : NumAt P w H7 nu (numsOf (metL ((order.take i).map key))) := hn6.ext (fun o e => xt _ _ e) fun t vs e => xt _ _ e
        have hs7 := xt _ _ hs6
        have tk : (order.take (i + 1)).map key = (order.take i).map key ++ [key n] := by
          rw [take_more hn, List.map_append]
          rfl
        have pre : metL ((order.take i).map key ++ [key n]) <+: R := by
          rw [← tk, ← hR]
          have := metL_pre ((order.take (i + 1)).map key) ((order.drop (i + 1)).map key)
          rwa [← List.map_append, List.take_append_drop] at this
        rw [metL_snoc] at pre
        have Ml : (metL ((order.take i).map key)).length ≤ 1000 := by
          have := metL_len ((order.take i).map key)
          rw [List.length_map] at this
          omega
        have nin : valV (blkD (order.take i) fun n => .int (ixL R (key n) : Nat)) (keyI n) = none := by
          rw [blk_val]
          refine if_neg fun h => ?_
          have h1 : (order.take (i + 1)).Nodup := nd.sublist (List.take_sublist _ _)
          rw [take_more hn] at h1
          exact (List.nodup_append.mp h1).2.2 n h n (by simp) rfl
        have put : ∀ H' : Hp, H' sp = some (.dK (blkD (order.take i) fun n => .int (ixL R (key n) : Nat))) → DPut H' sp (.int n) (.int (ixL R (key n) : Nat)) (upd H' sp (.dK (blkD (order.take (i + 1)) fun n => .int (ixL R (key n) : Nat)))) := fun H' e => by
          have q := DPut.k (k := keyI n) (v := .int (ixL R (key n) : Nat)) e (by rw [blk_len]; exact small1000 lnk)
          rw [putK_new _ nin, ← blk_snoc _ n (fun n => V.int (ixL R (key n) : Nat)), ← take_more hn] at q
          exact q
        refine ⟨_, rfl, nu, _, rfl, hn7, _, rfl, _, rfl, nu, _, rfl, hn7, by rw [numsOf_len]; exact Nat.le_of_lt (small1000 Ml), _, key n, _, t, _, hn7, rfl, ht, hv, rfl, by rw [numsOf_len]; exact small1000 Ml, fun m hm => ?_, fun hm o ho => ?_⟩
        · rw [numsOf_val] at hm
          by_cases c : key n ∈ metL ((order.take i).map key)
          · rw [if_pos c] at hm pre
            obtain rfl := Option.some.inj hm
            rw [← idx_pre pre c]
            refine ⟨_, rfl, _, rfl, sp, _, rfl, put _ hs7, ?_⟩
            refine ⟨_, _, rfl, fun a o e => ?_, ?_, upd_same⟩
            · rw [upd_ne (ne_of_none e nsH)]
              exact x7 _ _ e
            · rw [tk, metL_snoc, if_pos c]
              refine hn7.ext (fun o e => ?_) fun t vs e => ?_
              · rw [upd_ne nus]
                exact e
              · rw [upd_ne (ne_of e hs7 (by intro z; cases z))]
                exact e
          · rw [if_neg c] at hm
            cases hm
        · rw [numsOf_val] at hm
          by_cases c : key n ∈ metL ((order.take i).map key)
          · rw [if_pos c] at hm
            cases hm
          · rw [if_neg c] at pre
            have ek : ixL R (key n) = (metL ((order.take i).map key)).length := by
              rw [idx_pre pre (by simp), idx_new c]
            rw [numsOf_len] at ho ⊢
            rw [← ek] at ho ⊢
            have hs8 : (upd H7 nu o) sp = some (.dK (blkD (order.take i) fun n => .int (ixL R (key n) : Nat))) := by
              rw [upd_ne nus.symm]
              exact hs7
            refine ⟨_, rfl, _, rfl, sp, _, rfl, put _ hs8, ?_⟩
            refine ⟨_, _, rfl, fun a o e => ?_, ?_, upd_same⟩
            · rw [upd_ne (ne_of_none e nsH), upd_ne (ne_of_none e nn)]
              exact x7 _ _ e
            · rw [tk, metL_snoc, if_neg c, numsOf_snoc, ← ek]
              refine ho.ext (fun o e => ?_) fun t vs e => ?_
              · rw [upd_ne nus]
                exact e
              · rw [upd_ne (ne_of e hs8 (by intro z; cases z))]
                exact e
    · rintro σ H3 ⟨v6, v7, rfl, x3, hn3, hs3⟩
      rw [List.length_map, List.take_length] at hn3 hs3
      rw [hR] at hn3
      have hRl : R.length ≤ 1000 := by
        have := metL_len (order.map key)
        rw [hR, List.length_map] at this
        omega
      refine ⟨_, rfl, _, rfl, nu, _, rfl, hn3, by rw [numsOf_len]; exact Nat.le_of_lt (small1000 hRl), by show 2 ≤ sizeLine; decide, fun t nt => kk _ t sp (x3.trans (Ext.new nt)) (x3.free nt) nsH ?_ (Ext.new nt _ _ hs3)⟩
      rw [upd_same, numsOf_len]
end
end Sl
/-! ## V10 -/
set_option Elab.async false
set_option linter.all false
set_option maxRecDepth 100000
set_option maxHeartbeats 4000000
set_option pp.maxSteps 1500
set_option pp.deepTerms false
/-! _firsts: the first state of each block -/
namespace Sl
open PySem PySem.Spec PyProof.Rows L2
abbrev sFirsts : Stmt := top 18
def firL (γ : Nat → Nat) (order : List Nat) : List Nat := order.foldl (fun acc n => if γ n = acc.length then acc ++ [n] else acc) []
theorem firL_snoc (γ : Nat → Nat) (l : List Nat) (n : Nat) : firL γ (l ++ [n]) = if γ n = (firL γ l).length then firL γ l ++ [n] else firL γ l := by
  unfold firL
  rw [List.foldl_append]
  rfl
theorem firL_len (γ : Nat → Nat) (l : List Nat) : (firL γ l).length ≤ l.length := by
  refine list_snoc (p := fun l => (firL γ l).length ≤ l.length) (by simp [firL]) (fun l a ih => ?_) l
  rw [firL_snoc, List.length_append]
  by_cases c : γ a = (firL γ l).length
  · rw [if_pos c, List.length_append]
    simpa using ih
  · rw [if_neg c]
    omega
theorem firL_sub (γ : Nat → Nat) (l : List Nat) : ∀ n ∈ firL γ l, n ∈ l := by
  refine list_snoc (p := fun l => ∀ n ∈ firL γ l, n ∈ l) (by simp [firL]) (fun l a ih => ?_) l
  rw [firL_snoc]
  intro n hn
  by_cases c : γ a = (firL γ l).length
  · rw [if_pos c] at hn
    rcases List.mem_append.mp hn with h | h
    · exact List.mem_append.mpr (.inl (ih n h))
    · exact List.mem_append.mpr (.inr h)
  · rw [if_neg c] at hn
    exact List.mem_append.mpr (.inl (ih n hn))
/-- the firsts of the blocks of keys -/
theorem firL_keys {α : Type} [DecidableEq α] (key : Nat → α) (order : List Nat) : ∀ l, l <+: order → (firL (fun n => ixL (metL (order.map key)) (key n)) l).map key = metL (l.map key) := fun l => by
  refine list_snoc (p := fun l => l <+: order → (firL (fun n => ixL (metL (order.map key)) (key n)) l).map key = metL (l.map key)) (fun _ => rfl) (fun l n ih hp => ?_) l
  obtain ⟨t, ht⟩ := hp
  have ih := ih ⟨[n] ++ t, by rw [← List.append_assoc]; exact ht⟩
  have ln := congrArg List.length ih
  rw [List.length_map] at ln
  have pre : metL (l.map key ++ [key n]) <+: metL (order.map key) := by
    have := metL_pre ((l ++ [n]).map key) (t.map key)
    rw [← List.map_append, ht, List.map_append] at this
    exact this
  rw [firL_snoc, List.map_append]
  have e0 : ([n].map key) = [key n] := rfl
  rw [e0]
  rw [metL_snoc] at pre ⊢
  by_cases c : key n ∈ metL (l.map key)
  · rw [if_pos c] at pre ⊢
    have h1 := ixL_lt c
    rw [if_neg (by rw [idx_pre pre c, ln]; exact Nat.ne_of_lt h1)]
    exact ih
  · rw [if_neg c] at pre ⊢
    rw [if_pos (by rw [idx_pre pre (by simp), idx_new c, ln]), List.map_append, ih]
    rfl
def spFirsts : Sp := fun vs H Q _ => ∃ (od bl : Addr) (order : List Nat) (γ : Nat → Nat), vs = [.ref od, .ref bl] ∧ H od = some (.lst (order.map fun n => V.int (n : Nat))) ∧ H bl = some (.dK (blkD order fun n => .int (γ n : Nat))) ∧ order.length ≤ 1000 ∧
  ∀ (H' : Hp) (p : Addr), Ext H H' → H p = none → H' p = some (.lst ((firL γ order).map fun n => V.int (n : Nat))) → Q (.ref p) H'
abbrev nFirsts : List Str := ["order", "blocks", "firsts", "state"]
section
variable {P : Program} {w : World} {K : PySem.W.Frag} {mg : Str → Option Value} {base : Heap}
theorem scFirsts : FnScope nFirsts ["order", "blocks"] (defScope sFirsts) := ⟨rfl, rfl, rfl, by decide +kernel, rfl, by decide +kernel, by decide +kernel⟩
theorem ok_firsts {f : Addr} {fd : FuncData} (Fn : Fun K "_firsts" "_firsts" sFirsts f fd) (zn : mg "len" = none) : FnOk P w K mg base CX0 1 f fd ["order", "blocks"] spFirsts := by
  refine Fun.ok Fn scFirsts (fun vs H Q E h => ?_) (fun cdv A0 outer s H vs Q E hr h => ?_)
  · obtain ⟨od, bl, order, γ, rfl, _⟩ := h
    rfl
  · obtain ⟨od, bl, order, γ, rfl, hod, hbl, lo, kk⟩ := h
    have hu := hu_of hr
    refine ⟨_, pss_cons (ps_set (i := 2) scFirsts.nd rfl (.inl rfl) (pe_lst pa_nil))
      (pss_cons (ps_for PassesOwn.never rfl (pi_list (pv 0)) (pg_name (i := 3) scFirsts.nd rfl (.inl rfl))
        (pss_one (ps_if (pt_cmpR op_eq (pe_dget hu (pv 1) (pv 3) (fun _ _ => rfl)) (pe_callB call_len_seq (by rfl) zn PySem.boot_len (pa_cons (pv 2) pa_nil)) (nomark _))
          (pss_one (ps_expr (pe_bm PySem.F.plainAttrs_list PySem.F.slot_list_append PySem.F.type_list_append mt_append (pv 2) (pa_cons (pv 3) pa_nil)))) pss_nil)))
      (pss_one (ps_ret (pv 2)))), ?_⟩
    refine ⟨by show 0 ≤ sizeLine; decide, fun p np => ?_⟩
    have x1 := Ext.new np (o := .lst [])
    have hp1 : (upd H p (.lst [])) p = some (.lst []) := upd_same
    generalize upd H p (.lst []) = H1 at x1 hp1 ⊢
    refine ⟨_, rfl, od, rfl, ⟨_, SqL.of (x1 _ _ hod)⟩, ?_⟩
    refine for_it (walk_list (xs := order.map fun n => V.int (n : Nat))) (fun i σ H' => ∃ v3, σ = [some (.ref od), some (.ref bl), some (.ref p), v3] ∧ Ext H H' ∧ H' p = some (.lst ((firL γ (order.take i)).map fun n => V.int (n : Nat))))
      ⟨none, rfl, x1, hp1⟩ (fun i σ H' _ ⟨_, _, x, _⟩ => SqL.of (x _ _ hod)) ?_ ?_
    · rintro i x σ H3 H4 hi ⟨v3, rfl, x3, hp3⟩ ⟨rfl, hx⟩
      obtain ⟨n, hn, rfl⟩ := at_map hx
      have g : DGet H4 bl (.int n) (some (.int (γ n : Nat))) := by
        have := DGet.k (k := keyI n) (x3 _ _ hbl)
        rw [blk_val, if_pos (List.mem_of_getElem? hn)] at this
        exact this
      have fl := firL_len γ (order.take i)
      rw [List.length_take] at fl
      have tk : firL γ (order.take (i + 1)) = if γ n = (firL γ (order.take i)).length then firL γ (order.take i) ++ [n] else firL γ (order.take i) := by
        rw [take_more hn, firL_snoc]
      refine ⟨_, rfl, _, rfl, bl, _, rfl, g, _, rfl, p, _, rfl, .inl (SqL.of hp3), rfl, ?_⟩
      rw [List.length_map]
      have ed : decide (V.int (γ n : Nat) = V.int ((firL γ (order.take i)).length : Nat)) = decide (γ n = (firL γ (order.take i)).length) := by
        rw [dec_int]
        by_cases c : γ n = (firL γ (order.take i)).length
        · rw [c]
          simp
        · rw [decide_eq_false c]
          simp only [beq_eq_false_iff_ne, ne_eq]
          omega
      rw [ed]
      refine ⟨_, rfl, ?_⟩
      by_cases c : γ n = (firL γ (order.take i)).length
      · rw [decide_eq_true c]
        dsimp only
        rw [if_pos rfl]
        refine ⟨_, rfl, .inl ⟨rfl, _, SqL.of hp3⟩, _, rfl, p, _, _, rfl, rfl, hp3, by rw [List.length_map]; exact small1000 (by omega), ?_⟩
        refine ⟨_, rfl, fun a o e => ?_, ?_⟩
        · rw [upd_ne (ne_of_none e np)]
          exact x3 _ _ e
        · rw [upd_same, tk, if_pos c, List.map_append]
          rfl
      · rw [decide_eq_false c]
        dsimp only
        rw [if_neg Bool.false_ne_true]
        refine ⟨_, rfl, x3, ?_⟩
        rw [tk, if_neg c]
        exact hp3
    · rintro σ H3 ⟨v3, rfl, x3, hp3⟩
      rw [List.length_map, List.take_length] at hp3
      exact ⟨_, rfl, kk _ p x3 np hp3⟩
end
end Sl
/-! ## M3 -/
set_option Elab.async false
set_option linter.all false
set_option maxRecDepth 100000
set_option maxHeartbeats 4000000
/-! the blocks that are split no more: the least machine and its texts -/
namespace Sl
open PySem PySem.Spec PyProof.Rows L2
def run (δ : Nat → Str → Nat) (n : Nat) (w : List Str) : Nat := w.foldl δ n
theorem run_cons (δ : Nat → Str → Nat) (n : Nat) (c : Str) (w : List Str) : run δ n (c :: w) = run δ (δ n c) w := rfl
/-! ### lists of what is met first -/
section
variable {α β : Type} [DecidableEq α] [DecidableEq β]
theorem metL_of_nodup (l : List α) : l.Nodup → metL l = l := by
  refine list_snoc (p := fun l => l.Nodup → metL l = l) (fun _ => rfl) (fun l a ih nd => ?_) l
  obtain ⟨n1, _, n3⟩ := List.nodup_append.mp nd
  rw [metL_snoc, ih n1, if_neg fun h => n3 a h a (List.mem_singleton.mpr rfl) rfl]
theorem metL_app_self (a b : List α) : metL (metL a ++ b) = metL (a ++ b) := by
  refine list_snoc (p := fun b => metL (metL a ++ b) = metL (a ++ b)) ?_ (fun b k ih => ?_) b
  · rw [List.append_nil, List.append_nil, metL_of_nodup _ (metL_nodup a)]
  · rw [← List.append_assoc, ← List.append_assoc, metL_snoc, metL_snoc, ih]
theorem metL_skip (a b : List α) : (∀ x ∈ b, x ∈ a) → metL (a ++ b) = metL a := by
  refine list_snoc (p := fun b => (∀ x ∈ b, x ∈ a) → metL (a ++ b) = metL a) (fun _ => by rw [List.append_nil]) (fun b k ih h => ?_) b
  rw [← List.append_assoc, metL_snoc, ih fun x hx => h x (List.mem_append.mpr (.inl hx)), if_pos ((metL_mem _).mpr (h k (List.mem_append.mpr (.inr (List.mem_singleton.mpr rfl)))))]
theorem metL_map (f : α → β) (l : List α) : metL ((metL l).map f) = metL (l.map f) := by
  refine list_snoc (p := fun l => metL ((metL l).map f) = metL (l.map f)) rfl (fun l a ih => ?_) l
  rw [metL_snoc, List.map_append, List.map_singleton, metL_snoc]
  by_cases c : a ∈ metL l
  · rw [if_pos c, ih, if_pos ((metL_mem _).mpr (List.mem_map.mpr ⟨a, (metL_mem _).mp c, rfl⟩))]
  · rw [if_neg c, List.map_append, List.map_singleton, metL_snoc, ih]
theorem metL_flat (x : List β) (f : α → List β) (l : List α) : metL (x ++ (metL l).flatMap f) = metL (x ++ l.flatMap f) := by
  refine list_snoc (p := fun l => metL (x ++ (metL l).flatMap f) = metL (x ++ l.flatMap f)) rfl (fun l a ih => ?_) l
  rw [metL_snoc, List.flatMap_append, List.flatMap_singleton, ← List.append_assoc]
  by_cases c : a ∈ metL l
  · rw [if_pos c, ih, metL_skip (x ++ l.flatMap f)]
    exact fun y hy => List.mem_append.mpr (.inr (List.mem_flatMap.mpr ⟨a, (metL_mem _).mp c, hy⟩))
  · rw [if_neg c, List.flatMap_append, List.flatMap_singleton, ← List.append_assoc, ← metL_app_self, ih, metL_app_self]
end
theorem addNew_met : ∀ (l : List (Str × Nat)) (q : List Nat), q.Nodup → addNew q l = metL (q ++ l.map (·.2))
  | [], q, nd => by rw [addNew_nil, List.map_nil, List.append_nil, metL_of_nodup _ nd]
  | e :: l, q, nd => by
    have e1 : metL (q ++ [e.2]) = if e.2 ∈ q then q else q ++ [e.2] := by rw [metL_snoc, metL_of_nodup _ nd]
    rw [addNew_cons, ← e1, addNew_met l _ (metL_nodup _), metL_app_self, List.append_assoc]
    rfl
/-- the queue's order is that in which the states are met -/
theorem bfs_met {g : Gr} {N x0 : Nat} (hlt : ∀ n, n < N → ∀ e ∈ g n, e.2 < N) : ∀ (n i : Nat) (q : List Nat), q.Nodup → (∀ x ∈ q, x < N) → i ≤ q.length → N + 1 ≤ n + i → q = metL ([x0] ++ (q.take i).flatMap fun n => (g n).map (·.2)) →
    bfs g n q i = metL ([x0] ++ (bfs g n q i).flatMap fun n => (g n).map (·.2))
  | 0, i, q, nd, lt, le, hn, _ => by
    have := nodup_len nd lt
    omega
  | n + 1, i, q, nd, lt, le, hn, e => by
    by_cases c : i < q.length
    · obtain ⟨x, hx⟩ : ∃ x, q[i]? = some x := ⟨q[i], List.getElem?_eq_getElem c⟩
      rw [bfs_step hx]
      have ok := addNew_ok (l := g x) nd lt (hlt x (lt x (List.mem_of_getElem? hx)))
      refine bfs_met hlt n (i + 1) _ ok.1 ok.2.1 (by have := ok.2.2; omega) (by omega) ?_
      have tk : (addNew q (g x)).take (i + 1) = q.take i ++ [x] := by
        obtain ⟨t, ht⟩ := addNew_pre (l := g x) (q := q)
        rw [← ht, List.take_append_of_le_length (by omega), List.take_succ_eq_append_getElem c]
        rw [List.getElem?_eq_getElem c] at hx
        rw [Option.some.inj hx]
      rw [tk, List.flatMap_append, List.flatMap_singleton, ← List.append_assoc, ← metL_app_self, ← e]
      exact addNew_met _ _ nd
    · rw [bfs_end (by omega)]
      rw [List.take_of_length_le (by omega)] at e
      exact e
theorem reachedL_met {g : Gr} {N first : Nat} (hlt : ∀ n, n < N → ∀ e ∈ g n, e.2 < N) (h : first < N) : metL (first :: (reachedL g N first).flatMap fun n => (g n).map (·.2)) = reachedL g N first :=
  (bfs_met (x0 := first) hlt (N + 1) 0 [first] (by simp) (by simpa using h) (Nat.zero_le _) (by omega) rfl).symm
/-! ### one machine for one language -/
theorem run_app (δ : Nat → Str → Nat) (n : Nat) (v w : List Str) : run δ n (v ++ w) = run δ (run δ n v) w := List.foldl_append
theorem run_lt {sg : List Str} {δ : Nat → Str → Nat} {M : Nat} (lt : ∀ b, b < M → ∀ c ∈ sg, δ b c < M) : ∀ (w : List Str) (n : Nat), n < M → (∀ c ∈ w, c ∈ sg) → run δ n w < M
  | [], _, h, _ => h
  | c :: w, n, h, hw => by
    rw [run_cons]
    exact run_lt lt w _ (lt n h c (hw c List.mem_cons_self)) fun c' h' => hw c' (List.mem_cons_of_mem _ h')
structure Can (sg : List Str) (M : Nat) (δ' : Nat → Str → Nat) (found : List Nat) : Prop where
  pos : 0 < M
  lt : ∀ b, b < M → ∀ c ∈ sg, δ' b c < M
  dist : ∀ a, a < M → ∀ b, b < M → (∀ w : List Str, (∀ c ∈ w, c ∈ sg) → (run δ' a w ∈ found ↔ run δ' b w ∈ found)) → a = b
  reach : ∀ b, b < M → ∃ w : List Str, (∀ c ∈ w, c ∈ sg) ∧ run δ' 0 w = b
  canon : metL (0 :: (List.range M).flatMap fun b => sg.map (δ' b)) = List.range M
  asc : found = (List.range M).filter fun b => decide (b ∈ found)
theorem fix_uniq {S : Nat → List Nat} {Q R : List Nat} (hQ : Q = metL (0 :: Q.flatMap S)) (hR : R = metL (0 :: R.flatMap S)) (rQ : ∀ P : List Nat, 0 ∈ P → (∀ x ∈ P, ∀ y ∈ S x, y ∈ P) → ∀ x ∈ Q, x ∈ P) (rR : ∀ P : List Nat, 0 ∈ P → (∀ x ∈ P, ∀ y ∈ S x, y ∈ P) → ∀ x ∈ R, x ∈ P) : Q = R := by
  have pre : ∀ {Q : List Nat}, Q = metL (0 :: Q.flatMap S) → ∀ j, metL (0 :: (Q.take j).flatMap S) <+: Q := fun {Q} hQ j => by
    have h := metL_pre (0 :: (Q.take j).flatMap S) ((Q.drop j).flatMap S)
    rw [List.cons_append, ← List.flatMap_append, List.take_append_drop, ← hQ] at h
    exact h
  have nd : ∀ {Q : List Nat}, Q = metL (0 :: Q.flatMap S) → Q.Nodup := fun {Q} hQ => by
    rw [hQ]
    exact metL_nodup _
  have cl : ∀ {Q : List Nat}, Q = metL (0 :: Q.flatMap S) → (∀ P : List Nat, 0 ∈ P → (∀ x ∈ P, ∀ y ∈ S x, y ∈ P) → ∀ x ∈ Q, x ∈ P) → ∀ j, (metL (0 :: (Q.take j).flatMap S)).length ≤ j → Q = metL (0 :: (Q.take j).flatMap S) := fun {Q} hQ rQ j hj => by
    have p := pre hQ j
    have sub := rQ (metL (0 :: (Q.take j).flatMap S)) ((metL_mem _).mpr List.mem_cons_self) fun x hx y hy => by
      refine (metL_mem _).mpr (List.mem_cons_of_mem _ (List.mem_flatMap.mpr ⟨x, ?_, hy⟩))
      rw [List.prefix_iff_eq_take.mp p] at hx
      exact List.mem_of_mem_take (by
        rw [show Q.take (metL (0 :: (Q.take j).flatMap S)).length = (Q.take j).take (metL (0 :: (Q.take j).flatMap S)).length from by rw [List.take_take, Nat.min_eq_left hj]] at hx
        exact hx)
    exact (p.eq_of_length_le (List.Nodup.length_le_of_subset (nd hQ) sub)).symm
  have key : ∀ j, Q.take j = R.take j := fun j => by
    induction j with
    | zero => rfl
    | succ j ih =>
      have p1 := pre hQ j
      have p2 := pre hR j
      by_cases c : (metL (0 :: (Q.take j).flatMap S)).length ≤ j
      · have e1 := cl hQ rQ j c
        have e2 := cl hR rR j (by rw [← ih]; exact c)
        rw [← ih, ← e1] at e2
        rw [e2]
      · rw [← ih] at p2
        obtain ⟨t1, h1⟩ := p1
        obtain ⟨t2, h2⟩ := p2
        rw [← h1, ← h2]
        generalize metL (0 :: (Q.take j).flatMap S) = P at c
        rw [List.take_append_of_le_length (by omega), List.take_append_of_le_length (by omega)]
  have k := key (Q.length + R.length)
  rwa [List.take_of_length_le (by omega), List.take_of_length_le (by omega)] at k
theorem can_uniq {sg : List Str} {M1 M2 : Nat} {δ1 δ2 : Nat → Str → Nat} {f1 f2 : List Nat} (A : Can sg M1 δ1 f1) (B : Can sg M2 δ2 f2) (hl : ∀ w : List Str, (∀ c ∈ w, c ∈ sg) → (run δ1 0 w ∈ f1 ↔ run δ2 0 w ∈ f2)) :
    M1 = M2 ∧ (∀ b, b < M1 → ∀ c ∈ sg, δ1 b c = δ2 b c) ∧ f1 = f2 := by
  have tot : ∀ a, a < M1 → ∃ b, b < M2 ∧ ∀ w : List Str, (∀ c ∈ w, c ∈ sg) → (run δ1 a w ∈ f1 ↔ run δ2 b w ∈ f2) := fun a ha => by
    obtain ⟨v, hv, rfl⟩ := A.reach a ha
    refine ⟨run δ2 0 v, run_lt B.lt v 0 B.pos hv, fun w hw => ?_⟩
    rw [← run_app, ← run_app]
    exact hl _ fun c hc => (List.mem_append.mp hc).elim (hv c) (hw c)
  obtain ⟨φ, hφ⟩ : ∃ φ : Nat → Nat, ∀ a, a < M1 → φ a < M2 ∧ ∀ w : List Str, (∀ c ∈ w, c ∈ sg) → (run δ1 a w ∈ f1 ↔ run δ2 (φ a) w ∈ f2) := by
    classical
    refine ⟨fun a => if h : a < M1 then (tot a h).choose else 0, fun a ha => ?_⟩
    dsimp only
    rw [dif_pos ha]
    exact (tot a ha).choose_spec
  have u2 : ∀ a b, a < M1 → b < M2 → (∀ w : List Str, (∀ c ∈ w, c ∈ sg) → (run δ1 a w ∈ f1 ↔ run δ2 b w ∈ f2)) → φ a = b := fun a b ha hb h => B.dist _ (hφ a ha).1 b hb fun w hw => ((hφ a ha).2 w hw).symm.trans (h w hw)
  have inj : ∀ a, a < M1 → ∀ b, b < M1 → φ a = φ b → a = b := fun a ha b hb e => A.dist a ha b hb fun w hw => by
    rw [(hφ a ha).2 w hw, (hφ b hb).2 w hw, e]
  have z0 : φ 0 = 0 := u2 0 0 A.pos B.pos hl
  have st : ∀ a, a < M1 → ∀ c ∈ sg, φ (δ1 a c) = δ2 (φ a) c := fun a ha c hc => u2 _ _ (A.lt a ha c hc) (B.lt _ (hφ a ha).1 c hc) fun w hw => by
    have := (hφ a ha).2 (c :: w) fun c' h' => (List.mem_cons.mp h').elim (fun e => e ▸ hc) (hw c')
    rwa [run_cons, run_cons] at this
  have ndQ : ((List.range M1).map φ).Nodup := by
    rw [List.nodup_iff_pairwise_ne, List.pairwise_map]
    refine (List.nodup_range (n := M1)).imp_of_mem fun {a b} ha hb ne e => ne (inj a (List.mem_range.mp ha) b (List.mem_range.mp hb) e)
  have eQ : (List.range M1).map φ = metL (0 :: ((List.range M1).map φ).flatMap fun b => sg.map (δ2 b)) := by
    have h1 : metL ((metL (0 :: (List.range M1).flatMap fun b => sg.map (δ1 b))).map φ) = (List.range M1).map φ := by
      rw [A.canon, metL_of_nodup _ ndQ]
    rw [metL_map, List.map_cons, z0] at h1
    have h2 : ((List.range M1).flatMap fun b => sg.map (δ1 b)).map φ = ((List.range M1).map φ).flatMap fun b => sg.map (δ2 b) := by
      rw [List.map_flatMap, List.flatMap_map, List.flatMap_def, List.flatMap_def]
      refine congrArg List.flatten (List.map_congr_left fun a ha => ?_)
      rw [List.map_map]
      exact List.map_congr_left fun c hc => st a (List.mem_range.mp ha) c hc
    rw [h2] at h1
    exact h1.symm
  have rR : ∀ P : List Nat, 0 ∈ P → (∀ x ∈ P, ∀ y ∈ sg.map (δ2 x), y ∈ P) → ∀ x ∈ List.range M2, x ∈ P := fun P p0 pc x hx => by
    obtain ⟨w, hw, rfl⟩ := B.reach x (List.mem_range.mp hx)
    have go : ∀ (w : List Str) (n : Nat), n ∈ P → (∀ c ∈ w, c ∈ sg) → run δ2 n w ∈ P := fun w => by
      induction w with
      | nil => exact fun n h _ => h
      | cons c w ih =>
        intro n h hw
        rw [run_cons]
        exact ih _ (pc n h _ (List.mem_map.mpr ⟨c, hw c List.mem_cons_self, rfl⟩)) fun c' h' => hw c' (List.mem_cons_of_mem _ h')
    exact go w 0 p0 hw
  have same := fix_uniq eQ B.canon.symm (fun P p0 pc x hx => by
    obtain ⟨a, ha, rfl⟩ := List.mem_map.mp hx
    exact rR P p0 pc _ (List.mem_range.mpr (hφ a (List.mem_range.mp ha)).1)) rR
  have eM : M1 = M2 := by
    have := congrArg List.length same
    rwa [List.length_map, List.length_range, List.length_range] at this
  subst eM
  have id_ : ∀ a, a < M1 → φ a = a := fun a ha => by
    have h := congrArg (fun l : List Nat => l[a]?) same
    rw [List.getElem?_map, List.getElem?_range ha] at h
    exact Option.some.inj h
  refine ⟨rfl, fun b hb c hc => ?_, ?_⟩
  · have := st b hb c hc
    rwa [id_ _ (A.lt b hb c hc), id_ b hb] at this
  · rw [A.asc, B.asc]
    refine List.filter_congr fun b hb => ?_
    have hb := List.mem_range.mp hb
    have := (hφ b hb).2 [] (by simp)
    rw [id_ b hb] at this
    exact decide_eq_decide.mpr this
/-- γ numbers the states' blocks, 0 .. M - 1 -/
structure Parts (order : List Nat) (γ : Nat → Nat) (M : Nat) : Prop where
  lt : ∀ n ∈ order, γ n < M
  sur : ∀ j, j < M → ∃ n ∈ order, γ n = j
section
variable {α : Type} [DecidableEq α] {order : List Nat} {key : Nat → α}
/-- the number of a state by its key -/
def gamL (key : Nat → α) (order : List Nat) (n : Nat) : Nat := ixL (metL (order.map key)) (key n)
theorem key_in {n : Nat} (h : n ∈ order) : key n ∈ metL (order.map key) := (metL_mem _).mpr (List.mem_map.mpr ⟨n, h, rfl⟩)
theorem parts_of : Parts order (gamL key order) (metL (order.map key)).length := by
  refine ⟨fun n hn => ixL_lt (key_in hn), fun j hj => ?_⟩
  obtain ⟨k, hk⟩ : ∃ k, (metL (order.map key))[j]? = some k := ⟨_, List.getElem?_eq_getElem hj⟩
  obtain ⟨n, hn, rfl⟩ := List.mem_map.mp ((metL_mem _).mp (List.mem_of_getElem? hk))
  exact ⟨n, hn, ixL_nodup (metL_nodup _) hk⟩
theorem gam_eq {n m : Nat} (hn : n ∈ order) (hm : m ∈ order) (e : gamL key order n = gamL key order m) : key n = key m := ixL_inj (key_in hn) (key_in hm) e
theorem gam_zero {n : Nat} {t : List Nat} (e : order = n :: t) : gamL key order n = 0 := by
  subst e
  unfold gamL
  have p : metL ([n].map key) <+: metL ((n :: t).map key) := by
    have := metL_pre ([n].map key) (t.map key)
    rw [← List.map_append] at this
    exact this
  have e0 : metL ([n].map key) = [key n] := rfl
  rw [e0] at p
  rw [idx_pre p (by simp), ixL, if_pos rfl]
end
theorem cover_inj {l : List Nat} {M : Nat} (hl : l.length ≤ M) (hc : ∀ j, j < M → j ∈ l) {i j x : Nat} (hi : l[i]? = some x) (hj : l[j]? = some x) : i = j := by
  by_cases c : i = j
  · exact c
  · exfalso
    have hjl := (List.getElem?_eq_some_iff.mp hj).1
    have q : (List.range M).length ≤ (l.eraseIdx j).length := List.Nodup.length_le_of_subset List.nodup_range fun y hy => by
      obtain ⟨k, hk⟩ := List.getElem?_of_mem (hc y (List.mem_range.mp hy))
      refine List.mem_eraseIdx_iff_getElem?.mpr ?_
      by_cases e : k = j
      · refine ⟨i, c, ?_⟩
        rw [e, hj] at hk
        rw [hi, hk]
      · exact ⟨k, e, hk⟩
    rw [List.length_range, List.length_eraseIdx_of_lt hjl] at q
    omega
section
variable {order : List Nat} {sg : List Str} {δ : Nat → Str → Nat} {γ : Nat → Nat} {M : Nat}
abbrev keyN (γ : Nat → Nat) (sg : List Str) (δ : Nat → Str → Nat) : Nat → List Int := keyL (fun n => (γ n : Nat)) sg δ
theorem parts_more (p : Parts order γ M) : M ≤ (metL (order.map (keyN γ sg δ))).length := by
  have q : (List.range M).length ≤ ((metL (order.map (keyN γ sg δ))).map fun k => (k.headD 0).toNat).length := List.Nodup.length_le_of_subset List.nodup_range fun j hj => by
    obtain ⟨n, hn, e⟩ := p.sur j (List.mem_range.mp hj)
    refine List.mem_map.mpr ⟨keyN γ sg δ n, key_in hn, ?_⟩
    show ((γ n : Nat) : Int).toNat = j
    rw [e]
    simp
  rwa [List.length_range, List.length_map] at q
/-- split no more: the blocks lead alike -/
theorem parts_stable (p : Parts order γ M) (hM : (metL (order.map (keyN γ sg δ))).length ≤ M) {n m : Nat} (hn : n ∈ order) (hm : m ∈ order) (e : γ n = γ m) : keyN γ sg δ n = keyN γ sg δ m := by
  obtain ⟨i, hi⟩ := List.getElem?_of_mem (key_in (key := keyN γ sg δ) hn)
  obtain ⟨j, hj⟩ := List.getElem?_of_mem (key_in (key := keyN γ sg δ) hm)
  have hc : ∀ j, j < M → j ∈ (metL (order.map (keyN γ sg δ))).map fun k => (k.headD 0).toNat := fun j hj => by
    obtain ⟨n, hn, e⟩ := p.sur j hj
    refine List.mem_map.mpr ⟨keyN γ sg δ n, key_in hn, ?_⟩
    show ((γ n : Nat) : Int).toNat = j
    rw [e]
    simp
  have hd : ∀ n, ((keyN γ sg δ n).headD 0).toNat = γ n := fun n => by
    show ((γ n : Nat) : Int).toNat = γ n
    simp
  have ij : i = j := cover_inj (x := γ n) (by rw [List.length_map]; exact hM) hc (by rw [List.getElem?_map, hi]; exact congrArg some (hd n)) (by rw [List.getElem?_map, hj]; exact congrArg some ((hd m).trans e.symm))
  subst ij
  exact Option.some.inj (hi.symm.trans hj)
theorem keyL_at {βi : Nat → Int} {n m : Nat} (e : keyL βi sg δ n = keyL βi sg δ m) : βi n = βi m ∧ ∀ c ∈ sg, βi (δ n c) = βi (δ m c) := by
  unfold keyL at e
  injection e with e1 e2
  refine ⟨e1, fun c hc => ?_⟩
  exact List.map_inj_left.mp e2 c hc
end
/-- what is known of a machine of blocks -/
structure LeastOf (sg : List Str) (δ : Nat → Str → Nat) (mem : List Nat) (N M : Nat) (δ' : Nat → Str → Nat) (found : List Nat) : Prop where
  pos : 0 < M
  le : M ≤ N
  lt : ∀ b, b < M → ∀ c ∈ sg, δ' b c < M
  nd : found.Nodup
  fl : ∀ b ∈ found, b < M
  acc : ∀ w : List Str, (∀ c ∈ w, c ∈ sg) → (run δ' 0 w ∈ found ↔ run δ 0 w ∈ mem)
  can : Can sg M δ' found
section
variable {order mem firsts : List Nat} {sg : List Str} {δ δ' : Nat → Str → Nat} {γ : Nat → Nat} {M N : Nat}
/-- where the loop stands: blocks γ, M of them; before, the blocks of what is told of the states by b -/
structure SplitSt (order mem : List Nat) (sg : List Str) (δ : Nat → Str → Nat) (γ : Nat → Nat) (M before : Nat) : Prop where
  parts : Parts order γ M
  zero : ∀ n t, order = n :: t → γ n = 0
  num : metL (order.map γ) = List.range M
  dif : ∀ n ∈ order, ∀ m ∈ order, γ n ≠ γ m → ∃ w : List Str, (∀ c ∈ w, c ∈ sg) ∧ ¬ (run δ n w ∈ mem ↔ run δ m w ∈ mem)
  mem : ∀ n ∈ order, ∀ m ∈ order, γ n = γ m → (n ∈ mem ↔ m ∈ mem)
  fst : (firL γ order).length = M
  fat : ∀ n ∈ order, ∃ m ∈ order, (firL γ order)[γ n]? = some m ∧ γ m = γ n
  end_ : M ≤ before → ∀ n ∈ order, ∀ m ∈ order, γ n = γ m → ∀ c ∈ sg, γ (δ n c) = γ (δ m c)
theorem fir_gam {α : Type} [DecidableEq α] {key : Nat → α} : (firL (gamL key order) order).length = (metL (order.map key)).length ∧ ∀ n ∈ order, ∃ m ∈ order, (firL (gamL key order) order)[gamL key order n]? = some m ∧ gamL key order m = gamL key order n := by
  have e := firL_keys key order order (List.prefix_refl _)
  have e : (firL (gamL key order) order).map key = metL (order.map key) := e
  refine ⟨by rw [← e, List.length_map], fun n hn => ?_⟩
  have h1 : (metL (order.map key))[gamL key order n]? = some (key n) := ixL_at (key_in hn)
  rw [← e, List.getElem?_map] at h1
  cases q : (firL (gamL key order) order)[gamL key order n]? with
  | none =>
    rw [q] at h1
    cases h1
  | some m =>
    rw [q] at h1
    have hk : key m = key n := Option.some.inj h1
    refine ⟨m, firL_sub _ _ m (List.mem_of_getElem? q), rfl, ?_⟩
    unfold gamL
    rw [hk]
theorem gam_num {α : Type} [DecidableEq α] {key : Nat → α} : metL (order.map (gamL key order)) = List.range (metL (order.map key)).length := by
  have e : order.map (gamL key order) = (order.map key).map (ixL (metL (order.map key))) := by
    rw [List.map_map]
    rfl
  have nd := metL_nodup (order.map key)
  rw [e, ← metL_map]
  generalize metL (order.map key) = L at nd ⊢
  have q : L.map (ixL L) = List.range L.length := by
    refine List.ext_getElem? fun i => ?_
    rw [List.getElem?_map]
    by_cases c : i < L.length
    · rw [List.getElem?_eq_getElem c, List.getElem?_range c]
      exact congrArg some (ixL_nodup nd (List.getElem?_eq_getElem c))
    · rw [List.getElem?_eq_none (by omega), List.getElem?_eq_none (by rw [List.length_range]; omega)]
      rfl
  rw [q, metL_of_nodup _ List.nodup_range]
theorem keyL_ne {βi : Nat → Int} {n m : Nat} (h : keyL βi sg δ n ≠ keyL βi sg δ m) : βi n ≠ βi m ∨ ∃ c ∈ sg, βi (δ n c) ≠ βi (δ m c) := by
  by_cases c : βi n = βi m
  · refine .inr ?_
    have : ¬ ∀ c ∈ sg, βi (δ n c) = βi (δ m c) := fun a => h (by
      unfold keyL
      rw [c, List.map_congr_left a])
    simpa using this
  · exact .inl c
theorem gam_ne {α : Type} [DecidableEq α] {key : Nat → α} {n m : Nat} (h : gamL key order n ≠ gamL key order m) : key n ≠ key m := fun e => h (by
  unfold gamL
  rw [e])
/-- the first blocks, by membership -/
theorem split_first {βi : Nat → Int} (hm2 : ∀ n m, (n ∈ mem ↔ m ∈ mem) → βi n = βi m) (hm : ∀ n m, βi n = βi m → (n ∈ mem ↔ m ∈ mem)) (ne : order ≠ []) : SplitSt order mem sg δ (gamL (keyL βi sg δ) order) (metL (order.map (keyL βi sg δ))).length 0 := by
  refine ⟨parts_of, fun n t e => gam_zero e, gam_num, fun n hn m hm' e => ?_, fun n hn m hm' e => hm _ _ (keyL_at (gam_eq hn hm' e)).1, fir_gam.1, fir_gam.2, fun h => ?_⟩
  · rcases keyL_ne (gam_ne e) with q | ⟨c, hc, q⟩
    · exact ⟨[], by simp, fun z => q (hm2 _ _ z)⟩
    · exact ⟨[c], by simpa using hc, fun z => q (hm2 _ _ z)⟩
  exfalso
  cases order with
  | nil => exact ne rfl
  | cons n t =>
    have := ixL_lt (key_in (key := keyL βi sg δ) (List.mem_cons_self (a := n) (l := t)))
    omega
/-- the next ones -/
theorem split_next {before : Nat} (S : SplitSt order mem sg δ γ M before) (cl : ∀ n ∈ order, ∀ c ∈ sg, δ n c ∈ order) : SplitSt order mem sg δ (gamL (keyN γ sg δ) order) (metL (order.map (keyN γ sg δ))).length M := by
  refine ⟨parts_of, fun n t e => gam_zero e, gam_num, fun n hn m hm e => ?_, fun n hn m hm e => S.mem n hn m hm ?_, fir_gam.1, fir_gam.2, fun h n hn m hm e c hc => ?_⟩
  · rcases keyL_ne (gam_ne e) with q | ⟨c, hc, q⟩
    · exact S.dif n hn m hm fun z => q (by rw [z])
    · obtain ⟨w, hw, ne⟩ := S.dif _ (cl n hn c hc) _ (cl m hm c hc) fun z => q (by rw [z])
      exact ⟨c :: w, fun c' h' => (List.mem_cons.mp h').elim (fun e => e ▸ hc) (hw c'), ne⟩
  · have := (keyL_at (gam_eq hn hm e)).1
    omega
  · have k := (keyL_at (gam_eq hn hm e)).2 c hc
    have k : γ (δ n c) = γ (δ m c) := by omega
    have := parts_stable S.parts h (cl n hn c hc) (cl m hm c hc) k
    unfold gamL
    rw [this]
theorem split_more {before : Nat} (S : SplitSt order mem sg δ γ M before) : M ≤ (metL (order.map (keyN γ sg δ))).length := parts_more S.parts
theorem parts_le (p : Parts order γ M) : M ≤ order.length := by
  have q : (List.range M).length ≤ (order.map γ).length := List.Nodup.length_le_of_subset List.nodup_range fun j hj => by
    obtain ⟨n, hn, e⟩ := p.sur j (List.mem_range.mp hj)
    exact List.mem_map.mpr ⟨n, hn, e⟩
  rwa [List.length_range, List.length_map] at q
/-- no more than lim kinds of states -/
def Few (sg : List Str) (δ : Nat → Str → Nat) (mem : List Nat) (N lim : Nat) : Prop := ∃ ρ : Nat → Nat, (∀ n, n < N → ρ n < lim) ∧ ∀ n, n < N → ∀ m, m < N → ρ n = ρ m → ∀ w : List Str, (∀ c ∈ w, c ∈ sg) → (run δ n w ∈ mem ↔ run δ m w ∈ mem)
theorem few_all {sg : List Str} {δ : Nat → Str → Nat} {mem : List Nat} {N lim : Nat} (h : N ≤ lim) : Few sg δ mem N lim := ⟨fun n => n, fun n hn => Nat.lt_of_lt_of_le hn h, fun n _ m _ e w _ => by rw [show n = m from e]⟩
theorem split_few {before lim : Nat} (S : SplitSt order mem sg δ γ M before) (lt : ∀ n ∈ order, n < N) (f : Few sg δ mem N lim) : M ≤ lim := by
  obtain ⟨ρ, h1, h2⟩ := f
  obtain ⟨p, hp⟩ : ∃ p : Nat → Nat, ∀ j, j < M → p j ∈ order ∧ γ (p j) = j := by
    classical
    refine ⟨fun j => if h : j < M then (S.parts.sur j h).choose else 0, fun j hj => ?_⟩
    dsimp only
    rw [dif_pos hj]
    exact (S.parts.sur j hj).choose_spec
  have nd : ((List.range M).map fun j => ρ (p j)).Nodup := by
    rw [List.nodup_iff_pairwise_ne, List.pairwise_map]
    refine (List.nodup_range (n := M)).imp_of_mem fun {a b} ha hb ne e => ne ?_
    have ha := hp a (List.mem_range.mp ha)
    have hb := hp b (List.mem_range.mp hb)
    refine Classical.byContradiction fun q => ?_
    obtain ⟨w, hw, d⟩ := S.dif _ ha.1 _ hb.1 (by rw [ha.2, hb.2]; exact q)
    exact d (h2 _ (lt _ ha.1) _ (lt _ hb.1) e w hw)
  have := nodup_len (N := lim) nd fun x hx => by
    obtain ⟨j, hj, rfl⟩ := List.mem_map.mp hx
    exact h1 _ (lt _ (hp j (List.mem_range.mp hj)).1)
  rwa [List.length_map, List.length_range] at this
/-- the machine of the blocks -/
def dLst (γ : Nat → Nat) (δ : Nat → Str → Nat) (firsts : List Nat) : Nat → Str → Nat := fun b c => γ (δ (firsts.getD b 0) c)
def fLst (mem firsts : List Nat) : List Nat := (List.range firsts.length).filter fun b => decide (firsts.getD b 0 ∈ mem)
theorem least_of {before : Nat} {t : List Nat} (S : SplitSt order mem sg δ γ M before) (h : M ≤ before) (e0 : order = 0 :: t) (nd : order.Nodup) (lt : ∀ n ∈ order, n < N) (cl : ∀ n ∈ order, ∀ c ∈ sg, δ n c ∈ order) (met : metL (0 :: order.flatMap fun n => sg.map (δ n)) = order) (re : ∀ n ∈ order, ∃ w : List Str, (∀ c ∈ w, c ∈ sg) ∧ run δ 0 w = n) : LeastOf sg δ mem N M (dLst γ δ (firL γ order)) (fLst mem (firL γ order)) := by
  have z0 : 0 ∈ order := by
    rw [e0]
    exact List.mem_cons_self
  have at_ : ∀ n ∈ order, ∃ m ∈ order, (firL γ order).getD (γ n) 0 = m ∧ γ m = γ n := fun n hn => by
    obtain ⟨m, hm, q, g⟩ := S.fat n hn
    refine ⟨m, hm, ?_, g⟩
    rw [List.getD_eq_getElem?_getD, q]
    rfl
  have step : ∀ n ∈ order, ∀ c ∈ sg, dLst γ δ (firL γ order) (γ n) c = γ (δ n c) := fun n hn c hc => by
    obtain ⟨m, hm, q, g⟩ := at_ n hn
    unfold dLst
    rw [q]
    exact S.end_ h m hm n hn g c hc
  have walk : ∀ (w : List Str) (n : Nat), n ∈ order → (∀ c ∈ w, c ∈ sg) → run (dLst γ δ (firL γ order)) (γ n) w = γ (run δ n w) ∧ run δ n w ∈ order := fun w => by
    induction w with
    | nil => exact fun n hn _ => ⟨rfl, hn⟩
    | cons c w ih =>
      intro n hn hw
      rw [run_cons, run_cons, step n hn c (hw c List.mem_cons_self)]
      exact ih _ (cl n hn c (hw c List.mem_cons_self)) fun c' h' => hw c' (List.mem_cons_of_mem _ h')
  have inF : ∀ n ∈ order, (γ n ∈ fLst mem (firL γ order) ↔ n ∈ mem) := fun n hn => by
    obtain ⟨m, hm, q, g⟩ := at_ n hn
    unfold fLst
    rw [List.mem_filter, List.mem_range, S.fst, decide_eq_true_eq, q]
    exact ⟨fun z => (S.mem _ hm _ hn g).mp z.2, fun z => ⟨S.parts.lt _ hn, (S.mem _ hm _ hn g).mpr z⟩⟩
  have pos : 0 < M := Nat.lt_of_le_of_lt (Nat.zero_le _) (S.parts.lt 0 z0)
  have lt' : ∀ b, b < M → ∀ c ∈ sg, dLst γ δ (firL γ order) b c < M := fun b hb c hc => by
    obtain ⟨n, hn, rfl⟩ := S.parts.sur b hb
    rw [step n hn c hc]
    exact S.parts.lt _ (cl n hn c hc)
  have can : Can sg M (dLst γ δ (firL γ order)) (fLst mem (firL γ order)) := by
    refine ⟨pos, lt', fun a ha b hb h => ?_, fun b hb => ?_, ?_, ?_⟩
    · obtain ⟨n, hn, rfl⟩ := S.parts.sur a ha
      obtain ⟨m, hm, rfl⟩ := S.parts.sur b hb
      refine Classical.byContradiction fun ne => ?_
      obtain ⟨w, hw, d⟩ := S.dif n hn m hm ne
      have q := h w hw
      obtain ⟨a1, a2⟩ := walk w n hn hw
      obtain ⟨b1, b2⟩ := walk w m hm hw
      rw [a1, b1, inF _ a2, inF _ b2] at q
      exact d q
    · obtain ⟨n, hn, rfl⟩ := S.parts.sur b hb
      obtain ⟨w, hw, rfl⟩ := re n hn
      refine ⟨w, hw, ?_⟩
      have := (walk w 0 z0 hw).1
      rwa [S.zero 0 t e0] at this
    · have h1 : metL ((metL (0 :: order.flatMap fun n => sg.map (δ n))).map γ) = List.range M := by rw [met, S.num]
      rw [metL_map, List.map_cons, S.zero 0 t e0] at h1
      have h2 : (order.flatMap fun n => sg.map (δ n)).map γ = (order.map γ).flatMap fun b => sg.map (dLst γ δ (firL γ order) b) := by
        rw [List.map_flatMap, List.flatMap_map, List.flatMap_def, List.flatMap_def]
        refine congrArg List.flatten (List.map_congr_left fun n hn => ?_)
        rw [List.map_map]
        exact List.map_congr_left fun c hc => (step n hn c hc).symm
      rw [h2] at h1
      have h3 := metL_flat [0] (fun b => sg.map (dLst γ δ (firL γ order) b)) (order.map γ)
      rw [S.num] at h3
      exact h3.trans h1
    · unfold fLst
      rw [S.fst]
      refine List.filter_congr fun b hb => ?_
      rw [decide_eq_decide, List.mem_filter, decide_eq_true_eq]
      exact ⟨fun h => ⟨hb, h⟩, fun h => h.2⟩
  refine ⟨pos, Nat.le_trans (parts_le S.parts) (nodup_len nd lt), lt', (List.nodup_range (n := (firL γ order).length)).sublist List.filter_sublist, fun b hb => ?_, fun w hw => ?_, can⟩
  · have := List.mem_range.mp (List.mem_filter.mp hb).1
    rwa [S.fst] at this
  · obtain ⟨k1, k2⟩ := walk w 0 z0 hw
    rw [S.zero 0 t e0] at k1
    rw [k1]
    exact inF _ k2
end
end Sl
/-! ## V11 -/
set_option Elab.async false
set_option linter.all false
set_option maxRecDepth 100000
set_option maxHeartbeats 4000000
set_option pp.maxSteps 1500
set_option pp.deepTerms false
/-! the lambda of least_machine: where the states lead -/
namespace Sl
open PySem PySem.Spec PyProof.Rows L2 LamX NdefX
abbrev sLeast : Stmt := top 16
def nth (l : List Stmt) (i : Nat) : Stmt := l.getD i sLeast
def asgVal : Stmt → Expr
  | .Assign _ e _ => e
  | .Return (some e) _ => e
  | _ => .Constant .none 0 ⟨0, 0, 0, 0⟩
def argAt (i : Nat) : Expr → Expr
  | .Call _ es _ _ => es.getD i (.Constant .none 0 ⟨0, 0, 0, 0⟩)
  | e => e
def lamPar : Expr → Arguments → Arguments
  | .Lambda p _ _ _, _ => p
  | _, d => d
def lamBody : Expr → Expr
  | .Lambda _ b _ _ => b
  | e => e
def lamSc : Expr → Scope → Scope
  | .Lambda _ _ s _, _ => s
  | .ListComp _ _ s _, _ => s
  | .DictComp _ _ _ s _, _ => s
  | _, d => d
abbrev eLead : Expr := argAt 1 (asgVal (nth (defBody sLeast) 0))
abbrev scLead : Scope := lamSc eLead (defScope sLeast)
/-- where the states lead, as a graph -/
def gOf (sg : List Str) (δ : Nat → Str → Nat) : Gr := fun n => sg.map fun c => (c, δ n c)
def StAt (K : PySem.W.Frag) (kb : Bool) (st : Addr) (rows : List Addr) (sg : List Str) (δ : Nat → Str → Nat) (H : Hp) : Prop := SqK K kb H st (rows.map V.ref) ∧ RowsAt H rows sg δ
theorem StAt.ext {K : PySem.W.Frag} {kb : Bool} {st : Addr} {rows : List Addr} {sg : List Str} {δ : Nat → Str → Nat} {H H' : Hp} (x : Ext H H') (h : StAt K kb st rows sg δ H) : StAt K kb st rows sg δ H' := ⟨h.1.ext x, h.2.ext x⟩
theorem StAt.extN {K : PySem.W.Frag} {kb : Bool} {st : Addr} {rows : List Addr} {sg : List Str} {δ : Nat → Str → Nat} {H H' : Hp} (x : ExtN H H') (h : StAt K kb st rows sg δ H) : StAt K kb st rows sg δ H' := by
  refine ⟨?_, fun i r e => ?_⟩
  · have rd : ∀ o : HO, (∀ ps, o ≠ .tbl ps) → Rd H st o → Rd H' st o := fun o n r => by
      rcases r with e | ⟨u, e⟩
      · exact .inl (x _ _ e n)
      · exact .inr ⟨u, x _ _ e (by intro ps q; cases q)⟩
    have h1 := h.1
    cases kb with
    | true =>
      rcases h1 with z | z
      · exact .inl (rd _ (by intro ps q; cases q) z)
      · exact .inr z
    | false =>
      rcases h1 with z | z
      · exact .inl (rd _ (by intro ps q; cases q) z)
      · exact .inr z
  · obtain ⟨kvs, h1, h2⟩ := h.2 i r e
    exact ⟨kvs, x _ _ h1 (by intro p q; cases q), h2⟩
theorem gr_ok {K : PySem.W.Frag} {kb : Bool} {st : Addr} {rows : List Addr} {sg : List Str} {δ : Nat → Str → Nat} {N : Nat} (n : N ≤ 100) (ls : sg.length ≤ 100) (lt : ∀ n, n < N → ∀ c ∈ sg, δ n c < N) : GrOk (StAt K kb st rows sg δ) (gOf sg δ) N :=
  ⟨fun _ _ x h => h.extN x, n, fun n hn e he => (by
    obtain ⟨c, hc, rfl⟩ := List.mem_map.mp he
    exact lt n hn c hc), fun n => by
    unfold gOf
    rw [List.length_map]
    exact ls⟩
abbrev nLead : List Str := ["state", "signs", "states", "sign"]
section
variable {P : Program} {w : World} {K : PySem.W.Frag} {mg : Str → Option Value} {base : Heap}
theorem csLead : CScope nLead ["state"] ["signs", "states"] scLead := cscope_by (by decide +kernel)
theorem lead_least {k : Nat} {c' : Addr} {cl : List (Str × Addr)} {kb : Bool} {z : Str} {st : Addr} {rows : List Addr} {δ : Nat → Str → Nat} (z100 : z.cps.size ≤ 100) :
    LeadL P w K mg base (k + 1) (StAt K kb st rows (sgL z) δ) (gOf (sgL z) δ) rows.length ⟨"least_machine.<locals>.<lambda>", lamPar eLead ⟨[], [], none, [], [], none, []⟩, lamBody eLead, scLead, cl, c'⟩ ["signs", "states"] [some (.str z), some (.ref st)] := by
  refine ⟨"state", fun ws vs H Q _ => ws = [some (.str z), some (.ref st)] ∧ spLeads (StAt K kb st rows (sgL z) δ) (gOf (sgL z) δ) rows.length vs H Q, lok_ofC (N := nLead) csLead (fun pm ctv us hl => match us, hl with | [_], _ => rfl) (fun ws vs H Q E h => ?_) (fun f A outer s H vs ws Q E hr hf hc hl h => ?_), fun vs H Q E h => ⟨rfl, h⟩⟩
  · obtain ⟨_, n, rfl, _⟩ := h
    rfl
  · obtain ⟨rfl, n, rfl, hn, hG, kk⟩ := h
    have hu := hu_of hr
    refine ⟨_, pe_lc (own := [("sign", 3)]) (g := gName 3) (tt := tYes) (te := tTup (tCons (tVar 3) (tCons (tDGet (tOp (rIx K) (tVar 2) (tVar 0)) (tVar 3)) tNil))) rfl csLead.nd (pi_str (pe_var (i := 1) rfl (.inr (.inr rfl)))) (blkOk_by (N := nLead) (sc := scLead) (by decide +kernel))
        (fun _ _ _ _ _ => pg_name (i := 3) csLead.nd rfl (Or.inl rfl)) (fun _ _ _ _ _ => pts_nil)
        (fun _ _ _ _ _ => pe_tup (pa_cons (pv 3) (pa_cons (pe_dget hu (pe_ix ix_seq (pe_var (i := 2) rfl (.inr (.inr rfl))) (pe_var (i := 0) rfl (.inr (.inl rfl))) (fun _ _ => rfl)) (pv 3) (fun _ _ => rfl)) pa_nil))), ?_⟩
    refine ⟨_, rfl, z, rfl, fun D nD => ?_⟩
    refine lc_it (walk_str (z := z)) (fun j H' => Ext H H' ∧ ∃ ts : List Addr, H' D = some (.lst (ts.map V.ref)) ∧ LeadsAt H' ts ((gOf (sgL z) δ n).take j)) ⟨Ext.new nD, [], upd_same, .nil⟩ (fun _ _ _ _ => trivial) ?_ ?_
    · rintro j y H6 H7 hj ⟨x6, ts, hD6, hts⟩ ⟨rfl, c, hc, rfl⟩
      have hsg := sgL_at hc
      have cm := List.mem_of_getElem? hsg
      obtain ⟨w1, w2⟩ := hG.ext x6
      obtain ⟨r, hr⟩ : ∃ r, rows[n]? = some r := ⟨_, List.getElem?_eq_getElem hn⟩
      obtain ⟨kr, hk1, hk2⟩ := w2 n r hr
      have ha : atI (rows.map V.ref) (n : Int) = some (.ref r) := atI_nat (by rw [List.getElem?_map, hr]; rfl)
      have gr : DGet H7 r (.str ⟨#[c]⟩) (some (.int (δ n ⟨#[c]⟩ : Nat))) := by
        rw [← hk2 _ cm]
        exact DGet.k (k := keyC ⟨#[c]⟩) hk1
      have ltk : ((gOf (sgL z) δ n).take j).length ≤ 100 := by
        unfold gOf
        rw [List.length_take, List.length_map, sgL_len]
        omega
      have lts : ts.length ≤ 100 := by rw [hts.len]; exact ltk
      refine ⟨rfl, ?_⟩
      dsimp only [tYes]
      rw [if_pos rfl]
      have fin : ∀ p, H7 p = none → ∃ acc, (upd H7 p (.tup [.str ⟨#[c]⟩, .int (δ n ⟨#[c]⟩ : Nat)])) D = some (.lst acc) ∧ acc.length < sizeLine ∧ Ext H (upd (upd H7 p (.tup [.str ⟨#[c]⟩, .int (δ n ⟨#[c]⟩ : Nat)])) D (.lst (acc ++ [.ref p]))) ∧
          ∃ ts : List Addr, (upd (upd H7 p (.tup [.str ⟨#[c]⟩, .int (δ n ⟨#[c]⟩ : Nat)])) D (.lst (acc ++ [.ref p]))) D = some (.lst (ts.map V.ref)) ∧ LeadsAt (upd (upd H7 p (.tup [.str ⟨#[c]⟩, .int (δ n ⟨#[c]⟩ : Nat)])) D (.lst (acc ++ [.ref p]))) ts ((gOf (sgL z) δ n).take (j + 1)) := fun p np => by
        have xp := Ext.new np (o := .tup [.str ⟨#[c]⟩, .int (δ n ⟨#[c]⟩ : Nat)])
        have hp : (upd H7 p (.tup [.str ⟨#[c]⟩, .int (δ n ⟨#[c]⟩ : Nat)])) p = some (.tup [.str ⟨#[c]⟩, .int (δ n ⟨#[c]⟩ : Nat)]) := upd_same
        generalize upd H7 p (.tup [.str ⟨#[c]⟩, .int (δ n ⟨#[c]⟩ : Nat)]) = H8 at xp hp ⊢
        have hD8 := xp _ _ hD6
        have keep : ∀ t xs, H8 t = some (.tup xs) → (upd H8 D (.lst (ts.map V.ref ++ [.ref p]))) t = some (.tup xs) := fun t xs h => by
          rw [upd_ne (ne_of h hD8 (by intro z; cases z))]
          exact h
        refine ⟨_, hD8, by rw [List.length_map]; exact small1000 (by omega), fun a o e => ?_, ts ++ [p], ?_, ?_⟩
        · rw [upd_ne (ne_of_none e nD)]
          exact xp _ _ (x6 _ _ e)
        · rw [upd_same, List.map_append]
          rfl
        · have hg : (gOf (sgL z) δ n)[j]? = some (⟨#[c]⟩, δ n ⟨#[c]⟩) := by
            unfold gOf
            rw [List.getElem?_map, hsg]
            rfl
          rw [take_more hg]
          exact (hts.ext fun t xs h => keep _ _ (xp _ _ h)).snoc (keep _ _ hp)
      refine ⟨_, rfl, _, rfl, _, rfl, ?_⟩
      have fin2 : ∃ a v, V.ref r = V.ref a ∧ DGet H7 a (.str ⟨#[c]⟩) (some v) ∧ ([V.str ⟨#[c]⟩, v].length ≤ sizeLine ∧ ∀ p, H7 p = none → ∃ acc, (upd H7 p (.tup [.str ⟨#[c]⟩, v])) D = some (.lst acc) ∧ acc.length < sizeLine ∧ Ext H (upd (upd H7 p (.tup [.str ⟨#[c]⟩, v])) D (.lst (acc ++ [.ref p]))) ∧
          ∃ ts : List Addr, (upd (upd H7 p (.tup [.str ⟨#[c]⟩, v])) D (.lst (acc ++ [.ref p]))) D = some (.lst (ts.map V.ref)) ∧ LeadsAt (upd (upd H7 p (.tup [.str ⟨#[c]⟩, v])) D (.lst (acc ++ [.ref p]))) ts ((gOf (sgL z) δ n).take (j + 1))) := ⟨r, _, rfl, gr, by show 2 ≤ sizeLine; decide, fin⟩
      rcases w1.or with q | q
      · exact .inl ⟨st, _, n, _, rfl, rfl, q, ha, _, rfl, fin2⟩
      · exact .inr (.inl ⟨st, _, n, _, rfl, rfl, q, ha, _, rfl, fin2⟩)
    · rintro H6 ⟨x6, ts, hD6, hts⟩
      refine kk _ D ts x6 nD hD6 ?_
      have e : z.cps.size = (gOf (sgL z) δ n).length := by
        unfold gOf
        rw [List.length_map, sgL_len]
      rw [e, List.take_length] at hts
      exact hts
end
end Sl
/-! ## B3 -/
set_option Elab.async false
set_option linter.all false
set_option maxRecDepth 100000
set_option maxHeartbeats 4000000
/-! enumerate of a list or a tuple -/
namespace PySem
open Sem (wp)
open AutoSeq1 (wpAny_loadPart')
theorem enum_newT (l : Addr) (items : Array Value) (n : Nat) (dct : Option Addr) (sl : Array (Option Value)) :
    Meets (Builtin.«enumerate.__new__» ⟨[.type "enumerate", .ref l], []⟩) (fun _ R s => s.heap.get? l = some { cls := .type "tuple", dict := dct, data := .seq items n, slots := sl } ∧
      R (.ok (.ret (.ref (s.heap.push { cls := .type "tuple_iterator", data := .fields #[.ref l, .int 0 0] }).objs.size)))
        { s with heap := (s.heap.push { cls := .type "tuple_iterator", data := .fields #[.ref l, .int 0 0] }).push { cls := .type "enumerate", data := .fields #[.none, .bool false, .ref s.heap.objs.size, rawInt 0, .none, .none] } }) :=
  .of_wp fun prog w A R s q => by
    obtain ⟨hp, g, d, tk, os⟩ := s
    obtain ⟨hl, h⟩ := q
    have hsub := sub_enumerate
    have hT : Heap.IsTuple (Shared.heap ⟨hp, g, d, tk, os⟩) l items := ⟨_, hl, rfl, n, rfl⟩
    wp_walk using wpAny_loadPart' hl
    refine wpAny_stack_any fun st => wpAny_pure ?_
    split
    · rename_i c _ _ _ _ _
      cases (c == Value.type "enumerate")
      · wp_walk using wpAny_loadPart' hl, wpAny_pyIter_tuple hT
        exact ⟨_, rfl, h⟩
      · wp_walk using wpAny_loadPart' hl, wpAny_pyIter_tuple hT
        exact ⟨_, rfl, h⟩
    · wp_walk using wpAny_loadPart' hl, wpAny_pyIter_tuple hT
      exact ⟨_, rfl, h⟩
section
variable {prog : Program} {w : World} {A : Around} {E : Value → Shared → Prop} {s : Shared}
theorem call_enumT {l : Addr} {items : Array Value} {Q : Value → Shared → Prop} (hL : s.heap.IsTuple l items)
    (h : ∀ h', IsEnum h' (s.heap.objs.size + 1) s.heap.objs.size 0 .none → h'.IsTupleIter s.heap.objs.size l 0 → h'.objs.size = s.heap.objs.size + 2 → (∀ b o, s.heap.get? b = some o → h'.get? b = some o) → Q (.ref (s.heap.objs.size + 1)) { s with heap := h' }) :
    wpAny (model prog w) A (call (.type "enumerate") [.ref l]) Q E s := by
  obtain ⟨⟨c, dct, dt, sl⟩, hl, hc, n, hd⟩ := hL
  cases (show c = .type "tuple" from hc)
  cases (show dt = .seq items n from hd)
  refine callType_new F.called_enumerate (by decide) (F.typeCall_enumerate_1 _) (F.newCall_enumerate_1 _) (fun obj => F.args_object_init_2 obj _) F.entry_enumerate_new (enum_newT l items n dct sl) ⟨hl, ?_⟩
  have z : (s.heap.push { cls := .type "tuple_iterator", data := .fields #[.ref l, .int 0 0] }).objs.size = s.heap.objs.size + 1 := Heap.size_push ..
  show _ ∧ _
  rw [z]
  have he : IsEnum ((s.heap.push { cls := .type "tuple_iterator", data := .fields #[.ref l, .int 0 0] }).push { cls := .type "enumerate", data := .fields #[.none, .bool false, .ref s.heap.objs.size, rawInt 0, .none, .none] }) (s.heap.objs.size + 1) s.heap.objs.size 0 .none := by
    have q := Heap.get?_push_size (s.heap.push { cls := .type "tuple_iterator", data := .fields #[.ref l, .int 0 0] }) (o := { cls := .type "enumerate", data := .fields #[.none, .bool false, .ref s.heap.objs.size, rawInt 0, .none, .none] }) rfl
    rw [z] at q
    exact q
  exact ⟨⟨_, he, rfl⟩, h _ he ⟨_, Heap.get?_push_of_some _ (Heap.get?_push_size _ rfl), rfl, rfl⟩ (by rw [Heap.size_push, z]) fun b o x => Heap.get?_push_of_some _ (Heap.get?_push_of_some _ x)⟩
end
end PySem
namespace Sl
open PySem PySem.Spec PyProof.Rows L2
def Iett (K : PySem.W.Frag) (a : Addr) : It :=
  ⟨fun i H => ∃ (xs : List V) (x : V), SqT K H a xs ∧ xs[i]? = some x, fun i H v H' => ∃ T x, v = .ref T ∧ H T = none ∧ H' = upd H T (.tup [.int (i : Nat), x]) ∧ ∀ xs, SqT K H a xs → xs[i]? = some x, fun i H => ∃ xs : List V, SqT K H a xs ∧ xs.length ≤ i⟩
theorem turn_enumT {P : Program} {w : World} {K : PySem.W.Frag} {elts : List Expr} {kk : Nat} {tpos : Pos} (a e it : Addr) :
    Turn P w K (.Tuple elts kk tpos) (Iett K a) [e, it] e (fun i h => (∃ old, IsEnum h e it ((i : Nat) : Int) old) ∧ h.IsTupleIter it a i ∧ e ≠ it) where
  mem := by simp
  obj := fun i h st b hb => by
    obtain ⟨⟨old, he⟩, ⟨o, ho, hc, hd⟩, _⟩ := st
    rcases (show b = e ∨ b = it by simpa using hb) with rfl | rfl
    · exact ⟨_, he, fun v q => nomatch q⟩
    · exact ⟨o, ho, fun v q => by rw [hd] at q; cases q⟩
  keep := fun i h h' st k => by
    obtain ⟨⟨old, he⟩, ⟨o, ho, r⟩, ne⟩ := st
    exact ⟨⟨old, k e (by simp) _ he⟩, ⟨o, k it (by simp) _ ho, r⟩, ne⟩
  item := by
    intro X eP ew eK hc i pins s σ H E I fr st gg
    subst eP ew eK
    obtain ⟨⟨old, he⟩, hit, ne⟩ := st
    obtain ⟨xs, x, hq, hx⟩ := gg
    obtain ⟨us, rv, tp, z⟩ := I.tuple hq
    obtain ⟨u, hu, ru⟩ := rv.get hx
    have tp : s.heap.IsTuple a us.toArray := tp
    have el : e < s.heap.objs.size := Heap.lt_size he
    have il : it < s.heap.objs.size := by
      obtain ⟨_, q, _⟩ := hit
      exact Heap.lt_size q
    have hh : X.A.in1.handled = none := I.ok.hd hc
    have nai : a ≠ it := fun q => by
      obtain ⟨o1, e1, c1, _⟩ := hit
      obtain ⟨o2, e2, c2, _⟩ := tp
      rw [q, e1] at e2
      cases e2
      rw [c1] at c2
      exact absurd c2 (by decide)
    have nea : e ≠ a := fun q => by
      obtain ⟨o2, e2, c2, _⟩ := tp
      have he' : s.heap.get? e = _ := he
      rw [q, e2] at he'
      cases he'
      exact absurd (show Value.type "enumerate" = Value.type "tuple" from c2) (by decide)
    have D := Draws.tuple (prog := X.prog) (w := X.w) hh it a nai us.toArray
    have iz : i < us.toArray.size := by
      have k1 := (List.getElem?_eq_some_iff.mp hx).1
      have k2 := rv.length
      rw [List.size_toArray]
      omega
    refine wpAny_pyNext_enum_itemD D he ⟨hit, tp⟩ iz ne (by simp [ne, nea]) fun v h' tk hv ho hs hT sz hk => ?_
    have ev : v = u := by
      have k : us.toArray[i]? = some v := hv
      rw [List.getElem?_toArray, hu] at k
      exact (Option.some.inj k).symm
    subst ev
    refine ⟨_, rfl, wpAny_letOwnedTupleGo_enum (s := { s with heap := h', toks := tk + 1 }) ho fun h'' he' sb => ?_⟩
    have hT2 : h''.get? s.heap.objs.size = some { cls := .type "tuple", data := .seq #[.int i tk, v] } := (sb.2 _ (Nat.ne_of_gt el)).trans hT
    have new : ObjOk X.prog X.w (upd H s.heap.objs.size (.tup [.int (i : Nat), x])) h'' s.heap.objs.size (.tup [.int (i : Nat), x]) := ⟨by show 2 ≤ sizeLine; decide, [.int i tk, v], .cons ⟨_, rfl⟩ (.cons ru .nil), ⟨_, hT2, rfl, _, rfl⟩⟩
    have J : Inv X pins σ (upd H s.heap.objs.size (.tup [.int (i : Nat), x])) { s with heap := h'', toks := tk + 1 } :=
      I.turnedNew (ch := [e, it]) (fun b ob nb q => (sb.2 b (fun w => nb (by simp [w]))).trans (hk b ob (fun w => nb (by simp [w])) (fun w => nb (by simp [w])) q)) fr (Nat.le_refl _) new
    refine ⟨.ref s.heap.objs.size, _, J, rfl, ⟨_, x, rfl, I.hok.fresh (Nat.le_refl _), rfl, fun ys hy => by rw [I.tuple_inj hy hq]; exact hx⟩, ⟨⟨v, ?_⟩, ?_, ne⟩, fun b hb => ?_⟩
    · rw [show ((i + 1 : Nat) : Int) = (i : Int) + 1 by omega]
      exact he'
    · obtain ⟨o, g, r⟩ := hs.1
      exact ⟨o, (sb.2 it (Ne.symm ne)).trans g, r⟩
    · have lt : b < s.heap.objs.size := by
        rcases (show b = e ∨ b = it by simpa using hb) with rfl | rfl
        · exact el
        · exact il
      rw [upd_ne (Nat.ne_of_lt lt)]
      exact (fr b hb).1
  done := by
    intro X eP ew eK hc i pins s σ H E I fr st gg
    subst eP ew eK
    obtain ⟨⟨old, he⟩, hit, ne⟩ := st
    obtain ⟨xs, hq, hx⟩ := gg
    obtain ⟨us, rv, tp, z⟩ := I.tuple hq
    have tp : s.heap.IsTuple a us.toArray := tp
    obtain ⟨f0, f1, f2, f3, f4, f5⟩ := fr it (by simp)
    have hh : X.A.in1.in1.handled = none := I.ok.hd hc
    have ln := rv.length
    have hT : s.TypeIs (.ref e) "enumerate" := ⟨_, he, rfl⟩
    unfold pyNext
    refine wpAny_bind (wpAny_attempt (wpAny_callSpecial?_slot (name := Str.ofString "__next__") hT F.slot_enumerate_next (wpAny_call_entry F.slot_enumerate_next hT F.entry_enumerate_next ?_ (F.args_enumerate_next_1 _))))
    show wpAny _ _ (field (.ref e) 2 >>= _) _ _ _
    refine wpAny_bind (wpAny_field he rfl (x := .ref it) rfl (wpAny_bind (wpAny_nextOf_tuple_end hh hit tp (by simp; omega) fun h' y eb hy => ?_)))
    obtain ⟨o, ho, hc⟩ := hy
    exact wpAny_bind (wpAny_isInstance (T := "StopIteration") (b := true) ⟨o, ho, hc⟩ isSubtype_stop (wpAny_pure ⟨rfl, I.turned (t' := s.toks) (fun b o hb q => eb b o hb q) f0 f1 f3 f4 f5⟩))
  self := fun A i s Q E st h => let ⟨⟨_, he⟩, _⟩ := st; wpAny_pyIter_enum he h
def ItE (K : PySem.W.Frag) (k : Bool) (a : Addr) : It := match k with
  | true => Ite K a
  | false => Iett K a
theorem walk_enumT {K : PySem.W.Frag} {a : Addr} {xs : List V} : Walk (Iett K a) xs.length (fun H => SqT K H a xs) (YPair (fun i => some (.int (i : Nat))) (fun i => xs[i]?)) := by
  refine ⟨fun i _ hi q => ⟨xs, xs[i], q, by simp [hi]⟩, fun _ q => ⟨xs, q, Nat.le_refl _⟩, fun i H v H' _ q y => ?_⟩
  obtain ⟨T, x, h1, h2, h3, h4⟩ := y
  exact ⟨T, .int (i : Nat), x, h1, h2, h3, rfl, h4 xs q⟩
theorem walk_enumK {K : PySem.W.Frag} {k : Bool} {a : Addr} {xs : List V} : Walk (ItE K k a) xs.length (fun H => SqK K k H a xs) (YPair (fun i => some (.int (i : Nat))) (fun i => xs[i]?)) := by
  cases k
  · exact walk_enumT
  · exact walk_enum
def iEnumK (K : PySem.W.Frag) (ta : TA) : TI := fun σ H R => ta σ H fun vs H1 => ∃ (k : Bool) (a : Addr) (xs : List V), vs = [.ref a] ∧ SqK K k H1 a xs ∧ R (ItE K k a) H1
theorem pi_enumK {X : Cx} {e : Expr} {ta : TA} {p pos tpos : Pos} {elts : List Expr} {kk : Nat} (hg : Gl X "enumerate") (hm : X.mg "enumerate" = none) (ha : PA X [e] ta) (hs : starEach [e] X.env = [(false, eval e X.env)] := by rfl) :
    PI X (.Tuple elts kk tpos) (.Call (.Name "enumerate" p) [e] [] pos) (iEnumK X.K ta) := by
  refine ⟨fun pins s σ H R I h => Call_ (ld_blt I hg hm boot_enumerate (callWith_type1 (thn (ha.run pos pins s σ H _ I h) fun us s1 r => ?_) hs rfl))⟩
  obtain ⟨vs, H1, J, rv, k, a, xs, rfl, hq, q⟩ := r
  cases rv with
  | cons r rr =>
    cases rr
    cases r
    have ge : ∀ b : Addr, b ∈ [s1.heap.objs.size + 1, s1.heap.objs.size] → s1.heap.objs.size ≤ b := fun b hb => by
      rcases (show b = s1.heap.objs.size + 1 ∨ b = s1.heap.objs.size by simpa using hb) with z | z
      · rw [z]
        exact Nat.le_add_right _ _
      · rw [z]
        exact Nat.le_refl _
    cases k with
    | true =>
      obtain ⟨its, rs, pl, z⟩ := J.list hq
      refine call_enumerate_list pl.isList fun h' he hit sz hk => wpAny_pyIter_enum he ⟨s1.heap.objs.size + 1, [s1.heap.objs.size + 1, s1.heap.objs.size], _, _, H1, rfl, J.kept (t' := s1.toks) hk, turn_enum a (s1.heap.objs.size + 1) s1.heap.objs.size, ⟨⟨.none, he⟩, hit, Nat.succ_ne_self _⟩, fun b hb => ?_, q⟩
      exact J.fpOk (ge b hb) (J.hok.fresh (ge b hb))
    | false =>
      obtain ⟨its, rs, pl, z⟩ := J.tuple hq
      refine call_enumT (show s1.heap.IsTuple a its.toArray from pl) fun h' he hit sz hk => wpAny_pyIter_enum he ⟨s1.heap.objs.size + 1, [s1.heap.objs.size + 1, s1.heap.objs.size], _, _, H1, rfl, J.kept (t' := s1.toks) hk, turn_enumT a (s1.heap.objs.size + 1) s1.heap.objs.size, ⟨⟨.none, he⟩, hit, Nat.succ_ne_self _⟩, fun b hb => ?_, q⟩
      exact J.fpOk (ge b hb) (J.hok.fresh (ge b hb))
end Sl
/-! ## V12 -/
set_option Elab.async false
set_option linter.all false
set_option maxRecDepth 100000
set_option maxHeartbeats 4000000
set_option pp.maxSteps 1500
set_option pp.deepTerms false
/-! least_machine -/
namespace Sl
open PySem PySem.Spec PyProof.Rows L2 LamX NdefX
/-- a branch that is never taken -/
theorem pss_dead {X : Cx} {b : List Stmt} : PSs X b (fun _ _ _ => False) := ⟨fun _ _ _ _ _ _ h => h.elim⟩
abbrev nLeast : List Str := ["signs", "states", "member_states", "limit", "order", "chosen", "blocks", "before", "many", "firsts", "least", "state", "sign", "block"]
/-- a block's scope in the def around it -/
def relS (sc : Scope) (env : Scope) : Scope := { sc with names := sc.names.map fun (n, k) => if (k == .free && env.kind == .function && env.names.lookup n == some .cell) then (n, .cell) else (n, k) }
abbrev scRows : Scope := lamSc (asgVal (nth (defBody sLeast) 7)) (defScope sLeast)
/-- the row of a machine -/
def rowD (sg : List Str) (d : Str → Nat) : List (Key × V) := sg.map fun c => (keyC c, .int (d c : Nat))
def RowsD (H : Hp) (rows : List Addr) (sg : List Str) (δ : Nat → Str → Nat) : Prop := ∀ i r, rows[i]? = some r → H r = some (.dK (rowD sg (δ i)))
def spLeast (P : Program) (w : World) (K : PySem.W.Frag) (T : List NTab) : Sp := fun vs H Q _ => ∃ (kb km : Bool) (z : Str) (st ms : Addr) (lim : Nat) (rows : List Addr) (mem : List Nat) (δ : Nat → Str → Nat), vs = [.str z, .ref st, .ref ms, .int lim] ∧
  SqK K kb H st (rows.map V.ref) ∧ RowsAt H rows (sgL z) δ ∧ SqK K km H ms (mem.map fun n => V.int (n : Nat)) ∧ mem.length ≤ 100 ∧ 0 < rows.length ∧ Few (sgL z) δ mem rows.length lim ∧ rows.length ≤ 100 ∧ z.cps.size ≤ 100 ∧ (sgL z).Nodup ∧ (∀ n, n < rows.length → ∀ c ∈ sgL z, δ n c < rows.length) ∧ TabsN T H ∧
  ∀ (H' : Hp) (t L F : Addr) (rs : List Addr) (M : Nat) (δ' : Nat → Str → Nat) (found : List Nat), ExtN H H' → (∀ b, H' b = none → H b = none) → TabsN T H' → H t = none → H L = none → H F = none → H' t = some (.tup [.ref L, .ref F]) → H' L = some (.lst (rs.map V.ref)) → rs.length = M → (∀ r ∈ rs, H r = none) → RowsD H' rs (sgL z) δ' →
    H' F = some (.lst (found.map fun n => V.int (n : Nat))) → LeastOf (sgL z) δ mem rows.length M δ' found → M ≤ lim → Q (.ref t) H'
theorem sqK_extN {K : PySem.W.Frag} {k : Bool} {H H' : Hp} {a : Addr} {xs : List V} (x : ExtN H H') (h : SqK K k H a xs) : SqK K k H' a xs := by
  have rd : ∀ o : HO, (∀ ps, o ≠ .tbl ps) → Rd H a o → Rd H' a o := fun o n r => by
    rcases r with e | ⟨u, e⟩
    · exact .inl (x _ _ e n)
    · exact .inr ⟨u, x _ _ e (by intro ps q; cases q)⟩
  cases k with
  | true =>
    rcases h with z | z
    · exact .inl (rd _ (by intro ps q; cases q) z)
    · exact .inr z
  | false =>
    rcases h with z | z
    · exact .inl (rd _ (by intro ps q; cases q) z)
    · exact .inr z
theorem gOf_met {sg : List Str} {δ : Nat → Str → Nat} {first : Nat} {l : List Nat} (h : metL (first :: l.flatMap fun n => (gOf sg δ n).map (·.2)) = l) : metL (first :: l.flatMap fun n => sg.map (δ n)) = l := by
  have e : (fun n => (gOf sg δ n).map (·.2)) = fun n => sg.map (δ n) := by
    funext n
    unfold gOf
    rw [List.map_map]
    rfl
  rw [e] at h
  exact h
theorem reach_run {sg : List Str} {δ : Nat → Str → Nat} : ∀ {n : Nat}, Reach (gOf sg δ) [0] n → ∃ w : List Str, (∀ c ∈ w, c ∈ sg) ∧ run δ 0 w = n
  | _, .base m => ⟨[], by simp, (List.mem_singleton.mp m).symm⟩
  | _, .step (x := x) (e := e) r m => by
    obtain ⟨w, hw, q⟩ := reach_run r
    obtain ⟨c, hc, rfl⟩ := List.mem_map.mp m
    refine ⟨w ++ [c], fun c' h' => ?_, ?_⟩
    · rcases List.mem_append.mp h' with h | h
      · exact hw c' h
      · rw [List.mem_singleton.mp h]
        exact hc
    · rw [run_app, q]
      rfl
section
variable {P : Program} {w : World} {K : PySem.W.Frag} {mg : Str → Option Value} {base : Heap}
theorem scLeast : FnScope nLeast ["signs", "states", "member_states", "limit"] (defScope sLeast) := ⟨rfl, rfl, rfl, by decide +kernel, rfl, by decide +kernel, by decide +kernel⟩
theorem lead_free : ∀ y ∈ scLead.names, y.2 = NameKind.free → (defScope sLeast).names.lookup y.1 = some .cell ∨ (defScope sLeast).names.lookup y.1 = some .free := by decide +kernel
theorem ok_least {T : List NTab} {f fR fS fF : Addr} {fd fdR fdS fdF : FuncData} (Fn : Fun K "least_machine" "least_machine" sLeast f fd) (LM : Lams base mg T fd "least_machine.<locals>.<lambda>")
    (aR : At K mg "reached" fR fdR ["first", "leads"] []) (gR : FnV P w K mg base CX0 4 fR fdR ["first", "leads"] (spReached P w K mg base T 2))
    (aS : At K mg "_split" fS fdS ["signs", "states", "order", "blocks"] []) (gS : FnOk P w K mg base CX0 1 fS fdS ["signs", "states", "order", "blocks"] (spSplit P w K))
    (aF : At K mg "_firsts" fF fdF ["order", "blocks"] []) (gF : FnOk P w K mg base CX0 1 fF fdF ["order", "blocks"] spFirsts) (ze : mg "enumerate" = none) :
    FnOk P w K mg base CX0 5 f fd ["signs", "states", "member_states", "limit"] (spLeast P w K T) := by
  obtain ⟨c, Tb, hcode, TB, hmT, hu⟩ := LM.ex
  refine Sl.Fun.okM Fn scLeast (fun vs H Q E h => ?_) (fun A0 outer s H vs Q E hr h => ?_)
  · obtain ⟨kb, km, z, st, ms, lim, rows, mem, δ, rfl, _⟩ := h
    rfl
  · obtain ⟨kb, km, z, st, ms, lim, rows, mem, δ, rfl, hst, hrows, hms, lm, rpos, rlim, r100, z100, ndg, δlt, hT, kk⟩ := h
    have huu := hu_of hr
    have hr1 := hr.mono (show 1 ≤ 4 by omega)
    refine ⟨_, pss_cons (ps_set (i := 4) scLeast.nd rfl (.inl rfl) (pe_callV (fr := ["signs", "states"]) (ws := fun σ => ([0, 1] : List Nat).map (slotAt σ)) (E := fun _ _ _ => False) gR
          (fun pins σ H s I => cellsF_of I (Caps.made (scope := scLead) I.ok lead_free (by decide +kernel) rfl) (fun _ => rfl) rfl rfl) hr (by rfl) aR.g aR.kp aR.b pass0
          (pa_cons pe_int (pa_cons (pe_lamV (T := T) TB hcode hmT hu rfl lead_free) pa_nil))))
      (pss_cons (ps_set (i := 5) scLeast.nd rfl (.inr rfl) (pe_dc (own := [("state", 11)]) (g := gName 11) (tt := tYes) (tk := tVar 11) (tv := tC (.bl true)) rfl scLeast.nd (pi_seq (pv 2)) (blkOk_by (N := nLeast) (sc := defScope sLeast) (by decide +kernel))
          (fun _ _ _ _ _ => pg_name (i := 11) scLeast.nd rfl (Or.inl rfl)) (fun _ _ _ _ _ => pts_nil) (fun _ _ _ _ _ => pv 11) (fun _ _ _ _ _ => pe_bl)))
      (pss_cons (ps_set (i := 6) scLeast.nd rfl (.inr rfl) (pe_dc (own := [("state", 11)]) (g := gName 11) (tt := tYes) (tk := tVar 11) (tv := tDIn (tVar 11) (tVar 5)) rfl scLeast.nd (pi_list (pv 4)) (blkOk_by (N := nLeast) (sc := defScope sLeast) (by decide +kernel))
          (fun _ _ _ _ _ => pg_name (i := 11) scLeast.nd rfl (Or.inl rfl)) (fun _ _ _ _ _ => pts_nil) (fun _ _ _ _ _ => pv 11) (fun _ _ _ _ _ => pe_cmp (pc_din huu (pv 11) (pe_var (i := 5) rfl (.inr (.inl rfl)))))))
      (pss_cons (ps_set (i := 7) scLeast.nd rfl (.inl rfl) pe_int)
      (pss_cons (ps_asg (pe_call gS hr1 (by rfl) aS.g aS.kp aS.b .nil pass0 (pa_cons (pe_var (i := 0) rfl (.inr (.inl rfl))) (pa_cons (pe_var (i := 1) rfl (.inr (.inl rfl))) (pa_cons (pv 4) (pa_cons (pe_var (i := 6) rfl (.inr (.inl rfl))) pa_nil)))))
          (pg_tup (by rfl) (pgs_cons (pg_name (i := 6) scLeast.nd rfl (.inr rfl)) (pgs_cons (pg_name (i := 8) scLeast.nd rfl (.inl rfl)) pgs_nil))))
      (pss_cons (ps_while (passes_of rfl) (pt_cmpR op_gt (pv 8) (pv 7) (nomark _))
        (pss_cons (ps_if (pt_cmpR op_gt (pv 8) (pv 3) (nomark _)) pss_dead pss_nil)
        (pss_cons (ps_set (i := 7) scLeast.nd rfl (.inl rfl) (pv 8))
        (pss_one (ps_asg (pe_call gS hr1 (by rfl) aS.g aS.kp aS.b .nil pass0 (pa_cons (pe_var (i := 0) rfl (.inr (.inl rfl))) (pa_cons (pe_var (i := 1) rfl (.inr (.inl rfl))) (pa_cons (pv 4) (pa_cons (pe_var (i := 6) rfl (.inr (.inl rfl))) pa_nil)))))
          (pg_tup (by rfl) (pgs_cons (pg_name (i := 6) scLeast.nd rfl (.inr rfl)) (pgs_cons (pg_name (i := 8) scLeast.nd rfl (.inl rfl)) pgs_nil))))))))
      (pss_cons (ps_set (i := 9) scLeast.nd rfl (.inl rfl) (pe_call gF hr1 (by rfl) aF.g aF.kp aF.b .nil pass0 (pa_cons (pv 4) (pa_cons (pe_var (i := 6) rfl (.inr (.inl rfl))) pa_nil))))
      (pss_cons (ps_setLc (i := 10) (own := [("state", 11)]) (g := gName 11) (tt := tYes) (te := tDc (iStr (tVar 0)) (gName 12) tYes (tVar 12) (tDGet (tVar 6) (tDGet (tOp (rIx K) (tVar 1) (tVar 11)) (tVar 12))) [12]) rfl scLeast.nd rfl rfl (sw_true rfl rfl rfl (by decide +kernel)) (pi_list (pv 9)) (blkOk_by (N := nLeast) (sc := defScope sLeast) (by decide +kernel))
          (fun _ _ _ _ _ => pg_name (i := 11) scLeast.nd rfl (Or.inr rfl)) (fun _ _ _ _ _ => pts_nil)
          (fun _ _ _ _ _ => pe_dc (own := [("sign", 12)]) (g := gName 12) (tt := tYes) (tk := tVar 12) rfl scLeast.nd (pi_str (pe_var (i := 0) rfl (.inr (.inl rfl)))) (blkOk_by (N := nLeast) (sc := relS scRows (defScope sLeast)) (by decide +kernel))
              (fun _ _ _ _ _ => pg_name (i := 12) scLeast.nd rfl (Or.inl rfl)) (fun _ _ _ _ _ => pts_nil) (fun _ _ _ _ _ => pv 12)
              (fun _ _ _ _ _ => pe_dget huu (pe_var (i := 6) rfl (.inr (.inl rfl))) (pe_dget huu (pe_ix ix_seq (pe_var (i := 1) rfl (.inr (.inl rfl))) (pe_var (i := 11) rfl (.inr (.inl rfl))) (fun _ _ => rfl)) (pv 12) (fun _ _ => rfl)) (fun _ _ => rfl))))
      (pss_one (ps_ret (pe_tup (pa_cons (pv 10) (pa_cons (pe_lc (own := [("block", 13), ("state", 11)]) (g := gTup K 2 (gCons (gName 13) (gCons (gName 11) gNil))) (tt := tB (tDIn (tVar 11) (tVar 5))) (te := tVar 13) rfl scLeast.nd (pi_enumK (by rfl) ze (pa_cons (pv 9) pa_nil)) (blkOk_by (N := nLeast) (sc := defScope sLeast) (by decide +kernel))
          (fun _ _ _ _ _ => pg_tup (by rfl) (pgs_cons (pg_name (i := 13) scLeast.nd rfl (.inl rfl)) (pgs_cons (pg_name (i := 11) scLeast.nd rfl (.inl rfl)) pgs_nil)))
          (fun _ _ _ _ _ => pts_one (pt_cmp (pc_din huu (pv 11) (pe_var (i := 5) rfl (.inr (.inl rfl)))))) (fun _ _ _ _ _ => pv 13)) pa_nil)))))))))))), ?_⟩
    have hlt : ∀ n, n < rows.length → ∀ e ∈ gOf (sgL z) δ n, e.2 < rows.length := fun n hn e he => by
      obtain ⟨c, hc, rfl⟩ := List.mem_map.mp he
      exact δlt n hn c hc
    have FO := reachedL_found hlt rpos
    have met := gOf_met (reachedL_met hlt rpos)
    have gk : GrOk (StAt K kb st rows (sgL z) δ) (gOf (sgL z) δ) rows.length := gr_ok r100 (by rw [sgL_len]; exact z100) δlt
    refine ⟨hT, fun f2 c2 H1 x1 nn1 T1 nf2 hf2 hc2 => ?_⟩
    refine ⟨f2, _, 0, rows.length, StAt K kb st rows (sgL z) δ, gOf (sgL z) δ, rfl, hf2, hc2, rfl, lead_least z100, T1, StAt.extN x1 ⟨hst, hrows⟩, gk, rpos, fun H2 od xN nnN T2 nod hod => ?_⟩
    generalize reachedL (gOf (sgL z) δ) rows.length 0 = order at FO met hod
    have x2 := x1.trans xN
    have S2 : StAt K kb st rows (sgL z) δ H2 := StAt.extN x2 ⟨hst, hrows⟩
    have hms2 := sqK_extN x2 hms
    clear nf2 hf2 hc2
    have ocl : ∀ n ∈ order, ∀ c ∈ sgL z, δ n c ∈ order := fun n hn c hc => FO.cl n hn (c, δ n c) (List.mem_map.mpr ⟨c, hc, rfl⟩)
    obtain ⟨ot, eo⟩ : ∃ t, order = 0 :: t := by
      obtain ⟨t, ht⟩ := FO.pre
      exact ⟨t, ht.symm⟩
    have lo : order.length ≤ 100 := Nat.le_trans (nodup_len FO.nd FO.lt) r100
    -- chosen
    refine ⟨_, rfl, km, ms, rfl, ⟨_, hms2⟩, fun D nD => ?_⟩
    refine dcW (walk_seq (xs := mem.map fun n => V.int (n : Nat))) (fun i H' => Ext H2 H' ∧ ∃ kvs, H' D = some (.dK kvs) ∧ kvs.length ≤ i ∧ ∀ n, (valV kvs (keyI n)).isSome = decide (n ∈ mem.take i)) ⟨Ext.new nD, [], upd_same, Nat.le_refl _, fun _ => rfl⟩ (fun i H' _ h => hms2.ext h.1) ?_ ?_
    · rintro i x H7 H8 hi ⟨x7, kvs, d7, l7, k7⟩ ⟨rfl, hx⟩
      obtain ⟨n, hn, rfl⟩ := at_map hx
      rw [List.length_map] at hi
      refine ⟨rfl, _, rfl, kvs, keyI n, rfl, d7, small_l (by omega), fun a o e => by rw [upd_ne (ne_of_none e nD)]; exact x7 _ _ e, _, upd_same, Nat.le_trans (length_putK _ _ _) (by omega), fun m => ?_⟩
      rw [valV_put, take_more hn]
      by_cases c : m = n
      · subst c
        rw [if_pos rfl]
        simp
      · rw [if_neg (fun e => c (keyI_inj e)), k7]
        simp [c]
    rintro H3 ⟨x3, kvc, d3, l3, k3⟩
    rw [List.length_map, List.take_length] at k3
    rw [List.length_map] at l3
    -- blocks
    have hod3 := x3 _ _ hod
    refine ⟨_, rfl, od, rfl, ⟨_, SqL.of hod3⟩, fun B nB => ?_⟩
    refine dcW (walk_list (xs := order.map fun n => V.int (n : Nat))) (fun i H' => Ext H3 H' ∧ H' B = some (.dK (blkD (order.take i) fun n => .bl (decide (n ∈ mem))))) ⟨Ext.new nB, upd_same⟩ (fun i H' _ h => SqL.of (h.1 _ _ hod3)) ?_ ?_
    · rintro i x H7 H8 hi ⟨x7, d7⟩ ⟨rfl, hx⟩
      obtain ⟨n, hn, rfl⟩ := at_map hx
      have nin : valV (blkD (order.take i) fun n => V.bl (decide (n ∈ mem))) (keyI n) = none := by
        rw [blk_val]
        refine if_neg fun h => ?_
        have h1 : (order.take (i + 1)).Nodup := FO.nd.sublist (List.take_sublist _ _)
        rw [take_more hn] at h1
        exact (List.nodup_append.mp h1).2.2 n h n (by simp) rfl
      have g : DGet H8 D (.int n) (valV kvc (keyI n)) := DGet.k (k := keyI n) (x7 _ _ d3)
      refine ⟨rfl, ?_⟩
      dsimp only [tYes]
      rw [if_pos rfl]
      refine ⟨_, rfl, _, rfl, _, rfl, D, _, rfl, g, _, keyI n, rfl, d7, by rw [blk_len, List.length_take]; exact small1000 (by omega), fun a o e => by rw [upd_ne (ne_of_none e nB)]; exact x7 _ _ e, ?_⟩
      rw [upd_same, putK_new _ nin, k3, take_more hn, blk_snoc]
    rintro H4 ⟨x4, hB⟩
    rw [List.length_map, List.take_length] at hB
    have x24 := x3.trans x4
    have nn2 : ∀ b, H2 b = none → H b = none := fun b e => nn1 b (nnN b e)
    have S4 := S2.ext x24
    have d4 := x4 _ _ d3
    have hod4 := x4 _ _ hod3
    have x04 : ExtN H H4 := x2.trans (ExtN.of x24)
    have T4 := T2.ext x24
    have k4 : ∀ n, (valV kvc (keyI n)).isSome = decide (n ∈ mem) := k3
    clear S2 hms2 hod3 d3 k3 x3 x4 hod T2 T1 xN x1 nD nB nnN nod nn1
    -- the first split
    refine ⟨_, rfl, _, rfl, _, rfl, _, rfl, kb, z, st, od, B, rows, order, _, fun n => if decide (n ∈ mem) = true then 1 else 0, δ, rfl, S4.1, S4.2, hod4, hB, fun n => rfl, FO.nd, by omega, fun n hn => ⟨FO.lt n hn, ocl n hn⟩, z100, fun H5 t sp x5 nt nsp ht hsp => ?_⟩
    refine ⟨t, _, rfl, SqT.of ht, rfl, _, _, rfl, _, _, rfl, rfl, ?_⟩
    have first : SplitSt order mem (sgL z) δ (gamL (keyL (fun n => if decide (n ∈ mem) = true then 1 else 0) (sgL z) δ) order) (metL (order.map (keyL (fun n => if decide (n ∈ mem) = true then 1 else 0) (sgL z) δ))).length 0 :=
      split_first (fun n m e => by
        by_cases c1 : n ∈ mem <;> by_cases c2 : m ∈ mem <;> simp [c1, c2] at e ⊢) (fun n m e => by
        by_cases c1 : n ∈ mem <;> by_cases c2 : m ∈ mem <;> simp [c1, c2] at e ⊢) (by rw [eo]; exact List.cons_ne_nil _ _)
    have hsp : H5 sp = some (.dK (blkD order fun n => .int (gamL (keyL (fun n => if decide (n ∈ mem) = true then 1 else 0) (sgL z) δ) order n : Nat))) := hsp
    generalize gamL (keyL (fun n => if decide (n ∈ mem) = true then 1 else 0) (sgL z) δ) order = γ at first hsp
    generalize (metL (order.map (keyL (fun n => if decide (n ∈ mem) = true then 1 else 0) (sgL z) δ))).length = M at first
    clear ht
    -- the loop
    refine ⟨fun m σ H' => ∃ (bl : Addr) (γ : Nat → Nat) (M before : Nat), m = order.length + 1 - before ∧ σ = [some (.str z), some (.ref st), some (.ref ms), some (.int lim), some (.ref od), some (.ref D), some (.ref bl), some (.int before), some (.int M), none, none, none, none, none] ∧
        Ext H4 H' ∧ H' bl = some (.dK (blkD order fun n => .int (γ n : Nat))) ∧ SplitSt order mem (sgL z) δ γ M before, ⟨_, sp, γ, M, 0, rfl, rfl, x5, hsp, first⟩, ?_⟩
    clear first hsp x5 nt nsp
    clear γ M
    rintro m σ H6 ⟨bl, γ, M, before, rfl, rfl, x6, hbl, S⟩
    have S6 := S4.ext x6
    have Mo := parts_le S.parts
    have Mr : M ≤ rows.length := Nat.le_trans Mo (nodup_len FO.nd FO.lt)
    have Ml : M ≤ lim := split_few S FO.lt rlim
    refine ⟨_, rfl, _, rfl, _, _, rfl, rfl, _, rfl, ?_⟩
    refine ite2 (fun c => ?_) (fun c => ?_)
    · have c : before < M := by
        have := of_decide_eq_true c
        omega
      refine ⟨_, fun σ' H' h => ⟨order.length + 1 - M, by omega, h⟩, ?_⟩
      refine ⟨_, rfl, _, rfl, _, _, rfl, rfl, _, rfl, ?_⟩
      rw [decide_eq_false (show ¬ ((lim : Int) < (M : Int)) by omega)]
      dsimp only
      rw [if_neg Bool.false_ne_true]
      refine ⟨_, rfl, ?_⟩
      refine ⟨_, rfl, _, rfl, _, rfl, _, rfl, kb, z, st, od, bl, rows, order, _, fun n => (γ n : Nat), δ, rfl, S6.1, S6.2, x6 _ _ hod4, hbl, fun n => rfl, FO.nd, by omega, fun n hn => ⟨FO.lt n hn, ocl n hn⟩, z100, fun H7 t sp x7 nt nsp ht hsp => ?_⟩
      refine ⟨t, _, rfl, SqT.of ht, rfl, _, _, rfl, _, _, rfl, rfl, ?_⟩
      exact ⟨sp, gamL (keyN γ (sgL z) δ) order, _, M, rfl, rfl, x6.trans x7, hsp, split_next S ocl⟩
    · have c : M ≤ before := by
        have := of_decide_eq_false (Bool.not_eq_true _ ▸ c)
        omega
      have L := least_of S c eo FO.nd FO.lt ocl met fun n hn => reach_run (FO.re n hn)
      have hod6 := x6 _ _ hod4
      have x06 := x04.trans (ExtN.of x6)
      have nn6 : ∀ b, H6 b = none → H b = none := fun b e => nn2 b (x24.free (x6.free e))
      have T6 := T4.ext x6
      have d6 := x6 _ _ d4
      refine ⟨_, rfl, _, rfl, od, bl, order, γ, rfl, hod6, hbl, by omega, fun H7 p x7 np hp => ?_⟩
      have S7 := S6.ext x7
      have hbl7 := x7 _ _ hbl
      have d7 := x7 _ _ d6
      have x07 := x06.trans (ExtN.of x7)
      have nn7 : ∀ b, H7 b = none → H b = none := fun b e => nn6 b (x7.free e)
      have T7 := T6.ext x7
      clear hbl S6 hod6 x6 d6 x06 T6 x7 S4 d4 hod4 hB x04 T4
      have fsub := firL_sub γ order
      have flen := S.fst
      generalize hfs : firL γ order = firsts at hp L fsub flen
      have f100 : firsts.length ≤ 100 := by omega
      -- least
      refine ⟨_, rfl, p, rfl, ⟨_, SqL.of hp⟩, fun Ld nL => ?_⟩
      refine lc_it (walk_list (xs := firsts.map fun n => V.int (n : Nat))) (fun i H' => Ext H7 H' ∧ ∃ rs : List Addr, rs.length = i ∧ H' Ld = some (.lst (rs.map V.ref)) ∧ RowsD H' rs (sgL z) (dLst γ δ firsts) ∧ ∀ r ∈ rs, H r = none) ⟨Ext.new nL, [], rfl, upd_same, fun i r e => (by cases i <;> cases e), fun r h => (nomatch h)⟩ (fun i H' _ h => SqL.of (h.1 _ _ hp)) ?_ ?_
      · rintro i x H8 H9 hi ⟨x8, rs, lrs, hL8, hrs, hrn⟩ ⟨rfl, hx⟩
        obtain ⟨n, hn, rfl⟩ := at_map hx
        have no := fsub n (List.mem_of_getElem? hn)
        have nN := FO.lt n no
        rw [List.length_map] at hi
        have gd : firsts.getD i 0 = n := by
          rw [List.getD_eq_getElem?_getD, hn]
          rfl
        refine ⟨rfl, ?_⟩
        dsimp only [tYes]
        rw [if_pos rfl]
        refine ⟨_, rfl, z, rfl, fun R nR => ?_⟩
        refine dcW (walk_str (z := z)) (fun j H' => Ext H9 H' ∧ H' R = some (.dK (((sgL z).take j).map fun c => (keyC c, V.int (dLst γ δ firsts i c : Nat))))) ⟨Ext.new nR, upd_same⟩ (fun _ _ _ _ => trivial) ?_ ?_
        · rintro j y G1 G2 hj ⟨y1, hR⟩ ⟨rfl, c', hc, rfl⟩
          have hsg := sgL_at hc
          have cm := List.mem_of_getElem? hsg
          obtain ⟨w1, w2⟩ := S7.ext (x8.trans y1)
          obtain ⟨r, hr⟩ : ∃ r, rows[n]? = some r := ⟨_, List.getElem?_eq_getElem nN⟩
          obtain ⟨kr, hk1, hk2⟩ := w2 n r hr
          have ha : atI (rows.map V.ref) (n : Int) = some (.ref r) := atI_nat (by rw [List.getElem?_map, hr]; rfl)
          have gr : DGet G2 r (.str ⟨#[c']⟩) (some (.int (δ n ⟨#[c']⟩ : Nat))) := by
            rw [← hk2 _ cm]
            exact DGet.k (k := keyC ⟨#[c']⟩) hk1
          have gb : DGet G2 bl (.int (δ n ⟨#[c']⟩ : Nat)) (some (.int (dLst γ δ firsts i ⟨#[c']⟩ : Nat))) := by
            have := DGet.k (k := keyI (δ n ⟨#[c']⟩)) ((x8.trans y1) _ _ hbl7)
            rw [blk_val, if_pos (ocl n no _ cm)] at this
            unfold dLst
            rw [gd]
            exact this
          have nin : valV (((sgL z).take j).map fun c => (keyC c, V.int (dLst γ δ firsts i c : Nat))) (keyC ⟨#[c']⟩) = none := by
            cases e : valV (((sgL z).take j).map fun c => (keyC c, V.int (dLst γ δ firsts i c : Nat))) (keyC ⟨#[c']⟩) with
            | none => rfl
            | some v =>
              exfalso
              obtain ⟨kv, hm, hk⟩ := List.mem_map.mp (valV_in e)
              obtain ⟨c2, hm2, rfl⟩ := List.mem_map.mp hm
              have hk : keyC c2 = keyC ⟨#[c']⟩ := hk
              unfold keyC at hk
              injection hk with hk
              have h1 : ((sgL z).take (j + 1)).Nodup := ndg.sublist (List.take_sublist _ _)
              rw [take_more hsg] at h1
              exact (List.nodup_append.mp h1).2.2 c2 hm2 ⟨#[c']⟩ (by simp) hk
          refine ⟨rfl, ?_⟩
          dsimp only [tYes]
          rw [if_pos rfl]
          have fin : ∃ a v, V.ref r = V.ref a ∧ DGet G2 a (.str ⟨#[c']⟩) (some v) ∧ ∃ a' v', V.ref bl = V.ref a' ∧ DGet G2 a' v (some v') ∧ ∃ kvs k, V.str ⟨#[c']⟩ = kV k ∧ G2 R = some (.dK kvs) ∧ kvs.length < sizeLine ∧ Ext H9 (upd G2 R (.dK (putK kvs k v'))) ∧
              (upd G2 R (.dK (putK kvs k v'))) R = some (.dK (((sgL z).take (j + 1)).map fun c => (keyC c, V.int (dLst γ δ firsts i c : Nat)))) := by
            refine ⟨r, _, rfl, gr, bl, _, rfl, gb, _, keyC ⟨#[c']⟩, rfl, hR, ?_, fun a o e => ?_, ?_⟩
            · rw [List.length_map, List.length_take, sgL_len]
              exact small1000 (by omega)
            · rw [upd_ne (ne_of_none e nR)]
              exact y1 _ _ e
            · rw [upd_same, putK_new _ nin, take_more hsg, List.map_append]
              rfl
          refine ⟨_, rfl, _, rfl, _, rfl, _, rfl, ?_⟩
          rcases w1.or with q | q
          · exact .inl ⟨st, _, n, _, rfl, rfl, q, ha, _, rfl, fin⟩
          · exact .inr (.inl ⟨st, _, n, _, rfl, rfl, q, ha, _, rfl, fin⟩)
        · rintro G1 ⟨y1, hR⟩
          rw [← sgL_len, List.take_length] at hR
          have hL9 := y1 _ _ hL8
          refine ⟨_, hL9, by rw [List.length_map]; exact small1000 (by omega), fun a o e => ?_, rs ++ [R], by rw [List.length_append, lrs]; rfl, ?_, fun j r hr => ?_, fun r hr => (List.mem_append.mp hr).elim (hrn r) fun h => by rw [List.mem_singleton.mp h]; exact nn7 _ (x8.free nR)⟩
          · rw [upd_ne (ne_of_none e nL)]
            exact y1 _ _ (x8 _ _ e)
          · rw [upd_same, List.map_append]
            rfl
          · have keep : ∀ a kvs, G1 a = some (.dK kvs) → (upd G1 Ld (.lst (rs.map V.ref ++ [.ref R]))) a = some (.dK kvs) := fun a kvs h => by
              rw [upd_ne (ne_of h hL9 (by intro z; cases z))]
              exact h
            by_cases cj : j < rs.length
            · rw [List.getElem?_append_left cj] at hr
              exact keep _ _ (y1 _ _ (hrs j r hr))
            · have hlt := (List.getElem?_eq_some_iff.mp hr).1
              rw [List.length_append] at hlt
              have hlt : j < rs.length + 1 := hlt
              obtain rfl : j = rs.length := by omega
              rw [List.getElem?_append_right (Nat.le_refl _), Nat.sub_self] at hr
              obtain rfl := Option.some.inj hr
              rw [lrs]
              exact keep _ _ hR
      rintro H8 ⟨x8, rs, lrs, hL8, hrs, hrn⟩
      rw [List.length_map] at lrs
      have hp8 := x8 _ _ hp
      have d8 := x8 _ _ d7
      refine ⟨_, rfl, _, rfl, true, p, _, rfl, SqK.l hp8, fun F nF => ?_⟩
      refine lc_it (walk_enumK (xs := firsts.map fun n => V.int (n : Nat))) (fun i H' => Ext H8 H' ∧ H' F = some (.lst ((((List.range i).filter fun b => decide (firsts.getD b 0 ∈ mem)).map fun n => V.int (n : Nat))))) ⟨Ext.new nF, upd_same⟩ (fun i H' _ h => (SqK.l hp8).ext h.1) ?_ ?_
      · rintro i x H9 G1 hi ⟨x9, hF⟩ ⟨T1, x', y', rfl, nT, rfl, q1, q2⟩
        obtain rfl := Option.some.inj q1
        obtain ⟨n, hn, rfl⟩ := at_map q2
        rw [List.length_map] at hi
        have gd : firsts.getD i 0 = n := by
          rw [List.getD_eq_getElem?_getD, hn]
          rfl
        refine ⟨T1, _, rfl, SqT.of upd_same, rfl, _, _, rfl, _, _, rfl, rfl, rfl, ?_⟩
        have xT := Ext.new nT (o := .tup [V.int (i : Nat), V.int (n : Nat)])
        have hF1 := xT _ _ hF
        have d9 := xT _ _ (x9 _ _ d8)
        have x10 := x9.trans xT
        generalize upd H9 T1 (.tup [V.int (i : Nat), V.int (n : Nat)]) = G2 at xT hF1 d9 x10 ⊢
        have g : DGet G2 D (.int n) (valV kvc (keyI n)) := DGet.k (k := keyI n) d9
        refine ⟨_, rfl, _, rfl, D, _, rfl, g, ?_⟩
        have fr : (List.range (i + 1)).filter (fun b => decide (firsts.getD b 0 ∈ mem)) = (List.range i).filter (fun b => decide (firsts.getD b 0 ∈ mem)) ++ if n ∈ mem then [i] else [] := by
          rw [List.range_succ, List.filter_append]
          refine congrArg _ ?_
          by_cases cm : n ∈ mem
          · rw [if_pos cm]
            simp only [List.filter_cons, List.filter_nil, gd, decide_eq_true cm, if_true]
          · rw [if_neg cm]
            simp only [List.filter_cons, List.filter_nil, gd, decide_eq_false cm]
            rfl
        rw [k4]
        by_cases cm : n ∈ mem
        · rw [decide_eq_true cm]
          refine ⟨_, rfl, ?_⟩
          dsimp only
          rw [if_pos rfl]
          have hl : (((List.range i).filter fun b => decide (firsts.getD b 0 ∈ mem)).map fun n => V.int (n : Nat)).length < sizeLine := by
            rw [List.length_map]
            have := List.length_filter_le (fun b => decide (firsts.getD b 0 ∈ mem)) (List.range i)
            rw [List.length_range] at this
            exact small1000 (by omega)
          refine ⟨_, rfl, _, hF1, hl, fun a o e => ?_, ?_⟩
          · rw [upd_ne (ne_of_none e nF)]
            exact x10 _ _ e
          · rw [upd_same, fr, if_pos cm, List.map_append]
            rfl
        · rw [decide_eq_false cm]
          refine ⟨_, rfl, ?_⟩
          dsimp only
          rw [if_neg Bool.false_ne_true]
          refine ⟨x10, ?_⟩
          rw [fr, if_neg cm, List.append_nil]
          exact hF1
      · rintro H9 ⟨x9, hF⟩
        rw [List.length_map] at hF
        refine ⟨by show 2 ≤ sizeLine; decide, fun t nt => ?_⟩
        have xt := x9.trans (Ext.new nt (o := .tup [V.ref Ld, V.ref F]))
        have x08 := x07.trans (ExtN.of x8)
        refine kk _ t Ld F rs M (dLst γ δ firsts) (fLst mem firsts) (x08.trans (ExtN.of xt)) (fun b e => nn7 b (x8.free (xt.free e))) ((T7.ext x8).ext xt) (nn7 _ (x8.free (x9.free nt))) (nn7 _ nL) (nn7 _ (x8.free nF)) upd_same (xt _ _ hL8) (by omega) hrn (fun i r e => xt _ _ (hrs i r e)) ?_ L Ml
        exact Ext.new nt _ _ hF
end
end Sl
/-! ## P15 -/
set_option Elab.async false
set_option linter.all false
set_option maxRecDepth 100000
set_option maxHeartbeats 4000000
namespace Sl
open PySem PySem.Spec PyProof.Rows L2 TxS
def signsOf (z : Str) : List Str := z.cps.toList.map fun c => ⟨#[c]⟩
theorem small_list {n : Nat} (h : n ≤ 10000) : n < sizeLine := by
  rw [sizeLine_eq]
  omega
abbrev sLetters : Stmt := top 51
abbrev sMarks : Stmt := top 999
theorem Rng.keep {H H' : Hp} {a b : Addr} (r : Rng H a) (k : Keep b H H') (n : a ≠ b) : Rng H' a := by
  obtain ⟨x, y, h, q⟩ := r.ex
  exact ⟨x, y, k _ _ h n, q⟩
theorem Rng.ext {H H' : Hp} {a : Addr} (r : Rng H a) (k : Ext H H') : Rng H' a := by
  obtain ⟨x, y, h, q⟩ := r.ex
  exact ⟨x, y, k _ _ h, q⟩
theorem Keep.of {a : Addr} {H H' : Hp} (x : Ext H H') : Keep a H H' := fun b o e _ => x b o e
theorem Keep.free {a : Addr} {H H' : Hp} {p : Addr} {o : HO} (k : Keep a H H') (ha : H' a = some o) (n : H' p = none) : H p = none := by
  cases e : H p with
  | none => rfl
  | some u =>
    by_cases c : p = a
    · rw [c, ha] at n
      cases n
    · rw [k p u e c] at n
      cases n
theorem Rng.there {H : Hp} {a : Addr} (r : Rng H a) : ∃ o, H a = some o := by
  obtain ⟨x, y, h, q⟩ := r.ex
  exact ⟨_, h⟩
theorem Rng.lst {H : Hp} {a b : Addr} {xs : List V} (r : Rng H a) (h : H b = some (.lst xs)) (n : ∀ x y : Int, xs ≠ [.int x, .int y]) : b ≠ a := fun e => by
  obtain ⟨x, y, h2, q⟩ := r.ex
  rw [e, h2] at h
  exact n x y (by injection h with h; injection h with h; exact h.symm)
def spChoice : Sp := fun vs H Q _ => ∃ (a b : Addr) (xs : List V), vs = [.ref a, .ref b] ∧ Rng H a ∧ H b = some (.lst xs) ∧ b ≠ a ∧ 0 < xs.length ∧ xs.length ≤ 10000 ∧
  ∀ (i : Nat) (v : V) (H' : Hp), xs[i]? = some v → Rng H' a → Keep a H H' → Q v H'
def abc : Str := "abcdefghijklmnopqrstuvwxyz"
def abcL : List Str := signsOf abc
/-- different letters -/
def spLetters : Sp := fun vs H Q _ => ∃ (a : Addr) (n : Nat), vs = [.ref a, .int n] ∧ Rng H a ∧ n ≤ 26 ∧
  ∀ (H' : Hp) (L : Addr) (zs : List Str), Rng H' a → Keep a H H' → H L = none → H' L = some (.lst (zs.map V.str)) → zs.length = n → zs.Nodup → (∀ z ∈ zs, z ∈ abcL) → Q (.ref L) H'
def rLen (K : PySem.W.Frag) : List V → Hp → VK → Prop := fun xs H Q => ∃ p ys, xs = [V.ref p] ∧ (SqL K H p ys ∨ SqT K H p ys) ∧ Q (.int (ys.length : Nat)) H
theorem ix_nat {n j : Nat} (h : j < n) : ixN n (j : Int) = some j := by
  unfold ixN
  rw [if_pos (by omega), if_pos (by omega), Int.toNat_natCast]
theorem erase_map {α β : Type} (f : α → β) : ∀ (l : List α) (j : Nat), (l.map f).eraseIdx j = (l.eraseIdx j).map f
  | [], _ => rfl
  | _ :: _, 0 => rfl
  | x :: l, j + 1 => congrArg (f x :: ·) (erase_map f l j)
theorem pick_perm {α : Type} : ∀ (l : List α) (j : Nat) (h : j < l.length), (l[j] :: l.eraseIdx j).Perm l
  | [], _, h => by cases h
  | x :: l, 0, _ => List.Perm.refl _
  | x :: l, j + 1, h => (List.Perm.swap x _ _).trans ((pick_perm l j (Nat.lt_of_succ_lt_succ h)).cons x)
/-- list(a text): its signs -/
def rListStr : List V → Hp → VK → Prop := fun xs H Q => ∃ z : Str, xs = [.str z] ∧ z.length ≤ 10000 ∧ ∀ l, H l = none → Q (.ref l) (upd H l (.lst ((signsOf z).map V.str)))
theorem signs_vals {z : Str} {acc : Array Value} (h : ItemsOf (SignAt z) acc z.cps.size) : Vals ((signsOf z).map V.str) acc.toList := by
  have key : ∀ (cs : List Nat) (vs : List Value), vs.length = cs.length → (∀ (j : Nat) (v : Value), vs[j]? = some v → ∃ c u, cs[j]? = some c ∧ v = Value.str ⟨#[c]⟩ u) → Vals (cs.map fun c => V.str ⟨#[c]⟩) vs := by
    intro cs
    induction cs with
    | nil =>
      intro vs e _
      rw [List.eq_nil_of_length_eq_zero e]
      exact .nil
    | cons c cs ih =>
      intro vs e q
      cases vs with
      | nil => cases e
      | cons v vs =>
        obtain ⟨c', u, e1, e2⟩ := q 0 v rfl
        cases e1
        exact .cons ⟨u, e2⟩ (ih vs (by simpa using e) fun j v' hj => q (j + 1) v' hj)
  have k := key z.cps.toList acc.toList (by rw [Array.length_toList, Array.length_toList]; exact h.1) fun j v hj => by
    obtain ⟨c, u, e1, e2⟩ := h.2 j v (by rw [← Array.getElem?_toList]; exact hj)
    exact ⟨c, u, by rw [Array.getElem?_toList]; exact e1, e2⟩
  unfold signsOf
  rw [List.map_map]
  exact k
theorem cr_listStr {X : Cx} (hc : X.calm = true) : CallR X (.type "list") rListStr := by
  intro pins s σ H xs us Q I r h
  obtain ⟨z, rfl, hz, q⟩ := h
  obtain ⟨u, rfl, t, rfl⟩ := vals1 r
  have hz' : z.cps.size ≤ sizeLine := small_size hz
  refine PySem.call_list_str (I.ok.hd hc) z t (fun h' tk acc' c' k ho hi => ?_) hz'
  have hv := signs_vals hi
  have hl : ((signsOf z).map V.str).length ≤ sizeLine := by
    rw [Paired.length hv, Array.length_toList, hi.1]
    exact hz'
  exact ⟨.ref s.heap.objs.size, upd H s.heap.objs.size (.lst ((signsOf z).map V.str)), I.laid (t' := tk) k (Nat.le_refl _) ⟨hl, acc'.toList, c', hv, ho⟩, rfl, q _ (I.hok.fresh (Nat.le_refl _))⟩
section
variable {P : Program} {w : World} {K : PySem.W.Frag} {mg : Str → Option Value} {base : Heap}
theorem scChoice : FnScope ["_law_rng_here", "_law_some"] ["_law_rng_here", "_law_some"] (defScope sChoice) := ⟨rfl, rfl, rfl, by decide +kernel, rfl, by decide +kernel, by decide +kernel⟩
theorem ok_choice {f fD : Addr} {fd fdD : FuncData} (F : Fun K "_law_choice" "_law_choice" sChoice f fd) (aD : At K mg "_law_draw" fD fdD ["_law_rng_here", "_law_many"] []) (gD : FnOk P w K mg base CX0 1 fD fdD ["_law_rng_here", "_law_many"] spDraw) (zn : mg "len" = none) :
    FnOk P w K mg base CX0 2 f fd ["_law_rng_here", "_law_some"] spChoice := by
  refine F.ok scChoice (fun vs H Q E h => ?_) (fun cdv A0 outer s H vs Q E hr h => ?_)
  · obtain ⟨a, b, xs, rfl, _⟩ := h
    rfl
  · obtain ⟨a, b, xs, rfl, hR, hb, nab, h0, hl, k⟩ := h
    refine ⟨_, pss_one (ps_ret (pe_ix ix_list (pv 1) (pe_call gD hr (by rfl) aD.g aD.kp aD.b .nil pass0 (pa_cons (pv 0) (pa_cons (pe_callB call_len_seq (by rfl) zn PySem.boot_len (pa_cons (pv 1) pa_nil)) pa_nil))) (fun _ _ => rfl))), ?_⟩
    refine ⟨_, rfl, _, rfl, _, rfl, b, xs, rfl, .inl (SqL.of hb), a, _, rfl, hR, by omega, by omega, fun d H' d0 dn r' k' => ?_⟩
    obtain ⟨j, rfl⟩ : ∃ j : Nat, d = (j : Int) := ⟨d.toNat, by omega⟩
    have hj : j < xs.length := by omega
    exact ⟨b, xs, _, xs[j], rfl, rfl, SqL.of (k' _ _ hb nab), atI_nat (List.getElem?_eq_getElem hj), k j _ H' (List.getElem?_eq_getElem hj) r' k'⟩
theorem scLetters : FnScope ["_law_rng_here", "_law_many", "_law_left", "_law_k"] ["_law_rng_here", "_law_many"] (defScope sLetters) := ⟨rfl, rfl, rfl, by decide +kernel, rfl, by decide +kernel, by decide +kernel⟩
theorem ok_letters {f fD : Addr} {fd fdD : FuncData} (F : Fun K "_law_letters" "_law_letters" sLetters f fd) (aD : At K mg "_law_draw" fD fdD ["_law_rng_here", "_law_many"] []) (gD : FnOk P w K mg base CX0 1 fD fdD ["_law_rng_here", "_law_many"] spDraw) (zn : mg "len" = none) (zl : mg "list" = none) (zr : mg "range" = none) :
    FnOk P w K mg base CX0 2 f fd ["_law_rng_here", "_law_many"] spLetters := by
  refine F.ok scLetters (fun vs H Q E h => ?_) (fun cdv A0 outer s H vs Q E hr h => ?_)
  · obtain ⟨a, n, rfl, _⟩ := h
    rfl
  · obtain ⟨a, n, rfl, hR, hn, k⟩ := h
    refine ⟨_, pss_cons (ps_set (i := 2) scLetters.nd rfl (.inr rfl) (pe_callTy (cr_listStr rfl) (by rfl) zl (by decide +kernel) (pa_cons pe_str pa_nil)))
      (pss_one (ps_ret (pe_lc (own := [("_law_k", 3)]) (g := gName 3) (tt := tYes) (te := tBM K "list" rPopAt (tVar 2) (tCons (tCall spDraw [] (fun _ _ _ => False) (tCons (tVar 0) (tCons (tCB (rLen K) (tCons (tVar 2) tNil)) tNil))) tNil)) rfl scLetters.nd (pi_range1 rfl zr (pa_cons (pv 1) pa_nil)) (blkOk_by (N := ["_law_rng_here", "_law_many", "_law_left", "_law_k"]) (sc := defScope sLetters) (by decide +kernel))
          (fun _ _ _ _ _ => pg_name (i := 3) scLetters.nd rfl (Or.inl rfl)) (fun _ _ _ _ _ => pts_nil)
          (fun _ _ _ _ _ => by exact pe_bm PySem.F.plainAttrs_list PySem.F.slot_list_pop PySem.F.type_list_pop mt_popAt (pv 2) (pa_cons (pe_call gD hr (by rfl) aD.g aD.kp aD.b .nil pass0 (pa_cons (pv 0) (pa_cons (pe_callB call_len_seq (by rfl) zn PySem.boot_len (pa_cons (pv 2) pa_nil)) pa_nil))) pa_nil))))), ?_⟩
    have e26 : abcL.length = 26 := by decide +kernel
    have nd26 : abcL.Nodup := by decide +kernel
    refine ⟨abc, rfl, by decide, fun Lf nLf => ?_⟩
    have aLf : Lf ≠ a := fun e => by
      obtain ⟨o, h⟩ := hR.there
      rw [e, h] at nLf
      cases nLf
    refine ⟨_, rfl, n, rfl, by omega, by omega, fun D nD => ?_⟩
    have nLD : Lf ≠ D := ne_of_none upd_same nD
    have nD0 : H D = none := (Ext.new nLf).free nD
    have aD' : D ≠ a := fun e => by
      obtain ⟨o, h⟩ := hR.there
      rw [e, h] at nD0
      cases nD0
    refine lc_range (n := n) (fun i H' => ∃ left picked : List Str, H' Lf = some (.lst (left.map V.str)) ∧ H' D = some (.lst (picked.map V.str)) ∧ (picked ++ left).Perm abcL ∧ picked.length = i ∧ Rng H' a ∧ Keep a H H') ⟨abcL, [], by rw [upd_ne nLD]; exact upd_same, upd_same, List.Perm.refl _, rfl, hR.ext ((Ext.new nLf).trans (Ext.new nD)), Keep.of ((Ext.new nLf).trans (Ext.new nD))⟩ ?_ ?_
    · rintro i H1 hi ⟨left, picked, l1, l2, pm, lp, r1, k1⟩
      have ll : picked.length + left.length = 26 := by rw [← List.length_append, pm.length_eq, e26]
      refine ⟨rfl, _, rfl, .inl ⟨rfl, _, SqL.of l1⟩, _, rfl, _, rfl, Lf, _, rfl, .inl (SqL.of l1), a, _, rfl, r1, by rw [List.length_map]; omega, by rw [List.length_map]; omega, fun d H2 d0 dn r2 k2 => ?_⟩
      rw [List.length_map] at dn
      obtain ⟨j, rfl⟩ : ∃ j : Nat, d = (j : Int) := ⟨d.toNat, by omega⟩
      have hj : j < left.length := by omega
      have l1' := k2 _ _ l1 aLf
      refine ⟨Lf, _, _, j, .str left[j], rfl, rfl, l1', by omega, by omega, (ixN_seq (ix_nat (by rw [List.length_map]; exact hj))).1, by rw [List.getElem?_map, List.getElem?_eq_getElem hj]; rfl, ?_⟩
      have l2' : (upd H2 Lf (.lst ((left.map V.str).eraseIdx j))) D = some (.lst (picked.map V.str)) := by
        rw [upd_ne nLD.symm]
        exact k2 _ _ l2 aD'
      refine ⟨_, l2', by rw [List.length_map]; exact small_list (by omega), left.eraseIdx j, picked ++ [left[j]], ?_, ?_, ?_, ?_, ?_, ?_⟩
      · rw [upd_ne nLD, upd_same, erase_map]
      · rw [upd_same, List.map_append]
        rfl
      · refine List.Perm.trans ?_ pm
        rw [List.append_assoc]
        exact List.Perm.append_left _ (pick_perm left j hj)
      · rw [List.length_append, lp]
        rfl
      · obtain ⟨x, y, h, q⟩ := r2.ex
        exact ⟨x, y, by rw [upd_ne aD'.symm, upd_ne aLf.symm]; exact h, q⟩
      · intro b o e nb
        rw [upd_ne (ne_of_none e nD0), upd_ne (ne_of_none e nLf)]
        exact k2 _ _ (k1 b o e nb) nb
    · rintro H' ⟨left, picked, l1, l2, pm, lp, r1, k1⟩
      have ndp := (List.nodup_append.mp (pm.nodup_iff.mpr nd26)).1
      exact k H' D picked r1 k1 nD0 l2 lp ndp fun z hz => pm.mem_iff.mp (List.mem_append_left _ hz)
end
end Sl
/-! ## B4 -/
set_option Elab.async false
set_option linter.all false
set_option maxRecDepth 100000
set_option maxHeartbeats 4000000
/-! sorted of a tuple of ints; has_length and are_states of a list or a tuple -/
namespace PyProof.Rows
open PySem PySem.W PySem.Calls
section
variable {prog : Program} {w : World} {A : Around} {E : Value → Shared → Prop} {s : Shared}
theorem collect_tupK {a : Addr} {us : List Value} {Q : List Value → Shared → Prop} (ht : s.heap.IsTuple a us.toArray)
    (h : Q us { s with heap := (s.heap.push (seqObj "list" #[] 0)).update s.heap.objs.size (Obj.mapSeq (· ++ us.toArray)) }) (z : us.length ≤ sizeLine) : wpAny (model prog w) A (collect (.ref a)) Q E s := by
  obtain ⟨o, ho, hc, n, hd⟩ := id ht
  unfold collect
  refine wpAny_bind (wpAny_runValue (codeAny_builtin entry_proto_collect' ?_))
  show wpAny _ _ (do again (.builtin "list.__iadd__" ⟨[← newList [], .ref a], []⟩)) _ _ s
  refine wpAny_bind (wpAny_newList (wpAny_pure ⟨Code.quiet_builtin _ (by decide +kernel), codeAny_builtin entry_list_iadd' ?_⟩))
  show wpAny _ _ (Builtin.List.listExtendWith (.ref s.heap.objs.size) (.ref a) (.ref s.heap.objs.size)) _ _ { s with heap := s.heap.push (seqObj "list" #[] 0) }
  unfold Builtin.List.listExtendWith
  have ho1 : (s.heap.push (seqObj "list" #[] 0)).get? a = some o := Heap.get?_push_of_some _ ho
  refine wpAny_bind (wpAny_typeOf (T := "tuple") ⟨o, ho1, hc⟩ ?_)
  rw [if_pos (by rw [show (Value.type "tuple" == Value.type "tuple") = true by rfl]; simp)]
  refine wpAny_bind (listItems_at ho1 hd (wpAny_bind (listItems_at (xs := #[]) (n := 0) (Heap.get?_push_size _ rfl) rfl ?_)))
  rw [if_neg (by simp)]
  refine wpAny_bind (listUpdate_at (xs := #[]) (n := 0) (Heap.get?_push_size _ rfl) rfl ?_ (Nat.zero_le _) (by show (#[] ++ us.toArray).size ≤ sizeLine + 1; simp only [Array.size_append, List.size_toArray, List.length_nil]; omega))
  refine wpAny_pure ?_
  show wpAny (model prog w) A (do
      let o ← load s.heap.objs.size
      match o.data with
      | .seq xs _ => pure xs.toList
      | _ => unsupported "internal:collect") Q E { s with heap := (s.heap.push (seqObj "list" #[] 0)).update s.heap.objs.size (Obj.mapSeq (· ++ us.toArray)) }
  refine wpAny_bind (wpAny_load (get?_update_seq (Heap.get?_push_size _ rfl) _) ?_)
  show wpAny _ _ (pure ((#[] : Array Value) ++ us.toArray).toList) Q E _
  rw [show ((#[] : Array Value) ++ us.toArray).toList = us by simp]
  exact wpAny_pure h
theorem sorted_tupK {a : Addr} {us : List Value} {ns : List Int} {Q : Value → Shared → Prop} (ht : s.heap.IsTuple a us.toArray) (hI : IntsAre us ns) (h64 : us.length < 64)
    (h : ∀ (out : Array Value) (ms : List Int), IntsAre out.toList ms → ms.Perm ns → ms.Pairwise (· ≤ ·) → Q (.ref (s.heap.objs.size + 1)) { s with heap := sortedAll s.heap us out }) :
    wpAny (model prog w) A (call (.builtin "sorted") [.ref a]) Q E s := by
  refine Calls.call_function_entry kind_sorted plain_sorted entry_sorted (args_sorted1 _) ?_
  unfold Builtin.«sorted»
  refine wpAny_bind (m := checkCount "sorted" 1 1 _) (wpAny_pure (wpAny_bind (collect_tupK ht (wpAny_bind (wpAny_newList ?_)) (by rw [sizeLine_eq]; omega))))
  have z : ((s.heap.push (seqObj "list" #[] 0)).update s.heap.objs.size (Obj.mapSeq (· ++ us.toArray))).objs.size = s.heap.objs.size + 1 := by rw [Heap.size_update, size_push']
  have at_ : (((s.heap.push (seqObj "list" #[] 0)).update s.heap.objs.size (Obj.mapSeq (· ++ us.toArray))).push (seqObj "list" us.toArray 0)).get? (s.heap.objs.size + 1) = some (seqObj "list" us.toArray 0) := by
    rw [← z]
    exact Heap.get?_push_size _ rfl
  show wpAny _ _ _ _ _ { s with heap := ((s.heap.push (seqObj "list" #[] 0)).update s.heap.objs.size (Obj.mapSeq (· ++ us.toArray))).push (seqObj "list" us.toArray 0) }
  rw [z]
  exact wpAny_bind (wpAny_holding (wpAny_call_entry slot_list_sort ⟨_, at_, rfl⟩ entry_list_sort (list_sort_tree at_ hI h64 fun out ms a1 a2 a3 => ⟨_, rfl, wpAny_pure ⟨_, rfl, h out ms a1 a2 a3⟩⟩) (args_list_sort _)))
end
end PyProof.Rows
namespace Sl
open PySem PySem.Spec PyProof.Rows L2
def rSortedK (K : PySem.W.Frag) : List V → Hp → VK → Prop := fun vs H Q => ∃ (k : Bool) (a : Addr) (ns : List Int), vs = [V.ref a] ∧ SqK K k H a (ns.map V.int) ∧ ns.length < 64 ∧
  ∀ (ms : List Int) (p : Addr), ms.Perm ns → ms.Pairwise (· ≤ ·) → H p = none → Q (.ref p) (upd H p (.lst (ms.map V.int)))
theorem cr_sortedK {X : Cx} : CallR X (.builtin "sorted") (rSortedK X.K) := by
  intro pins s σ H vs us Q I r h
  obtain ⟨k, a, ns, rfl, hs, h64, q⟩ := h
  cases k with
  | true => exact cr_sorted pins s σ H _ us Q I r ⟨a, ns, rfl, hs, h64, q⟩
  | false =>
    obtain ⟨its, rv, tp, _⟩ := I.tuple hs
    rw [Vals.ref1 r]
    have hi := rv.ints
    refine sorted_tupK (show s.heap.IsTuple a its.toArray from tp) hi (by rw [hi.length]; exact h64) fun out ms h1 h2 h3 => ?_
    obtain ⟨ep, e⟩ := sortedAll_at s.heap its out
    exact ⟨.ref _, upd H (s.heap.objs.size + 1) (.lst (ms.map V.int)), I.laid (t' := s.toks) (fun _ _ => sortedAll_old) (Nat.le_succ _) ⟨by rw [List.length_map, h2.length_eq]; exact small64 h64, out.toList, ep, vals_of_ints h1, e⟩, rfl, q ms _ h2 h3 (I.hok.fresh (Nat.le_succ _))⟩
def spHasLenK (K : PySem.W.Frag) : Sp := fun vs H Q _ => ∃ (k : Bool) (a : Addr) (xs : List V) (m n : Int), vs = [.ref a, .int m, .int n] ∧ SqK K k H a xs ∧ ∀ H', Ext H H' → Q (.bl (decide (m ≤ xs.length) && decide ((xs.length : Int) ≤ n))) H'
def spAreStatesK (K : PySem.W.Frag) : Sp := fun vs H Q _ => ∃ (k : Bool) (a : Addr) (ns : List Int) (n : Int), vs = [.ref a, .int n] ∧ SqK K k H a (ns.map V.int) ∧ ns.length < 64 ∧ ns.Nodup ∧ (∀ i ∈ ns, 0 ≤ i ∧ i < n) ∧ ∀ H', Ext H H' → Q (.bl true) H'
section
variable {P : Program} {w : World} {K : PySem.W.Frag} {mg : Str → Option Value} {base : Heap}
theorem ok_haslenK {f : Addr} {fd : FuncData} (F : Fun K "has_length" "has_length" sHasLen f fd) (zz : mg "isinstance" = none) (zl : mg "list" = none) (zt : mg "tuple" = none) (zn : mg "len" = none) :
    FnOk P w K mg base CX0 1 f fd ["value", "least", "most"] (spHasLenK K) := by
  refine F.ok scHasLen (fun vs H Q E h => ?_) (fun cdv A outer s H vs Q E hr h => ?_)
  · obtain ⟨k, a, xs, m, n, rfl, _⟩ := h
    rfl
  · obtain ⟨k, a, xs, m, n, rfl, ha, q⟩ := h
    refine ⟨_, pss_one (ps_ret (pe_and (pe_callB call_isiT (by rfl) zz (by decide +kernel) (pa_cons (pv 0) (pa_cons (pe_tup (pa_cons (pe_bltn (by rfl) zl (by decide +kernel) (rel_ty "list")) (pa_cons (pe_bltn (by rfl) zt (by decide +kernel) (rel_ty "tuple")) pa_nil))) pa_nil)))
      (pe_one (pe_chain op_le op_le (pv 1) (pe_callB call_len_seq (by rfl) zn PySem.boot_len (pa_cons (pv 0) pa_nil)) (pv 2))))), ?_⟩
    refine ⟨_, rfl, (by show 2 ≤ sizeLine; decide), fun p hp => ?_⟩
    have x1 : Ext H (upd H p (.tup [.ty "list", .ty "tuple"])) := Ext.new hp
    have hs := ha.ext x1
    refine ⟨_, p, _, _, _, true, rfl, upd_same, .cons (.ty _) (.cons (.ty _) .nil), hs.kind, seq_any k, true, rfl, _, rfl, _, rfl, _, _, rfl, hs.or, _, _, rfl, rfl, _, rfl, ?_⟩
    have q' := q _ x1
    by_cases c : m ≤ xs.length
    · simp only [c, decide_true, Bool.true_and, if_true] at q' ⊢
      exact ⟨_, rfl, _, _, rfl, rfl, q'⟩
    · simp only [c, decide_false, Bool.false_and, Bool.false_eq_true, if_false] at q' ⊢
      exact q'
theorem ok_arestatesK {f fB : Addr} {fd fdB : FuncData} (F : Fun K "are_states" "are_states" sAreStates f fd) (aB : At K mg "is_below" fB fdB ["value", "limit"] []) (gB : FnOk P w K mg base CX0 2 fB fdB ["value", "limit"] (spBelow K))
    (zz : mg "isinstance" = none) (zl : mg "list" = none) (zt : mg "tuple" = none) (zn : mg "len" = none) (za : mg "all" = none) (zs : mg "set" = none) :
    FnOk P w K mg base CX0 3 f fd ["value", "many"] (spAreStatesK K) := by
  refine F.ok scAreStates (fun vs H Q E h => ?_) (fun cdv A outer s H vs Q E hr h => ?_)
  · obtain ⟨k, a, ns, n, rfl, _⟩ := h
    rfl
  · obtain ⟨k, a, ns, n, rfl, ha, hl, nd, hns, q⟩ := h
    refine ⟨_, pss_cons (ps_if (pt_not (pt_val (pe_callB call_isiT (by rfl) zz (by decide +kernel) (pa_cons (pv 0) (pa_cons (pe_tup (pa_cons (pe_bltn (by rfl) zl (by decide +kernel) (rel_ty "list")) (pa_cons (pe_bltn (by rfl) zt (by decide +kernel) (rel_ty "tuple")) pa_nil))) pa_nil))))) (pss_one (ps_ret pe_bl)) pss_nil)
      (pss_cons (ps_if (pt_not (pt_val (pe_callB (cr_all rfl) (by rfl) za (by decide +kernel) (pa_cons (pe_lc (own := [("state", 2)]) (g := gName 2) (tt := tYes) rfl scAreStates.nd (pi_seq (pv 0)) (blkOk_by (N := ["value", "many", "state"]) (sc := defScope sAreStates) (by decide +kernel))
          (fun _ _ _ _ _ => pg_name (i := 2) scAreStates.nd rfl (Or.inl rfl)) (fun _ _ _ _ _ => pts_nil) (fun _ _ _ _ _ => pe_call gB hr (by rfl) aB.g aB.kp aB.b .nil pass0 (pa_cons (pv 2) (pa_cons (pv 1) pa_nil)))) pa_nil)))) (pss_one (ps_ret pe_bl)) pss_nil)
      (pss_one (ps_ret (pe_cmpR op_eq (pe_lenSeqI (by rfl) zn (by rfl) zs (pv 0)) (pe_callB call_len_seq (by rfl) zn PySem.boot_len (pa_cons (pv 0) pa_nil)) (nomark _))))), ?_⟩
    refine ⟨_, rfl, (by show 2 ≤ sizeLine; decide), fun p hp => ?_⟩
    have x1 : Ext H (upd H p (.tup [.ty "list", .ty "tuple"])) := Ext.new hp
    refine ⟨_, p, _, _, _, true, rfl, upd_same, .cons (.ty _) (.cons (.ty _) .nil), (ha.ext x1).kind, seq_any k, true, rfl, iteF ?_⟩
    generalize upd H p (.tup [.ty "list", .ty "tuple"]) = H1 at x1
    refine ⟨_, rfl, k, a, rfl, ⟨_, ha.ext x1⟩, fun D hD => ?_⟩
    refine lc_it (walk_seq (xs := ns.map V.int)) (fun i H' => Ext H H' ∧ H' D = some (.lst ((List.replicate i true).map V.bl))) ⟨x1.trans (Ext.new hD), upd_same⟩ (fun i H' _ h => ha.ext h.1) ?_ ?_
    · rintro i x H2 H' hi ⟨h1, h2⟩ ⟨rfl, hx⟩
      obtain ⟨z, hz, rfl⟩ := at_map hx
      have hil : i < ns.length := (List.getElem?_eq_some_iff.mp hz).1
      have hb := hns z (List.mem_of_getElem? hz)
      refine ⟨rfl, _, rfl, _, rfl, .int z, n, rfl, .inl ⟨z, rfl⟩, ?_⟩
      rw [show below (.int z) n = true by unfold below; simp [hb.1, hb.2]]
      refine ⟨_, h2, by rw [List.length_map, List.length_replicate]; exact small1000 (by omega), fun b o e => by rw [upd_ne (ne_of_none (x1 _ _ e) hD)]; exact h1 b o e, ?_⟩
      rw [upd_same, List.replicate_succ', List.map_append]
      rfl
    · rintro H' ⟨h1, h2⟩
      refine ⟨D, List.replicate (ns.map V.int).length true, rfl, SqL.of h2, true, by simp, iteF ?_⟩
      refine ⟨_, rfl, k, a, ns, rfl, ha.ext h1, nd, (by omega), _, rfl, a, _, rfl, (ha.ext h1).or, ?_⟩
      have e : decide (V.int (ns.length : Nat) = V.int ((ns.map V.int).length : Nat)) = true := by
        rw [List.length_map]
        simp
      have q' := q _ h1
      rw [← e] at q'
      exact ⟨rfl, q'⟩
end
end Sl
/-! ## V14 -/
set_option Elab.async false
set_option linter.all false
set_option maxRecDepth 100000
set_option maxHeartbeats 4000000
set_option pp.maxSteps 1500
set_option pp.deepTerms false
/-! the signs of a language, its words, its rows -/
namespace Sl
open PySem PySem.Spec PyProof.Rows L2 TxS
abbrev sLangSg : Stmt := top 33
abbrev sWordOf : Stmt := top 34
abbrev sChkSg : Stmt := top 35
abbrev sLangSt : Stmt := top 36
theorem signsOf_sgL (z : Str) : signsOf z = sgL z := rfl
/-- set(text) -/
def rSetStr (P : Program) (w : World) : List V → Hp → VK → Prop := fun vs H Q => ∃ z : Str, vs = [V.str z] ∧ z.length ≤ 100 ∧ ∀ p, H p = none → Q (.ref p) (upd H p (SetSO P w p (addAll [] (sgL z))))
theorem cr_setStr {X : Cx} (hc : X.calm = true) : CallR X (.type "set") (rSetStr X.prog X.w) := by
  intro pins s σ H vs us Q I r h
  obtain ⟨z, rfl, room, q⟩ := h
  obtain ⟨u, rfl, t, rfl⟩ := vals1 r
  refine call_set_strTx (I.ok.hd hc) (by rw [sgL_len]; have : z.cps.size ≤ 100 := room; exact Nat.lt_of_le_of_lt (Nat.succ_le_succ this) (by decide)) fun h' tk got old => ?_
  have nS : H s.heap.objs.size = none := I.hok.fresh (Nat.le_refl _)
  exact ⟨.ref _, _, I.laid (a := s.heap.objs.size) (t' := tk) old (Nat.le_refl _) (setSO_new got), rfl, q _ nS⟩
/-- signs that a language may have -/
structure SgOk (z : Str) : Prop where
  word : isWordS z = true
  pos : 1 ≤ z.length
  le : z.length ≤ 4
  asc : sortedS (sgL z) = true
  nd : (sgL z).Nodup
def spSgOk : Sp := fun vs H Q _ => ∃ z : Str, vs = [.str z] ∧ SgOk z ∧ ∀ H', Ext H H' → Q (.bl true) H'
def spChkSg : Sp := fun vs H Q _ => ∃ z : Str, vs = [.str z] ∧ SgOk z ∧ ∀ H', Ext H H' → Q .non H'
/-- whether it is a word of the signs -/
def wordOf (z y : Str) : Bool := isWordS y && y.cps.toList.all fun c => decide (c ∈ z.cps.toList)
def spWordOf (K : PySem.W.Frag) : Sp := fun vs H Q _ => ∃ (x : V) (z : Str), vs = [x, .str z] ∧ ((∃ y : Str, x = .str y ∧ y.length ≤ 1000 ∧ ∀ H', Ext H H' → Q (.bl (wordOf z y)) H') ∨ (∃ k : Kd, Is K H x k ∧ k ≠ .str ∧ Q (.bl false) H))
def spLangSt : Sp := fun vs H Q _ => ∃ (d : Addr) (z : Str) (n : Nat) (kvs : List (Key × V)) (δ : Str → Nat), vs = [.ref d, .str z, .int n] ∧ H d = some (.dK kvs) ∧ kvs.length = (sgL z).length ∧ (sgL z).length ≤ 100 ∧ (∀ c ∈ sgL z, valV kvs (keyC c) = some (.int (δ c : Nat)) ∧ δ c < n) ∧ ∀ H', Ext H H' → Q (.bl true) H'
theorem eq_list {K : PySem.W.Frag} {H : Hp} {a b : Addr} {xs : List V} (ha : H a = some (.lst xs)) (hb : H b = some (.lst xs)) (hf : ∀ x ∈ xs, flatB x = true) : ∃ n, n ≤ 60 ∧ EqR K H (EqV K H n) (.ref a) (.ref b) := by
  refine ⟨1, by decide, .inl ⟨a, b, xs, xs, rfl, rfl, SqL.of ha, SqL.of hb, ?_⟩⟩
  have : ∀ l : List V, (∀ x ∈ l, flatB x = true) → Paired (EqV K H 1) l l := fun l => by
    induction l with
    | nil => exact fun _ => .nil
    | cons x l ih => exact fun h => .cons (.inl ⟨rfl, h x List.mem_cons_self⟩) (ih fun y hy => h y (List.mem_cons_of_mem _ hy))
  exact this xs hf
theorem perm_nodup {α : Type} [DecidableEq α] {l m : List α} (hl : l.Nodup) (hm : m.Nodup) (h : ∀ c, c ∈ l ↔ c ∈ m) : l.Perm m := (List.perm_ext_iff_of_nodup hl hm).mpr h
section
variable {P : Program} {w : World} {K : PySem.W.Frag} {mg : Str → Option Value} {base : Heap}
theorem scLangSg : FnScope ["value"] ["value"] (defScope sLangSg) := ⟨rfl, rfl, rfl, by decide +kernel, rfl, by decide +kernel, by decide +kernel⟩
theorem ok_langsg {f fW : Addr} {fd fdW : FuncData} {t4 : Tok} (F : Fun K "are_language_signs" "are_language_signs" sLangSg f fd) (aW : At K mg "is_word" fW fdW ["value"] []) (gW : FnOk P w K mg base CX0 1 fW fdW ["value"] (spIsWord K)) (zn : mg "len" = none) (zm : mg "MAX_SIGNS" = some (.int 4 t4))
    (zl : mg "list" = none) (zs : mg "set" = none) (zo : mg "sorted" = none) : FnOk P w K mg base CX0 2 f fd ["value"] spSgOk := by
  refine F.ok scLangSg (fun vs H Q E h => ?_) (fun cdv A outer s H vs Q E hr h => ?_)
  · obtain ⟨z, rfl, _⟩ := h
    rfl
  · obtain ⟨z, rfl, hz, q⟩ := h
    have hu64 : (A.deeper (envOfC "are_language_signs" (defScope sLangSg) s.heap.objs.size f cdv)).units + 64 < cLine := by
      have := hr.un
      omega
    refine ⟨_, pss_cons (ps_if (PW.pt (pw_or (pt_not (pt_val (pe_call gW hr (by rfl) aW.g aW.kp aW.b .nil pass0 (pa_cons (pv 0) pa_nil)))) (pw_or1 (pt_not (pt_chain op_le op_le pe_int (pe_callB call_len_str (by rfl) zn PySem.boot_len (pa_cons (pv 0) pa_nil)) (pe_glob (v := .int 4) rfl zm ⟨_, rfl⟩)))))) pss_dead pss_nil)
      (pss_one (ps_ret (pe_cmpR (op_eqV hu64) (pe_callTy (cr_listStr rfl) (by rfl) zl (by decide +kernel) (pa_cons (pv 0) pa_nil)) (pe_callB (cr_sortedTx rfl) (by rfl) zo (by decide +kernel) (pa_cons (pe_callTy (cr_setStr rfl) (by rfl) zs (by decide +kernel) (pa_cons (pv 0) pa_nil)) pa_nil)) (nomark _)))), ?_⟩
    have hz4 := hz.le
    have hz1 := hz.pos
    refine ⟨_, rfl, _, rfl, .inl ⟨z, rfl, by omega, fun H1 x1 => ?_⟩⟩
    have x1 : Ext H H1 := x1
    rw [hz.word]
    refine ⟨_, rfl, ?_⟩
    refine iteF ?_
    refine ⟨_, rfl, z, rfl, small_size (by omega), _, _, rfl, rfl, _, rfl, ?_⟩
    rw [if_pos (decide_eq_true (by omega))]
    refine ⟨_, _, rfl, rfl, _, rfl, ?_⟩
    rw [decide_eq_true (show ((z.length : Nat) : Int) ≤ 4 by omega)]
    refine iteF ?_
    have ln : (addAll [] (sgL z)).length = (sgL z).length := (perm_nodup (addAll_nodup _ _ List.nodup_nil) hz.nd fun c => by rw [addAll_mem]; simp).length_eq
    have l4 : (sgL z).length ≤ 4 := by
      rw [sgL_len]
      exact hz4
    refine ⟨_, rfl, z, rfl, by omega, fun l nl => ⟨_, rfl, z, rfl, by omega, fun p np => ⟨p, addAll [] (sgL z), rfl, upd_same, by omega, fun ys r pm hs nr => ?_⟩⟩⟩
    have ey : ys = sgL z := sorted_unique hs hz.asc (pm.trans (perm_nodup (addAll_nodup _ _ List.nodup_nil) hz.nd fun c => by rw [addAll_mem]; simp))
    subst ey
    have xl := Ext.new nl (o := .lst ((signsOf z).map V.str))
    have xp := xl.trans (Ext.new np (o := SetSO P w p (addAll [] (sgL z))))
    have hl := Ext.new nr (o := .lst ((sgL z).map V.str)) _ _ (Ext.new np (o := SetSO P w p (addAll [] (sgL z))) _ _ (upd_same (H := H1) (a := l) (o := .lst ((signsOf z).map V.str))))
    obtain ⟨n, n60, he⟩ := eq_list (K := K) hl upd_same fun x hx => by
      obtain ⟨c, _, rfl⟩ := List.mem_map.mp hx
      rfl
    exact ⟨n, n60, he, q _ ((x1.trans xp).trans (Ext.new nr))⟩
theorem scChkSg : FnScope ["value"] ["value"] (defScope sChkSg) := ⟨rfl, rfl, rfl, by decide +kernel, rfl, by decide +kernel, by decide +kernel⟩
theorem ok_chksg {f fA : Addr} {fd fdA : FuncData} (F : Fun K "_check_signs" "_check_signs" sChkSg f fd) (aA : At K mg "are_language_signs" fA fdA ["value"] []) (gA : FnOk P w K mg base CX0 2 fA fdA ["value"] spSgOk) : FnOk P w K mg base CX0 3 f fd ["value"] spChkSg := by
  refine F.ok scChkSg (fun vs H Q E h => ?_) (fun cdv A outer s H vs Q E hr h => ?_)
  · obtain ⟨z, rfl, _⟩ := h
    rfl
  · obtain ⟨z, rfl, hz, q⟩ := h
    refine ⟨_, pss_one (ps_if (pt_not (pt_val (pe_call gA hr (by rfl) aA.g aA.kp aA.b .nil pass0 (pa_cons (pv 0) pa_nil)))) pss_dead pss_nil), ?_⟩
    refine ⟨_, rfl, z, rfl, hz, fun H1 x1 => ⟨_, rfl, ?_⟩⟩
    refine iteF ?_
    exact q _ x1
theorem scWordOf : FnScope ["value", "signs", "sign"] ["value", "signs"] (defScope sWordOf) := ⟨rfl, rfl, rfl, by decide +kernel, rfl, by decide +kernel, by decide +kernel⟩
theorem ok_wordof {f fW : Addr} {fd fdW : FuncData} (F : Fun K "is_word_of" "is_word_of" sWordOf f fd) (aW : At K mg "is_word" fW fdW ["value"] []) (gW : FnOk P w K mg base CX0 1 fW fdW ["value"] (spIsWord K)) (za : mg "all" = none) : FnOk P w K mg base CX0 2 f fd ["value", "signs"] (spWordOf K) := by
  refine F.ok scWordOf (fun vs H Q E h => ?_) (fun cdv A outer s H vs Q E hr h => ?_)
  · obtain ⟨x, z, rfl, _⟩ := h
    rfl
  · obtain ⟨x, z, rfl, h⟩ := h
    refine ⟨_, pss_one (ps_ret (pe_and (pe_call gW hr (by rfl) aW.g aW.kp aW.b .nil pass0 (pa_cons (pv 0) pa_nil)) (pe_one (pe_callB (cr_all rfl) (by rfl) za (by decide +kernel) (pa_cons
      (pe_lc (own := [("sign", 2)]) (g := gName 2) (tt := tYes) (te := tOp rInS (tVar 2) (tVar 1)) rfl scWordOf.nd (pi_str (pv 0)) (blkOk_by (N := ["value", "signs", "sign"]) (sc := defScope sWordOf) (by decide +kernel))
        (fun _ _ _ _ _ => pg_name (i := 2) scWordOf.nd rfl (Or.inl rfl)) (fun _ _ _ _ _ => pts_nil) (fun _ _ _ _ _ => pe_cmpR op_inS (pv 2) (pe_var (i := 1) rfl (.inr (.inl rfl))) (by rfl))) pa_nil))))), ?_⟩
    rcases h with ⟨y, rfl, hy, q⟩ | ⟨k, hk, ns, q⟩
    · refine ⟨_, rfl, _, rfl, .inl ⟨y, rfl, by omega, fun H1 x1 => ⟨_, rfl, ?_⟩⟩⟩
      have x1 : Ext H H1 := x1
      unfold wordOf at q
      generalize isWordS y = bw at q ⊢
      cases bw with
      | false => exact q _ x1
      | true =>
        rw [Bool.true_and] at q
        rw [if_pos rfl]
        refine ⟨_, rfl, y, rfl, fun D nD => ?_⟩
        refine lc_it (walk_str (z := y)) (fun j H' => Ext H1 H' ∧ H' D = some (.lst (((y.cps.toList.take j).map fun c => decide (c ∈ z.cps.toList)).map V.bl))) ⟨Ext.new nD, upd_same⟩ (fun _ _ _ _ => trivial) ?_ ?_
        · rintro j v H6 H7 hj ⟨x6, hD⟩ ⟨rfl, c, hc, rfl⟩
          have hc' : y.cps.toList[j]? = some c := by rw [Array.getElem?_toList]; exact hc
          refine ⟨rfl, ?_⟩
          dsimp only [tYes]
          rw [if_pos rfl]
          have hj' : j < y.length := hj
          refine ⟨_, rfl, _, rfl, c, z, rfl, rfl, _, hD, ?_, fun a o e => ?_, ?_⟩
          · rw [List.length_map, List.length_map, List.length_take]
            exact small1000 (by omega)
          · rw [upd_ne (ne_of_none e nD)]
            exact x6 _ _ e
          · rw [upd_same, take_more hc', List.map_append, List.map_append]
            rfl
        · rintro H6 ⟨x6, hD⟩
          have e : y.cps.size = y.cps.toList.length := (Array.length_toList ..).symm
          rw [e, List.take_length] at hD
          refine ⟨D, _, rfl, SqL.of hD, ?_⟩
          rw [List.all_map]
          exact q H6 (x1.trans x6)
    · refine ⟨_, rfl, _, rfl, .inr ⟨k, hk, ns, _, rfl, ?_⟩⟩
      exact q
theorem scLangSt : FnScope ["value", "signs", "many", "sign"] ["value", "signs", "many"] (defScope sLangSt) := ⟨rfl, rfl, rfl, by decide +kernel, rfl, by decide +kernel, by decide +kernel⟩
theorem ok_langst {f fB : Addr} {fd fdB : FuncData} (F : Fun K "_is_language_state" "_is_language_state" sLangSt f fd) (aB : At K mg "is_below" fB fdB ["value", "limit"] []) (gB : FnOk P w K mg base CX0 2 fB fdB ["value", "limit"] (spBelow K))
    (zz : mg "isinstance" = none) (zd : mg "dict" = none) (zn : mg "len" = none) (za : mg "all" = none) : FnOk P w K mg base CX0 3 f fd ["value", "signs", "many"] spLangSt := by
  refine F.ok scLangSt (fun vs H Q E h => ?_) (fun cdv A outer s H vs Q E hr h => ?_)
  · obtain ⟨d, z, n, kvs, δ, rfl, _⟩ := h
    rfl
  · obtain ⟨d, z, n, kvs, δ, rfl, hd, hl, l100, hv, q⟩ := h
    have hu := hu_of hr
    refine ⟨_, pss_cons (ps_if (PW.pt (pw_or (pt_not (pt_val (pe_callB call_isi (by rfl) zz (by decide +kernel) (pa_cons (pe_var (i := 0) rfl (.inr (.inl rfl))) (pa_cons (pe_bltn (by rfl) zd (by decide +kernel) (rel_ty "dict")) pa_nil))))) (pw_or1 (pt_cmpR op_ne (pe_callB call_lenD (by rfl) zn PySem.boot_len (pa_cons (pe_var (i := 0) rfl (.inr (.inl rfl))) pa_nil)) (pe_callB call_len_str (by rfl) zn PySem.boot_len (pa_cons (pv 1) pa_nil)) (nomark _))))) pss_dead pss_nil)
      (pss_one (ps_ret (pe_callB (cr_all rfl) (by rfl) za (by decide +kernel) (pa_cons (pe_lc (own := [("sign", 3)]) (g := gName 3) (tt := tYes) rfl scLangSt.nd (pi_str (pv 1)) (blkOk_by (N := ["value", "signs", "many", "sign"]) (sc := defScope sLangSt) (by decide +kernel))
          (fun _ _ _ _ _ => pg_name (i := 3) scLangSt.nd rfl (Or.inl rfl)) (fun _ _ _ _ _ => pts_nil)
          (fun _ _ _ _ _ => pe_and (pe_cmp (pc_din hu (pv 3) (pe_var (i := 0) rfl (.inr (.inl rfl))))) (pe_one (pe_call gB hr (by rfl) aB.g aB.kp aB.b .nil pass0 (pa_cons (pe_dget hu (pe_var (i := 0) rfl (.inr (.inl rfl))) (pv 3) (fun _ _ => rfl)) (pa_cons (pe_var (i := 2) rfl (.inr (.inl rfl))) pa_nil)))))) pa_nil)))), ?_⟩
    have lz : z.length = (sgL z).length := (sgL_len z).symm
    have hval : ∀ (H' : Hp) (c : Str), Ext H H' → c ∈ sgL z → DGet H' d (.str c) (some (.int (δ c : Nat))) := fun H' c x hc => by
      rw [← (hv c hc).1]
      exact DGet.k (k := keyC c) (x _ _ hd)
    refine ⟨_, rfl, _, _, .type "dict", _, true, rfl, .ty _, .base (.dK hd), kit_ty (by decide +kernel), true, rfl, ?_⟩
    refine iteF ?_
    refine ⟨_, rfl, d, kvs, rfl, hd, _, rfl, z, rfl, small_size (by omega), rfl, ?_⟩
    have e0 : decide (V.int (kvs.length : Nat) = V.int (z.length : Nat)) = true := by
      rw [lz, hl]
      exact decide_eq_true rfl
    rw [e0]
    refine ⟨_, rfl, ?_⟩
    refine iteF ?_
    refine ⟨_, rfl, z, rfl, fun D nD => ?_⟩
    refine lc_it (walk_str (z := z)) (fun j H' => Ext H H' ∧ H' D = some (.lst ((List.replicate j true).map V.bl))) ⟨Ext.new nD, upd_same⟩ (fun _ _ _ _ => trivial) ?_ ?_
    · rintro j v H6 H7 hj ⟨x6, hD⟩ ⟨rfl, c, hc, rfl⟩
      have hsg := sgL_at hc
      have cm := List.mem_of_getElem? hsg
      have g := hval _ _ x6 cm
      have hj' : j < z.length := hj
      refine ⟨rfl, ?_⟩
      dsimp only [tYes]
      rw [if_pos rfl]
      refine ⟨_, rfl, _, rfl, d, _, rfl, g, true, rfl, ?_⟩
      rw [if_pos rfl]
      refine ⟨_, rfl, _, rfl, d, _, rfl, g, _, rfl, _, _, rfl, .inl ⟨_, rfl⟩, ?_⟩
      have eb : below (.int (δ ⟨#[c]⟩ : Nat)) (n : Int) = true := by
        have := (hv _ cm).2
        show (decide ((0 : Int) ≤ (δ ⟨#[c]⟩ : Nat)) && decide (((δ ⟨#[c]⟩ : Nat) : Int) < (n : Int))) = true
        rw [decide_eq_true (by omega), decide_eq_true (by omega)]
        rfl
      rw [eb]
      refine ⟨_, hD, by rw [List.length_map, List.length_replicate]; exact small1000 (by omega), fun a o e => ?_, ?_⟩
      · rw [upd_ne (ne_of_none e nD)]
        exact x6 _ _ e
      · rw [upd_same, List.replicate_succ', List.map_append]
        rfl
    · rintro H6 ⟨x6, hD⟩
      refine ⟨D, _, rfl, SqL.of hD, ?_⟩
      have e : (List.replicate z.cps.size true).all id = true := by simp
      rw [e]
      exact q H6 x6
end
end Sl
/-! ## V6 -/
set_option Elab.async false
set_option linter.all false
set_option maxRecDepth 100000
set_option maxHeartbeats 4000000
set_option pp.maxSteps 1500
set_option pp.deepTerms false
/-! leading_into: the nodes from which a lambda leads to goals -/
namespace Sl
open PySem PySem.Spec PyProof.Rows L2 LamX NdefX
abbrev sLeading : Stmt := top 13
def spLeading (P : Program) (w : World) (K : PySem.W.Frag) (mg : Str → Option Value) (k : Nat) (base : Heap) : List (Str × Addr) → List Str → List (Option V) → Sp := fun cl fr ws vs H Q _ => ∃ (kb : Bool) (gs fl : Addr) (goals : List Nat) (F : LF) (N : Nat) (G : Hp → Prop) (g : Gr), vs = [.ref gs, .int N, .ref fl] ∧
  SqK K kb H gs (goals.map fun n => V.int (n : Nat)) ∧ goals.Nodup ∧ (∀ x ∈ goals, x < N) ∧ N < 64 ∧
  H fl = some (LamO fl F) ∧ H F.c = some (CodeO F.c F.qual) ∧ F.cl = cl ∧ (∀ b : Heap, (∀ a o, base.get? a = some o → b.get? a = some o) → Mod K mg b → LeadL P w K mg b k G g N F fr ws) ∧ G H ∧ GrOk G g N ∧
  ∀ (ys : List Nat) (H' : Hp) (p : Addr), Ext H H' → H p = none → ys.Perm (closeL (preG g N) N goals) → H' p = some (.lst (ys.map fun n => V.int (n : Nat))) → Q (.ref p) H'
abbrev nLeading : List Str := ["goals", "many", "leads", "node"]
theorem keyInts {kvs : List (Key × V)} {l : List Nat} (h : kvs.map (·.1) = l.map keyI) : kvs.map (·.1) = (l.map fun n : Nat => (n : Int)).map Sum.inl := by
  rw [h, List.map_map]
  rfl
theorem perm_nats {ys : List Int} {l : List Nat} (h : ys.Perm (l.map fun n : Nat => (n : Int))) : ∃ zs : List Nat, zs.Perm l ∧ ys = zs.map fun n : Nat => (n : Int) := by
  refine ⟨ys.map Int.toNat, ?_, ?_⟩
  · have := h.map Int.toNat
    rw [List.map_map] at this
    have e : (Int.toNat ∘ fun n : Nat => (n : Int)) = id := by
      funext n
      simp
    rwa [e, List.map_id] at this
  · rw [List.map_map]
    have : ∀ y ∈ ys, ((fun n : Nat => (n : Int)) ∘ Int.toNat) y = id y := fun y hy => by
      obtain ⟨n, _, e⟩ := List.mem_map.mp (h.mem_iff.mp hy)
      subst e
      simp
    rw [List.map_congr_left this, List.map_id]
section
variable {P : Program} {w : World} {K : PySem.W.Frag} {mg : Str → Option Value} {base : Heap}
theorem scLeading : FnScope nLeading ["goals", "many", "leads"] (defScope sLeading) := ⟨rfl, rfl, rfl, by decide +kernel, rfl, by decide +kernel, by decide +kernel⟩
theorem ok_leading {k : Nat} {f fD : Addr} {fd fdD : FuncData} (Fn : Fun K "leading_into" "leading_into" sLeading f fd) (aD : At K mg "distances_to" fD fdD ["goals", "graph"] []) (gD : ∀ b, FnOk P w K mg b CX0 1 fD fdD ["goals", "graph"] (spDist K))
    (zr : mg "range" = none) (zs : mg "sorted" = none) : FnV P w K mg base CX0 (k + 2) f fd ["goals", "many", "leads"] (spLeading P w K mg (k + 1) base) := by
  refine Sl.Fun.okW (sp := spLeading P w K mg (k + 1)) Fn scLeading (fun b cl fr ws vs H Q E h => ?_) (fun b cl fr ws vs H Q E h kb hm => ?_) (fun b A0 outer s H vs cl fr ws Q E hm kb hr B C h => ?_)
  · obtain ⟨kb, gs, fl, goals, F, N, G, g, rfl, _⟩ := h
    rfl
  · obtain ⟨kk, gs, fl, goals, F, N, G, g, h1, h2, h3, h4, h5, h6, h7, h8, LL, h⟩ := h
    exact ⟨kk, gs, fl, goals, F, N, G, g, h1, h2, h3, h4, h5, h6, h7, h8, fun b' h' m' => LL b' (fun a o e => h' a o (kb a o e)) m', h⟩
  · obtain ⟨kq, gs, fl, goals, F, N, G, g, rfl, hgs, nd, lt, n64, hf, hc, ecl, LL, hG, gk, kk⟩ := h
    obtain ⟨y, spF, LF, imp⟩ := (LL b (fun _ _ e => e) hm).ok
    rw [← ecl] at B
    have hr1 := hr.mono (show 1 ≤ k + 1 by omega)
    refine ⟨_, pss_one (ps_ret (pe_callB (call_sortedDI rfl) (by rfl) zs (by decide +kernel) (pa_cons (pe_call (gD b) hr1 (by rfl) aD.g aD.kp aD.b .nil pass0 (pa_cons (pv 0) (pa_cons
      (pe_dc (own := [("node", 3)]) (g := gName 3) (tt := tYes) (tk := tVar 3) (tv := tCallL F 2 ws spF (fun _ _ _ => False) (tCons (tVar 3) tNil)) rfl scLeading.nd (pi_range1 rfl zr (pa_cons (pv 1) pa_nil)) (blkOk_by (N := nLeading) (sc := defScope sLeading) (by decide +kernel))
        (fun _ _ _ _ _ => pg_name (i := 3) scLeading.nd rfl (Or.inl rfl)) (fun _ _ _ _ _ => pts_nil) (fun _ _ _ _ _ => pv 3)
        (fun _ _ _ _ _ => pe_callL (i := 2) LF (fun pins σ H s I => cells_base B I) hr (Nat.le_refl _) pass0 rfl (.inr (.inl rfl)) (pa_cons (pv 3) pa_nil))) pa_nil))) pa_nil))), ?_⟩
    refine ⟨_, rfl, _, rfl, N, rfl, by omega, by omega, fun D nD => ?_⟩
    rw [show ((N : Int)).toNat = N by omega]
    refine dcW (walk_range (lo := 0) (n := N)) (fun i H' => Ext H H' ∧ ∃ Ls : List Addr, Ls.length = i ∧ H' D = some (.dK (kvsG Ls)) ∧ LsAt H' g Ls) ⟨Ext.new nD, [], rfl, upd_same, fun i L e => (by cases i <;> cases e)⟩ (fun _ _ _ _ => trivial) ?_ ?_
    · rintro i x H1 H2 hi ⟨x1, Ls, lLs, hD, hLs⟩ ⟨rfl, rfl⟩
      refine ⟨rfl, ?_⟩
      dsimp only [tYes]
      rw [if_pos rfl]
      refine ⟨_, rfl, fl, rfl, x1 _ _ hf, _, rfl, x1 _ _ hf, x1 _ _ hc, imp _ _ _ _ ⟨i, by simp, hi, gk.st _ _ (ExtN.of x1) hG, fun H3 p ts x3 np hp hts => ?_⟩⟩
      have nDp : D ≠ p := ne_of_none hD np
      refine ⟨kvsG Ls, keyI i, ?_, x3 _ _ hD, ?_, fun a o e => ?_, Ls ++ [p], ?_, ?_, ?_⟩
      · show V.int (0 + (i : Int)) = V.int i
        rw [Int.zero_add]
      · rw [kvsG_len]
        exact small_l (by omega)
      · rw [upd_ne (ne_of_none e nD)]
        exact x3 _ _ (x1 _ _ e)
      · rw [List.length_append, lLs]
        rfl
      · rw [upd_same, kvsG_snoc, lLs]
        refine congrArg (fun z => some (HO.dK z)) (putK_new _ ?_)
        cases e : valV (kvsG Ls) (keyI i) with
        | none => rfl
        | some v =>
          obtain ⟨kv, hm, hk⟩ := List.mem_map.mp (valV_in e)
          obtain ⟨j, hj⟩ := List.getElem?_of_mem hm
          obtain ⟨L, hL, h1, _⟩ := kvsG_at (k := kv.1) (v := kv.2) hj
          have := (List.getElem?_eq_some_iff.mp hL).1
          rw [hk] at h1
          unfold keyI at h1
          injection h1 with h1
          omega
      · have tk : ∀ t xs, H2 t = some (.tup xs) → (upd H3 D (.dK (putK (kvsG Ls) (keyI i) (.ref p)))) t = some (.tup xs) := fun t xs h => by
          rw [upd_ne (ne_of h hD (by intro z; cases z))]
          exact x3 _ _ h
        intro j L hL
        by_cases c : j < Ls.length
        · rw [List.getElem?_append_left c] at hL
          obtain ⟨ts', h1, h2⟩ := hLs j L hL
          refine ⟨ts', ?_, h2.ext tk⟩
          rw [upd_ne (ne_of h1 hD (by intro z; cases z))]
          exact x3 _ _ h1
        · have hlt := (List.getElem?_eq_some_iff.mp hL).1
          rw [List.length_append] at hlt
          have hlt : j < Ls.length + 1 := hlt
          obtain rfl : j = Ls.length := by omega
          rw [List.getElem?_append_right (Nat.le_refl _), Nat.sub_self] at hL
          obtain rfl := Option.some.inj hL
          refine ⟨ts, ?_, ?_⟩
          · rw [upd_ne nDp.symm]
            exact hp
          · rw [lLs]
            exact hts.ext fun t xs h => by
              rw [upd_ne (ne_of h (x3 _ _ hD) (by intro z; cases z))]
              exact h
    · rintro H1 ⟨x1, Ls, lLs, hD, hLs⟩
      refine ⟨kq, gs, D, goals, Ls, g, N, rfl, hgs.ext x1, nd, lt, hD, lLs, hLs, gk.n, gk.lt, gk.le, fun H2 d kvs x2 nd2 hd hk => ?_⟩
      refine ⟨d, kvs, _, rfl, Rd.of hd, keyInts hk, ?_, fun ys p pm _ np => ?_⟩
      · rw [List.length_map]
        have := closeL_len (g := g) nd lt
        omega
      · obtain ⟨zs, pz, rfl⟩ := perm_nats pm
        refine kk zs _ p ((x1.trans x2).trans (Ext.new np)) (x1.free (x2.free np)) pz ?_
        rw [upd_same, List.map_map]
        rfl
end
end Sl
/-! ## V15 -/
set_option Elab.async false
set_option linter.all false
set_option maxRecDepth 100000
set_option maxHeartbeats 4000000
set_option pp.maxSteps 1500
set_option pp.deepTerms false
/-! Language.__init__ -/
namespace Sl
open PySem PySem.Spec PyProof.Rows L2 LamX NdefX
abbrev sLInit : Stmt := inClass (top 37) 1
abbrev eLive : Expr := argAt 2 (asgVal (nth (defBody sLInit) 8))
abbrev scLive : Scope := lamSc eLive (defScope sLInit)
/-- the least machine's states at L -/
def LeAt (L : Addr) (rs : List Addr) (sg : List Str) (δ : Nat → Str → Nat) (H : Hp) : Prop := H L = some (.lst (rs.map V.ref)) ∧ RowsD H rs sg δ
theorem LeAt.extN {L : Addr} {rs : List Addr} {sg : List Str} {δ : Nat → Str → Nat} {H H' : Hp} (x : ExtN H H') (h : LeAt L rs sg δ H) : LeAt L rs sg δ H' :=
  ⟨x _ _ h.1 (by intro ps q; cases q), fun i r e => x _ _ (h.2 i r e) (by intro ps q; cases q)⟩
theorem leGr {L : Addr} {rs : List Addr} {sg : List Str} {δ : Nat → Str → Nat} {M : Nat} (n : M ≤ 100) (ls : sg.length ≤ 100) (lt : ∀ n, n < M → ∀ c ∈ sg, δ n c < M) : GrOk (LeAt L rs sg δ) (gOf sg δ) M :=
  ⟨fun _ _ x h => h.extN x, n, fun n hn e he => (by
    obtain ⟨c, hc, rfl⟩ := List.mem_map.mp he
    exact lt n hn c hc), fun n => by
    unfold gOf
    rw [List.length_map]
    exact ls⟩
theorem leads_row {H : Hp} {δ : Str → Nat} : ∀ {ts : List Addr} {sg : List Str}, Paired (fun (t : Addr) (q : Key × V) => H t = some (.tup [kV q.1, q.2])) ts (rowD sg δ) → LeadsAt H ts (sg.map fun c => (c, δ c))
  | _, [], .nil => .nil
  | _, _ :: _, .cons a h => .cons a (leads_row h)
section
variable {P : Program} {w : World} {K : PySem.W.Frag} {mg : Str → Option Value} {base : Heap}
theorem csLive : CScope ["at", "least"] ["at"] ["least"] scLive := cscope_by (by decide +kernel)
theorem lead_live {k : Nat} {c' : Addr} {cl : List (Str × Addr)} {L : Addr} {rs : List Addr} {sg : List Str} {δ : Nat → Str → Nat} (zl : mg "list" = none) :
    LeadL P w K mg base (k + 1) (LeAt L rs sg δ) (gOf sg δ) rs.length ⟨"Language.__init__.<locals>.<lambda>", lamPar eLive ⟨[], [], none, [], [], none, []⟩, lamBody eLive, scLive, cl, c'⟩ ["least"] [some (.ref L)] := by
  refine ⟨"at", fun ws vs H Q _ => ws = [some (.ref L)] ∧ spLeads (LeAt L rs sg δ) (gOf sg δ) rs.length vs H Q, lok_ofC (N := ["at", "least"]) csLive (fun pm ctv us hl => match us, hl with | [_], _ => rfl) (fun ws vs H Q E h => ?_) (fun f A outer s H vs ws Q E hr hf hc hl h => ?_), fun vs H Q E h => ⟨rfl, h⟩⟩
  · obtain ⟨_, n, rfl, _⟩ := h
    rfl
  · obtain ⟨rfl, n, rfl, hn, ⟨h1, h2⟩, kk⟩ := h
    refine ⟨_, LiI.pe_listItems rfl (pe_ix ix_list (pe_var (i := 1) rfl (.inr (.inr rfl))) (pv 0) (fun _ _ => rfl)) (by rfl) zl (by decide +kernel), ?_⟩
    obtain ⟨r, hr⟩ : ∃ r, rs[n]? = some r := ⟨_, List.getElem?_eq_getElem hn⟩
    refine ⟨_, rfl, _, rfl, L, _, _, _, rfl, rfl, SqL.of h1, atI_nat (by rw [List.getElem?_map, hr]; rfl), r, _, rfl, h2 n r hr, fun H' p ts x np nt pt hp hts => ?_⟩
    exact kk H' p ts x np hp (leads_row hts)
end
theorem nodup_map_int {l : List Nat} (h : l.Nodup) : (l.map fun n : Nat => (n : Int)).Nodup := by
  unfold List.Nodup at h ⊢
  rw [List.pairwise_map]
  exact h.imp fun a b => a (by omega)
/-- what stood stands, but for p and for tables -/
def KeepN (p : Addr) (H H' : Hp) : Prop := ∀ b o, H b = some o → (∀ ps, o ≠ .tbl ps) → b ≠ p → H' b = some o
theorem tabs_ins {T : List NTab} {H H' : Hp} {p C dx : Addr} {fs : List (Str × V)} (t : TabsN T H) (hp : H p = some (.ins C dx fs)) (k : ∀ b o, H b = some o → b ≠ p → H' b = some o) : TabsN T H' := fun q hq => by
  obtain ⟨ps, h1, h2, h3⟩ := t q hq
  refine ⟨ps, k _ _ h1 (ne_of h1 hp (by intro z; cases z)), h2, fun pos cv hc => ?_⟩
  obtain ⟨c, e, h4⟩ := h3 pos cv hc
  exact ⟨c, e, k _ _ h4 (ne_of h4 hp (by intro z; unfold CodeO at z; cases z))⟩
/-- a language stands at p -/
structure LangAt (C : Addr) (H : Hp) (p : Addr) (z : Str) (M : Nat) (δ : Nat → Str → Nat) (found live : List Nat) : Prop where
  ex : ∃ dx fs L rs Me Li, H p = some (.ins C dx fs) ∧ fs.lookup ("_signs" : Str) = some (.str z) ∧ fs.lookup ("_states" : Str) = some (.ref L) ∧ H L = some (.lst (rs.map V.ref)) ∧ rs.length = M ∧ RowsD H rs (sgL z) δ ∧
    fs.lookup ("_members" : Str) = some (.ref Me) ∧ H Me = some (.tup (found.map fun n => V.int (n : Nat))) ∧ fs.lookup ("_live" : Str) = some (.ref Li) ∧ H Li = some (.lst (live.map fun n => V.int (n : Nat))) ∧ ∀ f, f ∉ (["_signs", "_states", "_members", "_live"] : List Str) → fs.lookup f = none
/-- .. and all its parts are new, seen from H -/
structure LangNew (C : Addr) (H H' : Hp) (p : Addr) (z : Str) (M : Nat) (δ : Nat → Str → Nat) (found live : List Nat) : Prop where
  ex : ∃ dx fs L rs Me Li, (H' p = some (.ins C dx fs) ∧ fs.lookup ("_signs" : Str) = some (.str z) ∧ fs.lookup ("_states" : Str) = some (.ref L) ∧ H' L = some (.lst (rs.map V.ref)) ∧ rs.length = M ∧ RowsD H' rs (sgL z) δ ∧
    fs.lookup ("_members" : Str) = some (.ref Me) ∧ H' Me = some (.tup (found.map fun n => V.int (n : Nat))) ∧ fs.lookup ("_live" : Str) = some (.ref Li) ∧ H' Li = some (.lst (live.map fun n => V.int (n : Nat))) ∧ ∀ f, f ∉ (["_signs", "_states", "_members", "_live"] : List Str) → fs.lookup f = none) ∧
    H L = none ∧ (∀ r ∈ rs, H r = none) ∧ H Me = none ∧ H Li = none
theorem LangNew.at_ {C : Addr} {H H' : Hp} {p : Addr} {z : Str} {M : Nat} {δ : Nat → Str → Nat} {found live : List Nat} (N : LangNew C H H' p z M δ found live) : LangAt C H' p z M δ found live := by
  obtain ⟨dx, fs, L, rs, Me, Li, h, _⟩ := N.ex
  exact ⟨dx, fs, L, rs, Me, Li, h⟩
structure LgC (K : PySem.W.Frag) (C : Addr) : Prop where
  cl : Cls K C
  nG : NoAttr K C "_signs"
  nS : NoAttr K C "_states"
  nM : NoAttr K C "_members"
  nL : NoAttr K C "_live"
def spLInit (K : PySem.W.Frag) (C : Addr) (T : List NTab) : Sp := fun vs H Q _ => ∃ (p dx : Addr) (kb km : Bool) (z : Str) (st ms : Addr) (rows : List Addr) (mem : List Nat) (δ : Nat → Str → Nat), vs = [.ref p, .str z, .ref st, .ref ms] ∧ H p = some (.ins C dx []) ∧ SgOk z ∧
  SqK K kb H st (rows.map V.ref) ∧ RowsAt H rows (sgL z) δ ∧ (∀ r ∈ rows, ∃ kvs, H r = some (.dK kvs) ∧ kvs.length = (sgL z).length) ∧ SqK K km H ms (mem.map fun n => V.int (n : Nat)) ∧ mem.Nodup ∧ (∀ n ∈ mem, n < rows.length) ∧ 0 < rows.length ∧ rows.length ≤ 40 ∧ Few (sgL z) δ mem rows.length 6 ∧ (∀ n, n < rows.length → ∀ c ∈ sgL z, δ n c < rows.length) ∧ TabsN T H ∧
  ∀ (H' : Hp) (M : Nat) (δ' : Nat → Str → Nat) (found live : List Nat), KeepN p H H' → (∀ b, H' b = none → H b = none) → TabsN T H' → LangNew C H H' p z M δ' found live → LeastOf (sgL z) δ mem rows.length M δ' found → (∀ n, n < M → (n ∈ live ↔ Leads (gOf (sgL z) δ') found n)) → Q .non H'
abbrev nLInit : List Str := ["self", "signs", "states", "member_states", "index", "state", "least", "found"]
section
variable {P : Program} {w : World} {K : PySem.W.Frag} {mg : Str → Option Value} {base : Heap}
theorem scLInit : FnScope nLInit ["self", "signs", "states", "member_states"] (defScope sLInit) := ⟨rfl, rfl, rfl, by decide +kernel, rfl, by decide +kernel, by decide +kernel⟩
theorem live_free : ∀ y ∈ scLive.names, y.2 = NameKind.free → (defScope sLInit).names.lookup y.1 = some .cell ∨ (defScope sLInit).names.lookup y.1 = some .free := by decide +kernel
theorem ok_linit {T : List NTab} {f C fK fH fS fA fM fV : Addr} {fd fdK fdH fdS fdA fdM fdV : FuncData} (Fn : Fun K "__init__" "Language.__init__" sLInit f fd) (LM : Lams base mg T fd "Language.__init__.<locals>.<lambda>") (Tc : LgC K C)
    (aK : At K mg "_check_signs" fK fdK ["value"] []) (gK : FnOk P w K mg base CX0 3 fK fdK ["value"] spChkSg)
    (aH : At K mg "has_length" fH fdH ["value", "least", "most"] []) (gH : FnOk P w K mg base CX0 1 fH fdH ["value", "least", "most"] (spHasLenK K))
    (aS : At K mg "_is_language_state" fS fdS ["value", "signs", "many"] []) (gS : FnOk P w K mg base CX0 3 fS fdS ["value", "signs", "many"] spLangSt)
    (aA : At K mg "are_states" fA fdA ["value", "many"] []) (gA : FnOk P w K mg base CX0 3 fA fdA ["value", "many"] (spAreStatesK K))
    (aM : At K mg "least_machine" fM fdM ["signs", "states", "member_states", "limit"] []) (gM : FnOk P w K mg base CX0 5 fM fdM ["signs", "states", "member_states", "limit"] (spLeast P w K T))
    (aV : At K mg "leading_into" fV fdV ["goals", "many", "leads"] []) (gV : FnV P w K mg base CX0 2 fV fdV ["goals", "many", "leads"] (spLeading P w K mg 1 base))
    {u6 : Value} (c6 : Con K C "MAX_STATES" (.int 6) u6) {t40 : Tok} (z40 : mg "MAX_GIVEN_STATES" = some (.int 40 t40)) (zn : mg "len" = none) (ze : mg "enumerate" = none) (zt : mg "tuple" = none) (zl : mg "list" = none) :
    FnOk P w K mg base CX0 6 f fd ["self", "signs", "states", "member_states"] (spLInit K C T) := by
  obtain ⟨c, Tb, hcode, TB, hmT, hu⟩ := LM.ex
  refine Sl.Fun.okM Fn scLInit (fun vs H Q E h => ?_) (fun A0 outer s H vs Q E hr h => ?_)
  · obtain ⟨p, dx, kb, km, z, st, ms, rows, mem, δ, rfl, _⟩ := h
    rfl
  · obtain ⟨p, dx, kb, km, z, st, ms, rows, mem, δ, rfl, hp, sg, hst, hrows, hrl, hms, ndm, ltm, rpos, r6, few, δlt, hT, kk⟩ := h
    have hr3 := hr.mono (show 3 ≤ 5 by omega)
    have hr2 := hr.mono (show 2 ≤ 5 by omega)
    have hr1 := hr.mono (show 1 ≤ 5 by omega)
    refine ⟨_, pss_cons (ps_expr (pe_call gK hr3 (by rfl) aK.g aK.kp aK.b .nil pass0 (pa_cons (pv 1) pa_nil)))
      (pss_cons (ps_if (pt_not (pt_val (pe_call gH hr1 (by rfl) aH.g aH.kp aH.b .nil pass0 (pa_cons (pv 2) (pa_cons pe_int (pa_cons (pe_glob (v := .int 40) rfl z40 ⟨_, rfl⟩) pa_nil)))))) pss_dead pss_nil)
      (pss_cons (ps_for (passes_of rfl) rfl (pi_enumK (by rfl) ze (pa_cons (pv 2) pa_nil)) (pg_tup (by rfl) (pgs_cons (pg_name (i := 4) scLInit.nd rfl (.inl rfl)) (pgs_cons (pg_name (i := 5) scLInit.nd rfl (.inl rfl)) pgs_nil)))
        (pss_one (ps_if (pt_not (pt_val (pe_call gS hr3 (by rfl) aS.g aS.kp aS.b .nil pass0 (pa_cons (pv 5) (pa_cons (pv 1) (pa_cons (pe_callB call_len_seq (by rfl) zn PySem.boot_len (pa_cons (pv 2) pa_nil)) pa_nil)))))) pss_dead pss_nil)))
      (pss_cons (ps_if (pt_not (pt_val (pe_call gA hr3 (by rfl) aA.g aA.kp aA.b .nil pass0 (pa_cons (pv 3) (pa_cons (pe_callB call_len_seq (by rfl) zn PySem.boot_len (pa_cons (pv 2) pa_nil)) pa_nil))))) pss_dead pss_nil)
      (pss_cons (ps_asg (pe_call gM hr (by rfl) aM.g aM.kp aM.b .nil pass0 (pa_cons (pv 1) (pa_cons (pv 2) (pa_cons (pv 3) (pa_cons (pe_con (pv 0) rfl) pa_nil)))))
          (pg_tup (by rfl) (pgs_cons (pg_name (i := 6) scLInit.nd rfl (.inr rfl)) (pgs_cons (pg_name (i := 7) scLInit.nd rfl (.inl rfl)) pgs_nil))))
      (pss_cons (ps_fld (pv 0) (pv 1) rfl)
      (pss_cons (ps_fld (pv 0) (pe_var (i := 6) rfl (.inr (.inl rfl))) rfl)
      (pss_cons (ps_fld (pv 0) (pe_callTy call_tuple_of (by rfl) zt (by decide +kernel) (pa_cons (pv 7) pa_nil)) rfl)
      (pss_one (ps_fld (pv 0) (pe_callV (fr := ["least"]) (ws := fun σ => ([6] : List Nat).map (slotAt σ)) (E := fun _ _ _ => False) gV
          (fun pins σ H s I => cellsF_of I (Caps.made (scope := scLive) I.ok live_free (by decide +kernel) rfl) (fun _ => rfl) rfl rfl) hr2 (by rfl) aV.g aV.kp aV.b pass0
          (pa_cons (pv 7) (pa_cons (pe_callB call_len_seq (by rfl) zn PySem.boot_len (pa_cons (pe_var (i := 6) rfl (.inr (.inl rfl))) pa_nil)) (pa_cons (pe_lamV (T := T) TB hcode hmT hu rfl live_free) pa_nil)))) rfl))))))))), ?_⟩
    have zc : z.cps.size ≤ 4 := sg.le
    have lrw : (rows.map V.ref).length = rows.length := List.length_map ..
    have lmm : mem.length ≤ rows.length := nodup_len ndm ltm
    have hmi : ∀ {H' : Hp}, SqK K km H' ms (mem.map fun n => V.int (n : Nat)) → SqK K km H' ms ((mem.map fun n : Nat => (n : Int)).map V.int) := fun h => by
      rw [List.map_map]
      exact h
    refine ⟨_, rfl, z, rfl, sg, fun H1 x1 => ?_⟩
    refine ⟨_, rfl, kb, st, _, 1, 40, rfl, hst.ext x1, fun H2 x2 => ?_⟩
    rw [lrw, decide_eq_true (by omega), decide_eq_true (by omega)]
    refine ⟨true, rfl, iteF ?_⟩
    have x2 := x1.trans x2
    refine ⟨_, rfl, kb, st, _, rfl, hst.ext x2, ?_⟩
    refine for_it (walk_enumK (xs := rows.map V.ref)) (fun i σ H' => ∃ v4 v5, σ = [some (.ref p), some (.str z), some (.ref st), some (.ref ms), v4, v5, none, none] ∧ Ext H H') ⟨none, none, rfl, x2⟩ (fun i σ H' _ ⟨_, _, _, x⟩ => hst.ext x) ?_ ?_
    · rintro i x σ H3 H4 hi ⟨v4, v5, rfl, x3⟩ ⟨T1, x', y', rfl, nT, rfl, e1, e2⟩
      obtain ⟨r, hr, rfl⟩ := at_map e2
      cases e1
      have x4 := x3.trans (Ext.new nT (o := .tup [.int (i : Nat), .ref r]))
      obtain ⟨kvs, k1, k2⟩ := hrows i r hr
      obtain ⟨kvs', k1', k3⟩ := hrl r (List.mem_of_getElem? hr)
      rw [k1] at k1'
      obtain rfl : kvs = kvs' := by
        injection k1' with k1'
        injection k1'
      have iN := (List.getElem?_eq_some_iff.mp hr).1
      refine ⟨T1, _, rfl, SqT.of upd_same, rfl, _, _, rfl, _, _, rfl, rfl, ?_⟩
      refine ⟨_, rfl, _, rfl, _, rfl, st, _, rfl, (hst.ext x4).or, r, z, _, kvs, δ i, rfl, x4 _ _ k1, k3, by rw [sgL_len]; omega, fun c hc => ⟨k2 c hc, by rw [lrw]; exact δlt i iN c hc⟩, fun H5 x5 => ⟨true, rfl, iteF ⟨_, _, rfl, x4.trans x5⟩⟩⟩
    rintro σ H3 ⟨v4, v5, rfl, x3⟩
    refine ⟨_, rfl, _, rfl, st, _, rfl, (hst.ext x3).or, km, ms, mem.map (fun n : Nat => (n : Int)), _, rfl, hmi (hms.ext x3), by rw [List.length_map]; omega, nodup_map_int ndm, fun i hi => ?_, fun H4 x4 => ⟨true, rfl, iteF ?_⟩⟩
    · obtain ⟨n, hn, rfl⟩ := List.mem_map.mp hi
      have := ltm n hn
      rw [lrw]
      omega
    have x4 := x3.trans x4
    refine ⟨_, rfl, _, rfl, _, rfl, _, rfl, p, C, dx, [], _, _, rfl, x4 _ _ hp, Tc.cl, c6, rfl, kb, km, z, st, ms, 6, rows, mem, δ, rfl, hst.ext x4, hrows.ext x4, hms.ext x4, by omega, rpos, few, by omega, by omega, sg.nd, δlt, hT.ext x4, fun H5 t L F rs M δ' found xN nn5 T5 nt nL nF ht hL lrs hrn hrs hF LO ml => ?_⟩
    refine ⟨t, _, rfl, SqT.of ht, rfl, _, _, rfl, _, _, rfl, rfl, ?_⟩
    have x5 : ExtN H H5 := (ExtN.of x4).trans xN
    have hp5 := x5 _ _ hp (by intro ps q; cases q)
    have nn : ∀ b, H5 b = none → H b = none := fun b e => x4.free (nn5 b e)
    have fL : H L = none := x4.free nL
    have fr : ∀ r ∈ rs, H r = none := fun r h => x4.free (hrn r h)
    have K0 : ∀ f v, (putF f v ([] : List (Str × V))) = [(f, v)] := fun _ _ => rfl
    -- self._signs, self._states
    refine ⟨_, rfl, _, rfl, p, C, dx, [], rfl, hp5, Tc.cl, Tc.nG, by show 0 < 1000; decide, ?_⟩
    refine ⟨_, rfl, _, rfl, p, C, dx, _, rfl, upd_same, Tc.cl, Tc.nS, Nat.lt_of_le_of_lt (length_putF _ _ _) (by show 0 + 1 < 1000; decide), ?_⟩
    rw [upd_upd]
    have npF : p ≠ F := fun e => by
      rw [← e, x4 _ _ hp] at nF
      cases nF
    have npL : p ≠ L := fun e => by
      rw [← e, x4 _ _ hp] at nL
      cases nL
    have k6 : ∀ a o, H5 a = some o → a ≠ p → (upd H5 p (.ins C dx (putF "_states" (.ref L) (putF "_signs" (.str z) [])))) a = some o := fun a o e n => by
      rw [upd_ne n]
      exact e
    have hp6 : (upd H5 p (.ins C dx (putF "_states" (.ref L) (putF "_signs" (.str z) [])))) p = some (.ins C dx (putF "_states" (.ref L) (putF "_signs" (.str z) []))) := upd_same
    have hL6 := k6 _ _ hL npL.symm
    have hF6 := k6 _ _ hF npF.symm
    have hrs6 : RowsD (upd H5 p (.ins C dx (putF "_states" (.ref L) (putF "_signs" (.str z) [])))) rs (sgL z) δ' := fun i r e => k6 _ _ (hrs i r e) (ne_of (hrs i r e) hp5 (by intro z; cases z))
    have T6 : TabsN T (upd H5 p (.ins C dx (putF "_states" (.ref L) (putF "_signs" (.str z) [])))) := tabs_ins T5 hp5 k6
    have kn6 : KeepN p H (upd H5 p (.ins C dx (putF "_states" (.ref L) (putF "_signs" (.str z) [])))) := fun a o e n q => k6 _ _ (x5 _ _ e n) q
    have nn6 : ∀ b, (upd H5 p (.ins C dx (putF "_states" (.ref L) (putF "_signs" (.str z) [])))) b = none → H b = none := fun b e => by
      by_cases c : b = p
      · rw [c, hp6] at e
        cases e
      · rw [upd_ne c] at e
        exact nn b e
    generalize upd H5 p (.ins C dx (putF "_states" (.ref L) (putF "_signs" (.str z) []))) = H6 at hp6 hL6 hF6 hrs6 T6 kn6 nn6 ⊢
    -- self._members
    refine ⟨_, rfl, F, _, rfl, .inl ⟨SqL.of hF6, fun Me nMe => ?_⟩⟩
    have npMe : p ≠ Me := ne_of_none hp6 nMe
    have fMe : H Me = none := nn6 _ nMe
    have xMe := Ext.new nMe (o := .tup (found.map fun n => V.int (n : Nat)))
    have hMe : (upd H6 Me (.tup (found.map fun n => V.int (n : Nat)))) Me = some (.tup (found.map fun n => V.int (n : Nat))) := upd_same
    have hp7 := xMe _ _ hp6
    have hL7 := xMe _ _ hL6
    have hF7 := xMe _ _ hF6
    have hrs7 : RowsD (upd H6 Me (.tup (found.map fun n => V.int (n : Nat)))) rs (sgL z) δ' := fun i r e => xMe _ _ (hrs6 i r e)
    have T7 := T6.ext xMe
    have kn7 : KeepN p H (upd H6 Me (.tup (found.map fun n => V.int (n : Nat)))) := fun a o e n q => xMe _ _ (kn6 a o e n q)
    have nn7 : ∀ b, (upd H6 Me (.tup (found.map fun n => V.int (n : Nat)))) b = none → H b = none := fun b e => nn6 b (xMe.free e)
    generalize upd H6 Me (.tup (found.map fun n => V.int (n : Nat))) = H7 at hMe hp7 hL7 hF7 hrs7 T7 kn7 nn7 ⊢
    clear hp6 hL6 hF6 hrs6 T6 kn6 nn6 xMe nMe hp5 xN x5 nn hL hF hrs nn5 T5 ht
    refine ⟨_, rfl, p, C, dx, _, rfl, hp7, Tc.cl, Tc.nM, Nat.lt_of_le_of_lt (length_putF _ _ _) (Nat.lt_of_le_of_lt (Nat.succ_le_succ (length_putF _ _ _)) (by show 0 + 1 + 1 < 1000; decide)), ?_⟩
    have k8 : ∀ a o, H7 a = some o → a ≠ p → (upd H7 p (.ins C dx (putF "_members" (.ref Me) (putF "_states" (.ref L) (putF "_signs" (.str z) []))))) a = some o := fun a o e n => by
      rw [upd_ne n]
      exact e
    have hp8 : (upd H7 p (.ins C dx (putF "_members" (.ref Me) (putF "_states" (.ref L) (putF "_signs" (.str z) []))))) p = some (.ins C dx (putF "_members" (.ref Me) (putF "_states" (.ref L) (putF "_signs" (.str z) [])))) := upd_same
    have hL8 := k8 _ _ hL7 npL.symm
    have hF8 := k8 _ _ hF7 npF.symm
    have hMe8 := k8 _ _ hMe npMe.symm
    have hrs8 : RowsD (upd H7 p (.ins C dx (putF "_members" (.ref Me) (putF "_states" (.ref L) (putF "_signs" (.str z) []))))) rs (sgL z) δ' := fun i r e => k8 _ _ (hrs7 i r e) (ne_of (hrs7 i r e) hp7 (by intro z; cases z))
    have T8 : TabsN T (upd H7 p (.ins C dx (putF "_members" (.ref Me) (putF "_states" (.ref L) (putF "_signs" (.str z) []))))) := tabs_ins T7 hp7 k8
    have kn8 : KeepN p H (upd H7 p (.ins C dx (putF "_members" (.ref Me) (putF "_states" (.ref L) (putF "_signs" (.str z) []))))) := fun a o e n q => k8 _ _ (kn7 a o e n q) q
    have nn8 : ∀ b, (upd H7 p (.ins C dx (putF "_members" (.ref Me) (putF "_states" (.ref L) (putF "_signs" (.str z) []))))) b = none → H b = none := fun b e => by
      by_cases c : b = p
      · rw [c, hp8] at e
        cases e
      · rw [upd_ne c] at e
        exact nn7 b e
    generalize upd H7 p (.ins C dx (putF "_members" (.ref Me) (putF "_states" (.ref L) (putF "_signs" (.str z) [])))) = H8 at hp8 hL8 hF8 hMe8 hrs8 T8 kn8 nn8 ⊢
    clear hp7 hL7 hF7 hMe hrs7 T7 kn7 nn7 k8
    -- self._live
    have Mr : rs.length ≤ 6 := by omega
    refine ⟨_, rfl, _, rfl, L, _, rfl, .inl (SqL.of hL8), T8, fun f2 c2 H9 x9 nn9 T9 nf2 hf2 hc2 => ?_⟩
    have xl : ∀ a o, H8 a = some o → (∀ ps, o ≠ .tbl ps) → H9 a = some o := fun a o e n => x9 _ _ e n
    have hF9 := xl _ _ hF8 (by intro ps q; cases q)
    refine ⟨true, F, f2, found, _, rs.length, LeAt L rs (sgL z) δ', gOf (sgL z) δ', ?_, SqK.l hF9, LO.nd, fun x hx => by rw [lrs]; exact LO.fl x hx, by omega, hf2, hc2, rfl, fun b _ _ => lead_live zl, LeAt.extN x9 ⟨hL8, hrs8⟩, leGr (by omega) (by rw [sgL_len]; omega) (fun n hn c hc => by rw [lrs] at hn ⊢; exact LO.lt n hn c hc), fun ys H10 q x10 nq pm hq => ?_⟩
    · rw [List.length_map]
    have xa : ExtN H8 H10 := x9.trans (ExtN.of x10)
    have fq : H q = none := nn8 _ (nn9 _ nq)
    have hp10 := xa _ _ hp8 (by intro ps q; cases q)
    have nqp : q ≠ p := fun e => by
      rw [e, xl _ _ hp8 (by intro ps q; cases q)] at nq
      cases nq
    have k11 : ∀ a o, H10 a = some o → a ≠ p → (upd H10 p (.ins C dx (putF "_live" (.ref q) (putF "_members" (.ref Me) (putF "_states" (.ref L) (putF "_signs" (.str z) [])))))) a = some o := fun a o e n => by
      rw [upd_ne n]
      exact e
    refine ⟨_, rfl, p, C, dx, _, rfl, hp10, Tc.cl, Tc.nL, Nat.lt_of_le_of_lt (length_putF _ _ _) (Nat.lt_of_le_of_lt (Nat.succ_le_succ (length_putF _ _ _)) (Nat.lt_of_le_of_lt (Nat.succ_le_succ (Nat.succ_le_succ (length_putF _ _ _))) (by show 0 + 1 + 1 + 1 < 1000; decide))), ?_⟩
    have fu : ∀ f : Str, (putF "_live" (V.ref q) (putF "_members" (V.ref Me) (putF "_states" (V.ref L) (putF "_signs" (V.str z) [])))).lookup f = if f = "_live" then some (V.ref q) else if f = "_members" then some (V.ref Me) else if f = "_states" then some (V.ref L) else if f = "_signs" then some (V.str z) else none := fun f => by
      rw [lookup_putF, lookup_putF, lookup_putF, lookup_putF]
      rfl
    have tn : ∀ {o : HO}, (∀ ps, o ≠ .tbl ps) → ∀ a, H8 a = some o → a ≠ p → (upd H10 p (.ins C dx (putF "_live" (.ref q) (putF "_members" (.ref Me) (putF "_states" (.ref L) (putF "_signs" (.str z) [])))))) a = some o := fun n a e np => k11 _ _ (xa _ _ e n) np
    refine kk _ M δ' found ys (fun a o e n np => tn n a (kn8 a o e n np) np) (fun b e => ?_) (tabs_ins ((T9.ext x10)) hp10 k11) ⟨dx, _, L, rs, Me, q, ⟨upd_same, by rw [fu]; rfl, by rw [fu]; rfl, tn (by intro ps q; cases q) _ hL8 npL.symm, lrs, fun i r e => tn (by intro ps q; cases q) _ (hrs8 i r e) (ne_of (hrs8 i r e) hp8 (by intro z; cases z)), by rw [fu]; rfl, tn (by intro ps q; cases q) _ hMe8 npMe.symm, by rw [fu]; rfl, k11 _ _ hq nqp, fun f hf => ?_⟩, fL, fr, fMe, fq⟩ LO fun n hn => ?_
    · by_cases c : b = p
      · rw [c, upd_same] at e
        cases e
      · rw [upd_ne c] at e
        exact nn8 b (nn9 b (x10.free e))
    · rw [fu]
      simp only [List.mem_cons, List.not_mem_nil, or_false, not_or] at hf
      obtain ⟨a1, a2, a3, a4⟩ := hf
      rw [if_neg a4, if_neg a3, if_neg a2, if_neg a1]
    · have LOlt : ∀ n, n < rs.length → ∀ e ∈ gOf (sgL z) δ' n, e.2 < rs.length := fun n hn e he => by
        obtain ⟨c, hc, rfl⟩ := List.mem_map.mp he
        rw [lrs] at hn ⊢
        exact LO.lt n hn c hc
      rw [pm.mem_iff, closeL_iff LO.nd (fun x hx => by rw [lrs]; exact LO.fl x hx) (by rw [lrs]; exact hn) LOlt]
end
end Sl
/-! ## V16 -/
set_option Elab.async false
set_option linter.all false
set_option maxRecDepth 100000
set_option maxHeartbeats 4000000
set_option pp.maxSteps 1500
set_option pp.deepTerms false
/-! what a language tells: its signs, whether it is empty, what is in it -/
namespace Sl
open PySem PySem.Spec PyProof.Rows L2
abbrev sSigns : Stmt := inClass (top 37) 4
abbrev sEmpty : Stmt := inClass (top 37) 5
abbrev sHasL : Stmt := inClass (top 37) 10
theorem inV_nat (n : Nat) : ∀ l : List Nat, inV (.int n) (l.map fun n => V.int (n : Nat)) = decide (n ∈ l)
  | [] => rfl
  | a :: l => by
    have ih := inV_nat n l
    unfold inV at ih ⊢
    rw [List.map_cons, List.any_cons, ih]
    by_cases c : n = a
    · subst c
      have : eqV (.int (n : Nat)) (.int (n : Nat)) = true := by simp [eqV]
      rw [this]
      simp
    · have : eqV (.int (a : Nat)) (.int (n : Nat)) = false := by
        simp [eqV]
        omega
      rw [this]
      simp [c]
theorem flat_nats (l : List Nat) : (l.map fun n => V.int (n : Nat)).all flatV = true := by
  rw [List.all_map]
  exact List.all_eq_true.mpr fun _ _ => rfl
def spSigns (C : Addr) : Sp := fun vs H Q _ => ∃ (p : Addr) (z : Str) (M : Nat) (δ : Nat → Str → Nat) (found live : List Nat), vs = [.ref p] ∧ LangAt C H p z M δ found live ∧ Q (.str z) H
def spEmpty (C : Addr) : Sp := fun vs H Q _ => ∃ (p : Addr) (z : Str) (M : Nat) (δ : Nat → Str → Nat) (found live : List Nat), vs = [.ref p] ∧ LangAt C H p z M δ found live ∧ Q (.bl (!decide (0 ∈ live))) H
def spHasL (K : PySem.W.Frag) (C : Addr) : Sp := fun vs H Q _ => ∃ (p : Addr) (x : V) (z : Str) (M : Nat) (δ : Nat → Str → Nat) (found live : List Nat), vs = [.ref p, x] ∧ LangAt C H p z M δ found live ∧ 0 < M ∧ (∀ b, b < M → ∀ c ∈ sgL z, δ b c < M) ∧
  ((∃ y : Str, x = .str y ∧ y.length ≤ 1000 ∧ ∀ H', Ext H H' → Q (.bl (wordOf z y && decide (run δ 0 (sgL y) ∈ found))) H') ∨ (∃ k : Kd, Is K H x k ∧ k ≠ .str ∧ Q (.bl false) H))
theorem word_mem {z y : Str} (h : wordOf z y = true) {i c : Nat} (hc : y.cps[i]? = some c) : (⟨#[c]⟩ : Str) ∈ sgL z := by
  unfold wordOf at h
  rw [Bool.and_eq_true] at h
  have := List.all_eq_true.mp h.2 c (by
    have : y.cps.toList[i]? = some c := by rw [Array.getElem?_toList]; exact hc
    exact List.mem_of_getElem? this)
  unfold sgL
  exact List.mem_map.mpr ⟨c, of_decide_eq_true this, rfl⟩
theorem row_val {d : Str → Nat} {c : Str} : ∀ {sg : List Str}, c ∈ sg → valV (rowD sg d) (keyC c) = some (.int (d c : Nat))
  | [], h => nomatch h
  | a :: sg, h => by
    show valV ((keyC a, V.int (d a : Nat)) :: rowD sg d) (keyC c) = _
    by_cases e : a = c
    · subst e
      rw [valV_pos rfl]
    · rw [valV_neg (fun z => e (by unfold keyC at z; injection z))]
      exact row_val ((List.mem_cons.mp h).resolve_left fun z => e z.symm)
section
variable {P : Program} {w : World} {K : PySem.W.Frag} {mg : Str → Option Value} {base : Heap}
theorem scSigns : FnScope ["self"] ["self"] (defScope sSigns) := ⟨rfl, rfl, rfl, by decide +kernel, rfl, by decide +kernel, by decide +kernel⟩
theorem ok_signs {f C : Addr} {fd : FuncData} (F : Fun K "signs" "Language.signs" sSigns f fd) (T : LgC K C) : FnOk P w K mg base CX0 1 f fd ["self"] (spSigns C) := by
  refine F.ok scSigns (fun vs H Q E h => ?_) (fun cdv A0 outer s H vs Q E hr h => ?_)
  · obtain ⟨p, z, M, δ, found, live, rfl, _⟩ := h
    rfl
  · obtain ⟨p, z, M, δ, found, live, rfl, LA, k⟩ := h
    obtain ⟨dx, fs, L, rs, Me, Li, hp, h1, _⟩ := LA.ex
    refine ⟨_, pss_one (ps_ret (pe_fld (pv 0) rfl)), ?_⟩
    exact ⟨_, rfl, p, C, dx, _, _, rfl, hp, T.cl, T.nG, h1, k⟩
theorem scHasL : FnScope ["self", "value", "state", "sign"] ["self", "value"] (defScope sHasL) := ⟨rfl, rfl, rfl, by decide +kernel, rfl, by decide +kernel, by decide +kernel⟩
theorem ok_hasL {f C fW : Addr} {fd fdW : FuncData} (F : Fun K "__contains__" "Language.__contains__" sHasL f fd) (T : LgC K C) (aW : At K mg "is_word_of" fW fdW ["value", "signs"] []) (gW : FnOk P w K mg base CX0 2 fW fdW ["value", "signs"] (spWordOf K)) : FnOk P w K mg base CX0 3 f fd ["self", "value"] (spHasL K C) := by
  refine F.ok scHasL (fun vs H Q E h => ?_) (fun cdv A0 outer s H vs Q E hr h => ?_)
  · obtain ⟨p, x, z, M, δ, found, live, rfl, _⟩ := h
    rfl
  · obtain ⟨p, x, z, M, δ, found, live, rfl, LA, M0, lt, h⟩ := h
    obtain ⟨dx, fs, L, rs, Me, Li, hp, f1, f2, hL, lrs, hrs, f3, hMe, _⟩ := LA.ex
    have hu := hu_of hr
    refine ⟨_, pss_cons (ps_if (pt_not (pt_val (pe_call gW hr (by rfl) aW.g aW.kp aW.b .nil pass0 (pa_cons (pv 1) (pa_cons (pe_fld (pv 0) rfl) pa_nil))))) (pss_one (ps_ret pe_bl)) pss_nil)
      (pss_cons (ps_set (i := 2) scHasL.nd rfl (.inl rfl) pe_int)
      (pss_cons (ps_for PassesOwn.never rfl (pi_str (pv 1)) (pg_name (i := 3) scHasL.nd rfl (.inl rfl))
        (pss_one (ps_set (i := 2) scHasL.nd rfl (.inl rfl) (pe_dget hu (pe_ix ix_list (pe_fld (pv 0) rfl) (pv 2) (fun _ _ => rfl)) (pv 3) (fun _ _ => rfl)))))
      (pss_one (ps_ret (pe_cmpR op_in_seq (pv 2) (pe_fld (pv 0) rfl) (by rfl)))))), ?_⟩
    rcases h with ⟨y, rfl, hy, q⟩ | ⟨k, hk, ns, q⟩
    · refine ⟨_, rfl, _, rfl, p, C, dx, _, _, rfl, hp, T.cl, T.nG, f1, _, z, rfl, .inl ⟨y, rfl, hy, fun H1 x1 => ⟨_, rfl, ?_⟩⟩⟩
      have hw : ∀ i c, wordOf z y = true → y.cps[i]? = some c → (⟨#[c]⟩ : Str) ∈ sgL z := fun i c h hc => word_mem h hc
      generalize wordOf z y = bw at q hw ⊢
      cases bw with
      | false => exact q _ x1
      | true =>
        refine iteF ?_
        refine ⟨_, rfl, y, rfl, ?_⟩
        refine for_it (walk_str (z := y)) (fun i σ H' => ∃ v3, σ = [some (.ref p), some (.str y), some (.int (run δ 0 ((sgL y).take i) : Nat)), v3] ∧ H' = H1 ∧ run δ 0 ((sgL y).take i) < M) ⟨none, rfl, rfl, M0⟩ (fun _ _ _ _ _ => trivial) ?_ ?_
        · rintro i v σ H2 H3 hi ⟨v3, rfl, rfl, lM⟩ ⟨rfl, c, hc, rfl⟩
          have cm := hw i c rfl hc
          obtain ⟨r, hr⟩ : ∃ r, rs[run δ 0 ((sgL y).take i)]? = some r := ⟨_, List.getElem?_eq_getElem (by rw [lrs]; exact lM)⟩
          have hrow := x1 _ _ (hrs _ r hr)
          have g : DGet H3 r (.str ⟨#[c]⟩) (some (.int (δ (run δ 0 ((sgL y).take i)) ⟨#[c]⟩ : Nat))) := by
            have e : valV (rowD (sgL z) (δ (run δ 0 ((sgL y).take i)))) (keyC ⟨#[c]⟩) = some (.int (δ (run δ 0 ((sgL y).take i)) ⟨#[c]⟩ : Nat)) := row_val cm
            rw [← e]
            exact DGet.k (k := keyC ⟨#[c]⟩) hrow
          have er : run δ 0 ((sgL y).take (i + 1)) = δ (run δ 0 ((sgL y).take i)) ⟨#[c]⟩ := by
            rw [take_more (sgL_at hc)]
            unfold run
            rw [List.foldl_append]
            rfl
          refine ⟨_, rfl, p, C, dx, _, _, rfl, x1 _ _ hp, T.cl, T.nS, f2, _, rfl, L, _, _, _, rfl, rfl, SqL.of (x1 _ _ hL), atI_nat (by rw [List.getElem?_map, hr]; rfl), _, rfl, r, _, rfl, g, ?_⟩
          rw [← er]
          refine ⟨_, rfl, rfl, ?_⟩
          rw [er]
          exact lt _ lM _ cm
        · rintro σ H2 ⟨v3, rfl, rfl, lM⟩
          rw [← sgL_len, List.take_length]
          refine ⟨_, rfl, _, rfl, p, C, dx, _, _, rfl, x1 _ _ hp, T.cl, T.nM, f3, Me, _, rfl, .inr (SqT.of (x1 _ _ hMe)), rfl, flat_nats _, ?_⟩
          rw [if_neg Bool.false_ne_true, inV_nat]
          rw [Bool.true_and] at q
          exact q _ x1
    · refine ⟨_, rfl, _, rfl, p, C, dx, _, _, rfl, hp, T.cl, T.nG, f1, _, z, rfl, .inr ⟨k, hk, ns, _, rfl, ?_⟩⟩
      exact q
end
end Sl
/-! ## V17 -/
set_option Elab.async false
set_option linter.all false
set_option maxRecDepth 100000
set_option maxHeartbeats 4000000
set_option pp.maxSteps 1500
set_option pp.deepTerms false
/-! _law_abc: drawn signs -/
namespace Sl
open PySem PySem.Spec PyProof.Rows L2 TxS
open PySem.W TL in
theorem sgL_join : ∀ {ys : List Str}, (∀ z ∈ ys, ∃ c, z = ⟨#[c]⟩) → sgL (Txt.join "" ys) = ys := fun {ys} h => by
  have e : ∀ l : List (List Nat), joinL [] l = l.flatten := by
    intro l
    induction l with
    | nil => rfl
    | cons x l ih =>
      cases l with
      | nil => simp [joinL]
      | cons y r =>
        show x ++ ([] ++ joinL [] (y :: r)) = _
        rw [List.nil_append, ih]
        rfl
  have k : tl (Str.join ("" : Str) ys) = joinL (tl ("" : Str)) (ys.map tl) := tl_join "" ys
  have z : tl ("" : Str) = [] := rfl
  rw [join_eq]
  have k2 : (Str.join ("" : Str) ys).cps.toList = (ys.map tl).flatten := by
    have k : (Str.join ("" : Str) ys).cps.toList = joinL (tl ("" : Str)) (ys.map tl) := k
    rw [k, z, e]
  unfold sgL
  rw [k2]
  clear k k2
  induction ys with
  | nil => rfl
  | cons a ys ih =>
    obtain ⟨c, rfl⟩ := h a List.mem_cons_self
    rw [List.map_cons, List.flatten_cons, List.map_append, ih fun z hz => h z (List.mem_cons_of_mem _ hz)]
    rfl
theorem abc_sign {z : Str} (h : z ∈ abcL) : ∃ c, z = ⟨#[c]⟩ ∧ lowC c = true := by
  unfold abcL signsOf at h
  obtain ⟨c, hc, rfl⟩ := List.mem_map.mp h
  refine ⟨c, rfl, ?_⟩
  have : abc.cps.toList.all lowC = true := by decide +kernel
  exact List.all_eq_true.mp this c hc
theorem sg_of {ys : List Str} (h1 : 1 ≤ ys.length) (h4 : ys.length ≤ 4) (hs : sortedS ys = true) (nd : ys.Nodup) (ha : ∀ z ∈ ys, z ∈ abcL) : SgOk (Txt.join "" ys) ∧ sgL (Txt.join "" ys) = ys := by
  have e := sgL_join (ys := ys) fun z hz => let ⟨c, e, _⟩ := abc_sign (ha z hz); ⟨c, e⟩
  have l : (Txt.join "" ys).length = ys.length := by
    rw [← e, sgL_len]
    rw [e]
    rfl
  refine ⟨⟨?_, by omega, by omega, by rw [e]; exact hs, by rw [e]; exact nd⟩, e⟩
  unfold isWordS
  refine List.all_eq_true.mpr fun c hc => ?_
  have : (⟨#[c]⟩ : Str) ∈ sgL (Txt.join "" ys) := by
    unfold sgL
    exact List.mem_map.mpr ⟨c, hc, rfl⟩
  rw [e] at this
  obtain ⟨c', e', h'⟩ := abc_sign (ha _ this)
  injection e' with e'
  have : c = c' := by simpa using e'
  rw [this]
  exact h'
theorem sum_one : ∀ {ys : List Str}, (∀ z ∈ ys, z.length = 1) → (ys.map fun x => x.length).sum = ys.length
  | [], _ => rfl
  | y :: ys, h => by
    rw [List.map_cons, List.sum_cons, sum_one fun z hz => h z (List.mem_cons_of_mem _ hz), h y List.mem_cons_self, List.length_cons]
    omega
def spAbc : Sp := fun vs H Q _ => ∃ a : Addr, vs = [.ref a] ∧ Rng H a ∧ ∀ (H' : Hp) (z : Str), Rng H' a → Keep a H H' → SgOk z → (∀ c ∈ sgL z, c ∈ abcL) → Q (.str z) H'
end Sl
/-! ## V18 -/
set_option Elab.async false
set_option linter.all false
set_option maxRecDepth 100000
set_option maxHeartbeats 4000000
set_option pp.maxSteps 1500
set_option pp.deepTerms false
/-! _law_class: a drawn machine -/
namespace Sl
open PySem PySem.Spec PyProof.Rows L2 TxS
abbrev sClass : Stmt := top 52
abbrev scRow37 : Scope := lamSc (asgVal (nth (defBody sClass) 2)) (defScope sClass)
def rDictPr (K : PySem.W.Frag) : List V → Hp → VK → Prop := fun xs H Q => ∃ (a : Addr) (ps : List Addr) (kvs : List (Key × V)), xs = [.ref a] ∧ SqL K H a (ps.map V.ref) ∧ Paired (fun p kv => SqT K H p [kV kv.1, kv.2]) ps kvs ∧ ∀ p, H p = none → Q (.ref p) (upd H p (.dK (mergeK [] kvs)))
theorem cr_dictPr {X : Cx} (hc : X.calm = true) : CallR X (.type "dict") (rDictPr X.K) := call_dictP hc
/-- the law's machine at t -/
structure MacAt (H : Hp) (t : Addr) (z : Str) (R E : Addr) (rs : List Addr) (δ : Nat → Str → Nat) (mem : List Nat) : Prop where
  t : H t = some (.tup [.str z, .ref R, .ref E])
  r : H R = some (.lst (rs.map V.ref))
  rows : RowsD H rs (sgL z) δ
  e : H E = some (.lst (mem.map fun n => V.int (n : Nat)))
structure MacOk (sg : List Str) (N : Nat) (δ : Nat → Str → Nat) (mem : List Nat) (cap : Nat) : Prop where
  pos : 0 < N
  le : N ≤ cap
  lt : ∀ n, n < N → ∀ c ∈ sg, δ n c < N
  nd : mem.Nodup
  ml : ∀ n ∈ mem, n < N
def spClass : Sp := fun vs H Q _ => ∃ (a : Addr) (cap : Nat) (z : Str), vs = [.ref a, .int cap, .str z] ∧ Rng H a ∧ 0 < cap ∧ cap ≤ 100 ∧ (sgL z).Nodup ∧ (sgL z).length ≤ 100 ∧
  ∀ (H' : Hp) (t R E : Addr) (rs : List Addr) (δ : Nat → Str → Nat) (mem : List Nat), Rng H' a → Keep a H H' → H R = none → H E = none → H t = none → MacAt H' t z R E rs δ mem → MacOk (sgL z) rs.length δ mem cap → Q (.ref t) H'
theorem merge_row {d : Str → Nat} : ∀ {sg : List Str} {sg0 : List Str}, (sg0 ++ sg).Nodup → mergeK (rowD sg0 d) (rowD sg d) = rowD (sg0 ++ sg) d
  | [], sg0, _ => by rw [List.append_nil]; rfl
  | c :: sg, sg0, nd => by
    have nc : valV (rowD sg0 d) (keyC c) = none := by
      cases e : valV (rowD sg0 d) (keyC c) with
      | none => rfl
      | some v =>
        exfalso
        obtain ⟨kv, hm, hk⟩ := List.mem_map.mp (valV_in e)
        obtain ⟨c2, hm2, rfl⟩ := List.mem_map.mp hm
        have hk : keyC c2 = keyC c := hk
        unfold keyC at hk
        injection hk with hk
        exact (List.nodup_append.mp nd).2.2 c2 hm2 c (by simp) hk
    have e : mergeK (rowD sg0 d) (rowD (c :: sg) d) = mergeK (putK (rowD sg0 d) (keyC c) (.int (d c : Nat))) (rowD sg d) := rfl
    have e2 : rowD sg0 d ++ [(keyC c, V.int (d c : Nat))] = rowD (sg0 ++ [c]) d := by
      unfold rowD
      rw [List.map_append]
      rfl
    rw [e, putK_new _ nc, e2, merge_row (by rw [List.append_assoc]; exact nd), List.append_assoc]
    rfl
theorem merge_row0 {d : Str → Nat} {sg : List Str} (nd : sg.Nodup) : mergeK [] (rowD sg d) = rowD sg d := merge_row (sg0 := []) nd
theorem row_same {d e : Str → Nat} {sg : List Str} (h : ∀ c ∈ sg, d c = e c) : rowD sg d = rowD sg e := List.map_congr_left fun c hc => by rw [h c hc]
abbrev nClass : List Str := ["_law_rng_here", "_law_cap", "_law_abc", "_law_many", "_law_rows", "_law_letter", "_law_spot"]
section
variable {P : Program} {w : World} {K : PySem.W.Frag} {mg : Str → Option Value} {base : Heap}
theorem scClass : FnScope nClass ["_law_rng_here", "_law_cap", "_law_abc"] (defScope sClass) := ⟨rfl, rfl, rfl, by decide +kernel, rfl, by decide +kernel, by decide +kernel⟩
theorem ok_class {f fD : Addr} {fd fdD : FuncData} (F : Fun K "_law_class" "_law_class" sClass f fd) (aD : At K mg "_law_draw" fD fdD ["_law_rng_here", "_law_many"] []) (gD : FnOk P w K mg base CX0 1 fD fdD ["_law_rng_here", "_law_many"] spDraw)
    (zd : mg "dict" = none) (zr : mg "range" = none) : FnOk P w K mg base CX0 2 f fd ["_law_rng_here", "_law_cap", "_law_abc"] spClass := by
  refine F.ok scClass (fun vs H Q E h => ?_) (fun cdv A0 outer s H vs Q E hr h => ?_)
  · obtain ⟨a, cap, z, rfl, _⟩ := h
    rfl
  · obtain ⟨a, cap, z, rfl, hR, c0, c100, ndg, lg, k⟩ := h
    refine ⟨_, pss_cons (ps_if (pt_cmpR op_eq (pe_call gD hr (by rfl) aD.g aD.kp aD.b .nil pass0 (pa_cons (pe_var (i := 0) rfl (.inr (.inl rfl))) (pa_cons pe_int pa_nil))) pe_int (nomark _))
        (pss_one (ps_ret (pe_tup (pa_cons (pe_var (i := 2) rfl (.inr (.inl rfl))) (pa_cons (pe_lst (pa_cons (pe_callTy (T := "dict") (r := rDictPr K) (cr_dictPr rfl) (by rfl) zd (by decide +kernel) (pa_cons
          (pe_lc (own := [("_law_letter", 5)]) (g := gName 5) (tt := tYes) (te := tTup (tCons (tVar 5) (tCons (tC (.int 0)) tNil))) rfl scClass.nd (pi_str (pe_var (i := 2) rfl (.inr (.inl rfl)))) (blkOk_by (N := nClass) (sc := defScope sClass) (by decide +kernel))
            (fun _ _ _ _ _ => pg_name (i := 5) scClass.nd rfl (Or.inl rfl)) (fun _ _ _ _ _ => pts_nil) (fun _ _ _ _ _ => pe_tup (pa_cons (pv 5) (pa_cons pe_int pa_nil)))) pa_nil)) pa_nil)) (pa_cons (pe_lst (pa_cons pe_int pa_nil)) pa_nil)))))) pss_nil)
      (pss_cons (ps_set (i := 3) scClass.nd rfl (.inr rfl) (pe_op op_add pe_int (pe_call gD hr (by rfl) aD.g aD.kp aD.b .nil pass0 (pa_cons (pe_var (i := 0) rfl (.inr (.inl rfl))) (pa_cons (pv 1) pa_nil)))))
      (pss_cons (ps_setLc (i := 4) (own := [("_law_spot", 6)]) (g := gName 6) (tt := tYes) (te := tCB (rDictPr K) (tCons (tLc (iStr (tVar 2)) (gName 5) tYes (tTup (tCons (tVar 5) (tCons (tCall spDraw [] (fun _ _ _ => False) (tCons (tVar 0) (tCons (tVar 3) tNil))) tNil))) [5]) tNil)) rfl scClass.nd rfl rfl (sw_true rfl rfl rfl (by decide +kernel)) (pi_range1 rfl zr (pa_cons (pe_var (i := 3) rfl (.inr (.inl rfl))) pa_nil)) (blkOk_by (N := nClass) (sc := defScope sClass) (by decide +kernel))
          (fun _ _ _ _ _ => pg_name (i := 6) scClass.nd rfl (Or.inl rfl)) (fun _ _ _ _ _ => pts_nil)
          (fun _ _ _ _ _ => pe_callTy (T := "dict") (r := rDictPr K) (cr_dictPr rfl) (by rfl) zd (by decide +kernel) (pa_cons
            (pe_lc (own := [("_law_letter", 5)]) (g := gName 5) (tt := tYes) rfl scClass.nd (pi_str (pe_var (i := 2) rfl (.inr (.inl rfl)))) (blkOk_by (N := nClass) (sc := relS scRow37 (defScope sClass)) (by decide +kernel))
              (fun _ _ _ _ _ => pg_name (i := 5) scClass.nd rfl (Or.inl rfl)) (fun _ _ _ _ _ => pts_nil)
              (fun _ _ _ _ _ => pe_tup (pa_cons (pv 5) (pa_cons (pe_call gD hr (by rfl) aD.g aD.kp aD.b .nil pass0 (pa_cons (pe_var (i := 0) rfl (.inr (.inl rfl))) (pa_cons (pe_var (i := 3) rfl (.inr (.inl rfl))) pa_nil))) pa_nil)))) pa_nil)))
      (pss_one (ps_ret (pe_tup (pa_cons (pe_var (i := 2) rfl (.inr (.inl rfl))) (pa_cons (pv 4) (pa_cons (pe_lc (own := [("_law_spot", 6)]) (g := gName 6) (tt := tTest (tOp rEq (tCall spDraw [] (fun _ _ _ => False) (tCons (tVar 0) (tCons (tC (.int 2)) tNil))) (tC (.int 0)))) (te := tVar 6) rfl scClass.nd (pi_range1 rfl zr (pa_cons (pe_var (i := 3) rfl (.inr (.inl rfl))) pa_nil)) (blkOk_by (N := nClass) (sc := defScope sClass) (by decide +kernel))
          (fun _ _ _ _ _ => pg_name (i := 6) scClass.nd rfl (Or.inl rfl)) (fun _ _ _ _ _ => pts_one (pt_cmpR op_eq (pe_call gD hr (by rfl) aD.g aD.kp aD.b .nil pass0 (pa_cons (pe_var (i := 0) rfl (.inr (.inl rfl))) (pa_cons pe_int pa_nil))) pe_int (nomark _))) (fun _ _ _ _ _ => pv 6)) pa_nil)))))))), ?_⟩
    refine ⟨_, rfl, a, 3, rfl, hR, by decide, by decide, fun d H1 d0 d3 hR1 kp1 => ?_⟩
    have sz1 : (1 : Nat) ≤ sizeLine := by decide
    have sz2 : (2 : Nat) ≤ sizeLine := by decide
    have sz3 : (3 : Nat) ≤ sizeLine := by decide
    have zl : z.cps.size = (sgL z).length := (sgL_len z).symm
    refine ⟨rfl, _, rfl, ?_⟩
    by_cases hd : d = 0
    · rw [decide_eq_true (show V.int d = V.int 0 by rw [hd])]
      refine iteT ?_
      refine ⟨_, rfl, _, rfl, z, rfl, fun D nD => ?_⟩
      refine lc_it (walk_str (z := z)) (fun j H' => Ext H1 H' ∧ ∃ ts : List Addr, H' D = some (.lst (ts.map V.ref)) ∧ Paired (fun (t : Addr) (q : Key × V) => H' t = some (.tup [kV q.1, q.2])) ts (rowD ((sgL z).take j) fun _ => 0)) ⟨Ext.new nD, [], upd_same, .nil⟩ (fun _ _ _ _ => trivial) ?_ ?_
      · rintro j v H6 H7 hj ⟨x6, ts, hD, hts⟩ ⟨rfl, c, hc, rfl⟩
        have hsg := sgL_at hc
        have lt : ts.length ≤ 100 := by
          have := Paired.length hts
          unfold rowD at this
          rw [List.length_map, List.length_take] at this
          omega
        refine ⟨rfl, ?_⟩
        dsimp only [tYes]
        rw [if_pos rfl]
        refine ⟨_, rfl, sz2, fun t nt => ?_⟩
        have xt := Ext.new nt (o := .tup [V.str ⟨#[c]⟩, V.int 0])
        have ht : (upd H7 t (.tup [V.str ⟨#[c]⟩, V.int 0])) t = some (.tup [V.str ⟨#[c]⟩, V.int 0]) := upd_same
        generalize upd H7 t (.tup [V.str ⟨#[c]⟩, V.int 0]) = H8 at xt ht ⊢
        have hD8 := xt _ _ hD
        have kp : ∀ a xs, H8 a = some (.tup xs) → (upd H8 D (.lst (ts.map V.ref ++ [.ref t]))) a = some (.tup xs) := fun a xs h => by
          rw [upd_ne (ne_of h hD8 (by intro z; cases z))]
          exact h
        refine ⟨_, hD8, by rw [List.length_map]; exact small1000 (by omega), fun a o e => ?_, ts ++ [t], ?_, ?_⟩
        · rw [upd_ne (ne_of_none e nD)]
          exact xt _ _ (x6 _ _ e)
        · rw [upd_same, List.map_append]
          rfl
        · rw [take_more hsg]
          unfold rowD
          rw [List.map_append]
          exact Paired.snoc (Paired.mapP hts fun p q h => kp _ _ (xt _ _ h)) (kp _ _ ht)
      rintro H6 ⟨x6, ts, hD, hts⟩
      rw [zl, List.take_length] at hts
      refine ⟨D, ts, _, rfl, SqL.of hD, Paired.mapP hts fun p q h => SqT.of h, fun r nr => ?_⟩
      rw [merge_row0 ndg]
      refine ⟨sz1, fun R nR => ⟨sz1, fun E1 nE => ⟨sz3, fun t nt => ?_⟩⟩⟩
      have xr := Ext.new nr (o := .dK (rowD (sgL z) fun _ => 0))
      have xR := Ext.new nR (o := .lst [V.ref r])
      have xE := Ext.new nE (o := .lst [V.int 0])
      have xt := Ext.new nt (o := .tup [V.str z, V.ref R, V.ref E1])
      have x2 := ((xr.trans xR).trans xE).trans xt
      have xx : Ext H1 _ := x6.trans x2
      have f1 : ∀ b, H1 b = none → H b = none := fun b e => kp1.free (H' := H1) (a := a) (o := _) (hR1.ex.choose_spec.choose_spec.1) e
      refine k _ t R E1 [r] (fun _ _ => 0) [0] (hR1.ext xx) (kp1.trans (Keep.of xx)) (f1 _ (x6.free (xr.free nR))) (f1 _ (x6.free (xr.free (xR.free nE)))) (f1 _ (x6.free (xr.free (xR.free (xE.free nt))))) ⟨upd_same, ?_, fun i q e => ?_, ?_⟩ ⟨by show 0 < 1; decide, c0, fun _ _ _ _ => by show 0 < 1; decide, by simp, fun n hn => by rw [List.mem_singleton.mp hn]; show 0 < 1; decide⟩
      · exact xt _ _ (xE _ _ upd_same)
      · cases i with
        | zero =>
          obtain rfl := Option.some.inj e
          exact xt _ _ (xE _ _ (xR _ _ upd_same))
        | succ i => cases e
      · exact xt _ _ upd_same
    · rw [decide_eq_false (show ¬ V.int d = V.int 0 from fun e => hd (by injection e))]
      refine iteF ?_
      refine ⟨_, rfl, _, rfl, a, cap, rfl, hR1, by omega, by omega, fun d2 H2 d20 d2c hR2 kp2 => ?_⟩
      obtain ⟨m, rfl⟩ := Int.eq_ofNat_of_zero_le d20
      refine ⟨_, _, rfl, rfl, ?_⟩
      dsimp only
      rw [show (1 + (m : Int)) = ((m + 1 : Nat) : Int) by omega]
      have N0 : 0 < m + 1 := by omega
      have Nc : m + 1 ≤ cap := by omega
      generalize m + 1 = N at N0 Nc ⊢
      clear d20 d2c m d0 d3 hd
      have kp02 := kp1.trans kp2
      -- the rows
      refine ⟨_, rfl, (N : Int), rfl, by omega, by omega, fun R nR => ?_⟩
      rw [show ((N : Int)).toNat = N by omega]
      have nRa : a ≠ R := by
        obtain ⟨x, y, e, _⟩ := hR2.ex
        exact ne_of_none e nR
      refine lc_it (walk_range (lo := 0) (n := N)) (fun i H' => Rng H' a ∧ Keep a H2 H' ∧ ∃ (rs : List Addr) (δ : Nat → Str → Nat), rs.length = i ∧ H' R = some (.lst (rs.map V.ref)) ∧ RowsD H' rs (sgL z) δ ∧ ∀ n, n < i → ∀ c ∈ sgL z, δ n c < N)
        ⟨hR2.ext (Ext.new nR), Keep.of (Ext.new nR), [], fun _ _ => 0, rfl, upd_same, fun i r e => (by cases i <;> cases e), fun n hn => absurd hn (Nat.not_lt_zero _)⟩ (fun _ _ _ _ => trivial) ?_ ?_
      · rintro i v H3 H4 hi ⟨hR3, kp3, rs, δ, lrs, hRr, hrs, hlt⟩ ⟨rfl, rfl⟩
        refine ⟨rfl, ?_⟩
        dsimp only [tYes]
        rw [if_pos rfl]
        refine ⟨_, rfl, z, rfl, fun D nD => ?_⟩
        have nDa : a ≠ D := by
          obtain ⟨x, y, e, _⟩ := hR3.ex
          exact ne_of_none e nD
        refine lc_it (walk_str (z := z)) (fun j H' => Rng H' a ∧ Keep a H4 H' ∧ ∃ (ts : List Addr) (d : Str → Nat), H' D = some (.lst (ts.map V.ref)) ∧ Paired (fun (t : Addr) (q : Key × V) => H' t = some (.tup [kV q.1, q.2])) ts (rowD ((sgL z).take j) d) ∧ ∀ c ∈ (sgL z).take j, d c < N)
          ⟨hR3.ext (Ext.new nD), Keep.of (Ext.new nD), [], fun _ => 0, upd_same, .nil, fun c hc => absurd hc List.not_mem_nil⟩ (fun _ _ _ _ => trivial) ?_ ?_
        · rintro j v H6 H7 hj ⟨hR6, kp6, ts, d, hD, hts, hdl⟩ ⟨rfl, c, hc, rfl⟩
          have hsg := sgL_at hc
          have lt : ts.length ≤ 100 := by
            have := Paired.length hts
            unfold rowD at this
            rw [List.length_map, List.length_take] at this
            omega
          refine ⟨rfl, ?_⟩
          dsimp only [tYes]
          rw [if_pos rfl]
          refine ⟨_, rfl, _, rfl, _, rfl, a, N, rfl, hR6, by omega, by omega, fun d2 H8 d20 d2N hR8 kp8 => ?_⟩
          obtain ⟨m, rfl⟩ := Int.eq_ofNat_of_zero_le d20
          refine ⟨sz2, fun t nt => ?_⟩
          have xt := Ext.new nt (o := .tup [V.str ⟨#[c]⟩, V.int (m : Nat)])
          have ht : (upd H8 t (.tup [V.str ⟨#[c]⟩, V.int (m : Nat)])) t = some (.tup [V.str ⟨#[c]⟩, V.int (m : Nat)]) := upd_same
          have hD8 := xt _ _ (kp8 _ _ hD nDa.symm)
          have nta : ∀ t xs, H7 t = some (.tup xs) → t ≠ a := fun t xs h => by
            obtain ⟨x, y, e, _⟩ := hR6.ex
            exact ne_of h e (by intro z; cases z)
          show ∃ acc, (upd H8 t (.tup [V.str ⟨#[c]⟩, V.int (m : Nat)])) D = some (.lst acc) ∧ acc.length < sizeLine ∧ _
          have R9 := hR8.ext xt
          have k9 := (kp6.trans kp8).trans (Keep.of xt)
          have t9 : ∀ q xs, H7 q = some (.tup xs) → (upd H8 t (.tup [V.str ⟨#[c]⟩, V.int (m : Nat)])) q = some (.tup xs) := fun q xs h => xt _ _ (kp8 _ _ h (nta _ _ h))
          generalize upd H8 t (.tup [V.str ⟨#[c]⟩, V.int (m : Nat)]) = H9 at ht hD8 R9 k9 t9 ⊢
          have kp : ∀ a xs, H9 a = some (.tup xs) → (upd H9 D (.lst (ts.map V.ref ++ [.ref t]))) a = some (.tup xs) := fun a xs h => by
            rw [upd_ne (ne_of h hD8 (by intro z; cases z))]
            exact h
          have cnew : ∀ c' ∈ (sgL z).take j, c' ≠ ⟨#[c]⟩ := fun c' hc' e => by
            have h1 : ((sgL z).take (j + 1)).Nodup := ndg.sublist (List.take_sublist _ _)
            rw [take_more hsg] at h1
            exact (List.nodup_append.mp h1).2.2 c' hc' ⟨#[c]⟩ (by simp) e
          refine ⟨_, hD8, by rw [List.length_map]; exact small1000 (by omega), ?_, fun b o e n => ?_, ts ++ [t], fun x => if x = ⟨#[c]⟩ then m else d x, ?_, ?_, fun c' hc' => ?_⟩
          · obtain ⟨x, y, e, r⟩ := R9.ex
            exact ⟨x, y, by rw [upd_ne nDa]; exact e, r⟩
          · rw [upd_ne (ne_of_none e nD)]
            exact k9 _ _ e n
          · rw [upd_same, List.map_append]
            rfl
          · rw [take_more hsg]
            have e : rowD ((sgL z).take j ++ [⟨#[c]⟩]) (fun x => if x = ⟨#[c]⟩ then m else d x) = rowD ((sgL z).take j) d ++ [(keyC ⟨#[c]⟩, V.int (m : Nat))] := by
              have e1 := row_same (sg := (sgL z).take j) (d := fun x => if x = ⟨#[c]⟩ then m else d x) (e := d) fun c' hc' => if_neg (cnew c' hc')
              rw [← e1]
              unfold rowD
              rw [List.map_append]
              simp
            rw [e]
            exact Paired.snoc (Paired.mapP hts fun p q h => kp _ _ (t9 _ _ h)) (kp _ _ ht)
          · rw [take_more hsg] at hc'
            dsimp only
            by_cases e : c' = ⟨#[c]⟩
            · rw [if_pos e]
              omega
            · rw [if_neg e]
              rcases List.mem_append.mp hc' with h | h
              · exact hdl c' h
              · exact absurd (List.mem_singleton.mp h) e
        · rintro H6 ⟨hR6, kp6, ts, d, hD, hts, hdl⟩
          rw [zl, List.take_length] at hts hdl
          refine ⟨D, ts, _, rfl, SqL.of hD, Paired.mapP hts fun p q h => SqT.of h, fun r nr => ?_⟩
          rw [merge_row0 ndg]
          have xr := Ext.new nr (o := .dK (rowD (sgL z) d))
          have hr7 : (upd H6 r (.dK (rowD (sgL z) d))) r = some (.dK (rowD (sgL z) d)) := upd_same
          have hRr7 := xr _ _ (kp6 _ _ hRr nRa.symm)
          have R7 := hR6.ext xr
          have k7 := (kp3.trans kp6).trans (Keep.of xr)
          have row7 : ∀ q kvs, H4 q = some (.dK kvs) → (upd H6 r (.dK (rowD (sgL z) d))) q = some (.dK kvs) := fun q kvs h => xr _ _ (kp6 _ _ h (by
            obtain ⟨x, y, e, _⟩ := hR3.ex
            exact ne_of h e (by intro z; cases z)))
          generalize upd H6 r (.dK (rowD (sgL z) d)) = H7 at hr7 hRr7 R7 k7 row7 ⊢
          have kd : ∀ q kvs, H7 q = some (.dK kvs) → (upd H7 R (.lst (rs.map V.ref ++ [.ref r]))) q = some (.dK kvs) := fun q kvs h => by
            rw [upd_ne (ne_of h hRr7 (by intro z; cases z))]
            exact h
          refine ⟨_, hRr7, by rw [List.length_map]; exact small1000 (by omega), ?_, fun b o e n => ?_, rs ++ [r], fun n => if n = i then d else δ n, by rw [List.length_append, lrs]; rfl, ?_, fun n q e => ?_, fun n hn c hc => ?_⟩
          · obtain ⟨x, y, e, q⟩ := R7.ex
            exact ⟨x, y, by rw [upd_ne nRa]; exact e, q⟩
          · rw [upd_ne (ne_of_none e nR)]
            exact k7 _ _ e n
          · rw [upd_same, List.map_append]
            rfl
          · dsimp only
            by_cases cj : n < rs.length
            · rw [List.getElem?_append_left cj] at e
              rw [if_neg (by omega)]
              exact kd _ _ (row7 _ _ (hrs n q e))
            · have hlt := (List.getElem?_eq_some_iff.mp e).1
              rw [List.length_append] at hlt
              have hlt : n < rs.length + 1 := hlt
              obtain rfl : n = rs.length := by omega
              rw [List.getElem?_append_right (Nat.le_refl _), Nat.sub_self] at e
              obtain rfl := Option.some.inj e
              rw [if_pos lrs]
              exact kd _ _ hr7
          · dsimp only
            by_cases e : n = i
            · rw [if_pos e]
              exact hdl c hc
            · rw [if_neg e]
              exact hlt n (by omega) c hc
      rintro H3 ⟨hR3, kp3, rs, δ, lrs, hRr, hrs, hlt⟩
      refine ⟨_, rfl, _, rfl, _, rfl, (N : Int), rfl, by omega, by omega, fun Em nE => ?_⟩
      rw [show ((N : Int)).toNat = N by omega]
      have nEa : a ≠ Em := by
        obtain ⟨x, y, e, _⟩ := hR3.ex
        exact ne_of_none e nE
      refine lc_it (walk_range (lo := 0) (n := N)) (fun i H' => Rng H' a ∧ Keep a H3 H' ∧ ∃ mem : List Nat, H' Em = some (.lst (mem.map fun n => V.int (n : Nat))) ∧ mem.Nodup ∧ mem.length ≤ i ∧ ∀ n ∈ mem, n < i) ⟨hR3.ext (Ext.new nE), Keep.of (Ext.new nE), [], upd_same, List.nodup_nil, Nat.le_refl _, fun n hn => absurd hn List.not_mem_nil⟩ (fun _ _ _ _ => trivial) ?_ ?_
      · rintro i v H6 H7 hi ⟨hR6, kp6, mem, hE, nd, ml, mlt⟩ ⟨rfl, rfl⟩
        refine ⟨rfl, ?_⟩
        refine ⟨_, rfl, a, 2, rfl, hR6, by decide, by decide, fun d2 H8 d20 d22 hR8 kp8 => ⟨rfl, _, rfl, ?_⟩⟩
        have hE8 := kp8 _ _ hE nEa.symm
        by_cases h0 : d2 = 0
        · rw [decide_eq_true (show V.int d2 = V.int 0 by rw [h0])]
          dsimp only
          rw [if_pos rfl]
          refine ⟨_, rfl, _, hE8, by rw [List.length_map]; exact small1000 (by omega), ?_, fun b o e n => ?_, mem ++ [i], ?_, ?_, by rw [List.length_append]; show mem.length + 1 ≤ i + 1; omega, fun n hn => ?_⟩
          · obtain ⟨x, y, e, q⟩ := hR8.ex
            exact ⟨x, y, by rw [upd_ne nEa]; exact e, q⟩
          · rw [upd_ne (ne_of_none e nE)]
            exact kp8 _ _ (kp6 _ _ e n) n
          · rw [upd_same, List.map_append]
            show some (HO.lst (_ ++ [V.int (0 + (i : Int))])) = _
            rw [Int.zero_add]
            rfl
          · exact List.nodup_append.mpr ⟨nd, by simp, fun x hx y hy e => by
              rw [List.mem_singleton.mp hy] at e
              have := mlt x hx
              omega⟩
          · rcases List.mem_append.mp hn with h | h
            · have := mlt n h
              omega
            · rw [List.mem_singleton.mp h]
              omega
        · rw [decide_eq_false (show ¬ V.int d2 = V.int 0 from fun e => h0 (by injection e))]
          dsimp only
          rw [if_neg Bool.false_ne_true]
          exact ⟨hR8, kp6.trans kp8, mem, hE8, nd, by omega, fun n hn => by have := mlt n hn; omega⟩
      rintro H6 ⟨hR6, kp6, mem, hE, nd, ml, mlt⟩
      refine ⟨sz3, fun t nt => ?_⟩
      have xt := Ext.new nt (o := .tup [V.str z, V.ref R, V.ref Em])
      have fr : ∀ {G G' : Hp} {q : Addr}, Keep a G G' → Rng G' a → G' q = none → G q = none := fun kp r n => by
        obtain ⟨x, y, e, _⟩ := r.ex
        exact kp.free e n
      have hRa : ∀ q kvs, H3 q = some (.dK kvs) → H6 q = some (.dK kvs) := fun q kvs h => kp6 _ _ h (by
        obtain ⟨x, y, e, _⟩ := hR3.ex
        exact ne_of h e (by intro z; cases z))
      refine k _ t R Em rs δ mem (hR6.ext xt) (((kp02.trans kp3).trans kp6).trans (Keep.of xt)) (fr kp02 hR2 nR) (fr kp02 hR2 (fr kp3 hR3 nE)) (fr kp02 hR2 (fr kp3 hR3 (fr kp6 hR6 nt))) ⟨upd_same, xt _ _ (kp6 _ _ hRr nRa.symm), fun i q e => xt _ _ (hRa _ _ (hrs i q e)), xt _ _ hE⟩ ⟨by omega, by omega, fun n hn c hc => by rw [lrs] at hn ⊢; exact hlt n hn c hc, nd, fun n hn => by rw [lrs]; exact mlt n hn⟩
end
end Sl
/-! ## V19 -/
set_option Elab.async false
set_option linter.all false
set_option maxRecDepth 100000
set_option maxHeartbeats 4000000
set_option pp.maxSteps 1500
set_option pp.deepTerms false
/-! _law_belongs, _law_live -/
namespace Sl
open PySem PySem.Spec PyProof.Rows L2 TxS
abbrev sBelongs : Stmt := top 53
def spBelongs : Sp := fun vs H Q _ => ∃ (t : Addr) (y z : Str) (R E : Addr) (rs : List Addr) (δ : Nat → Str → Nat) (mem : List Nat) (cap : Nat), vs = [.ref t, .str y] ∧ MacAt H t z R E rs δ mem ∧ MacOk (sgL z) rs.length δ mem cap ∧ (∀ c ∈ sgL y, c ∈ sgL z) ∧ Q (.bl (decide (run δ 0 (sgL y) ∈ mem))) H
section
variable {P : Program} {w : World} {K : PySem.W.Frag} {mg : Str → Option Value} {base : Heap}
theorem scBelongs : FnScope ["_law_machine", "_law_note", "_law_spot", "_law_letter"] ["_law_machine", "_law_note"] (defScope sBelongs) := ⟨rfl, rfl, rfl, by decide +kernel, rfl, by decide +kernel, by decide +kernel⟩
theorem ok_belongs {f : Addr} {fd : FuncData} (F : Fun K "_law_belongs" "_law_belongs" sBelongs f fd) : FnOk P w K mg base CX0 1 f fd ["_law_machine", "_law_note"] spBelongs := by
  refine F.ok scBelongs (fun vs H Q E h => ?_) (fun cdv A0 outer s H vs Q E hr h => ?_)
  · obtain ⟨t, y, z, R, E1, rs, δ, mem, cap, rfl, _⟩ := h
    rfl
  · obtain ⟨t, y, z, R, E1, rs, δ, mem, cap, rfl, MA, MO, hy, q⟩ := h
    have hu := hu_of hr
    refine ⟨_, pss_cons (ps_set (i := 2) scBelongs.nd rfl (.inl rfl) pe_int)
      (pss_cons (ps_for PassesOwn.never rfl (pi_str (pv 1)) (pg_name (i := 3) scBelongs.nd rfl (.inl rfl))
        (pss_one (ps_set (i := 2) scBelongs.nd rfl (.inl rfl) (pe_dget hu (pe_ix ix_list (pe_ix ix_tup (pv 0) pe_int (fun _ _ => rfl)) (pv 2) (fun _ _ => rfl)) (pv 3) (fun _ _ => rfl)))))
      (pss_one (ps_ret (pe_cmpR op_in_seq (pv 2) (pe_ix ix_tup (pv 0) pe_int (fun _ _ => rfl)) (by rfl))))), ?_⟩
    refine ⟨_, rfl, y, rfl, ?_⟩
    refine for_it (walk_str (z := y)) (fun i σ H' => ∃ v3, σ = [some (.ref t), some (.str y), some (.int (run δ 0 ((sgL y).take i) : Nat)), v3] ∧ H' = H ∧ run δ 0 ((sgL y).take i) < rs.length) ⟨none, rfl, rfl, MO.pos⟩ (fun _ _ _ _ _ => trivial) ?_ ?_
    · rintro i v σ H2 H3 hi ⟨v3, rfl, rfl, lM⟩ ⟨rfl, c, hc, rfl⟩
      have cm := hy _ (List.mem_of_getElem? (sgL_at hc))
      obtain ⟨r, hr⟩ : ∃ r, rs[run δ 0 ((sgL y).take i)]? = some r := ⟨_, List.getElem?_eq_getElem lM⟩
      have g : DGet H3 r (.str ⟨#[c]⟩) (some (.int (δ (run δ 0 ((sgL y).take i)) ⟨#[c]⟩ : Nat))) := by
        have e : valV (rowD (sgL z) (δ (run δ 0 ((sgL y).take i)))) (keyC ⟨#[c]⟩) = some (.int (δ (run δ 0 ((sgL y).take i)) ⟨#[c]⟩ : Nat)) := row_val cm
        rw [← e]
        exact DGet.k (k := keyC ⟨#[c]⟩) (MA.rows _ r hr)
      have er : run δ 0 ((sgL y).take (i + 1)) = δ (run δ 0 ((sgL y).take i)) ⟨#[c]⟩ := by
        rw [take_more (sgL_at hc)]
        unfold run
        rw [List.foldl_append]
        rfl
      refine ⟨_, rfl, t, _, 1, _, rfl, rfl, SqT.of MA.t, rfl, _, rfl, R, _, _, _, rfl, rfl, SqL.of MA.r, atI_nat (by rw [List.getElem?_map, hr]; rfl), _, rfl, r, _, rfl, g, ?_⟩
      rw [← er]
      refine ⟨_, rfl, rfl, ?_⟩
      rw [er]
      exact MO.lt _ lM _ cm
    · rintro σ H2 ⟨v3, rfl, rfl, lM⟩
      rw [← sgL_len, List.take_length]
      refine ⟨_, rfl, _, rfl, t, _, 2, _, rfl, rfl, SqT.of MA.t, rfl, E1, _, rfl, .inl (SqL.of MA.e), rfl, flat_nats _, ?_⟩
      rw [if_neg Bool.false_ne_true, inV_nat]
      exact q
end
end Sl
/-! ## V20 -/
set_option Elab.async false
set_option linter.all false
set_option maxRecDepth 100000
set_option maxHeartbeats 4000000
set_option pp.maxSteps 1500
set_option pp.deepTerms false
/-! _law_texts, all texts told -/
namespace Sl
open PySem PySem.Spec PyProof.Rows L2 TxS
theorem Rng.new {H : Hp} {a p : Addr} (r : Rng H a) (n : H p = none) : p ≠ a := fun e => by
  obtain ⟨x, y, h, _⟩ := r.ex
  rw [e, h] at n
  cases n
abbrev sTexts : Stmt := top 54
/-- the words of k signs, those of at most k -/
def levW (sg : List Str) : Nat → List (List Str)
  | 0 => [[]]
  | k + 1 => (levW sg k).flatMap fun w => sg.map fun c => w ++ [c]
def allW (sg : List Str) : Nat → List (List Str)
  | 0 => [[]]
  | k + 1 => allW sg k ++ levW sg (k + 1)
theorem levW_mem {sg : List Str} : ∀ {k : Nat} {w : List Str}, w ∈ levW sg k ↔ w.length = k ∧ ∀ c ∈ w, c ∈ sg
  | 0, w => by
    unfold levW
    rw [List.mem_singleton]
    constructor
    · rintro rfl
      exact ⟨rfl, by simp⟩
    · rintro ⟨h, _⟩
      exact List.eq_nil_of_length_eq_zero h
  | k + 1, w => by
    unfold levW
    rw [List.mem_flatMap]
    constructor
    · rintro ⟨v, hv, hw⟩
      obtain ⟨c, hc, rfl⟩ := List.mem_map.mp hw
      obtain ⟨h1, h2⟩ := levW_mem.mp hv
      refine ⟨by rw [List.length_append, h1]; rfl, fun c' h' => ?_⟩
      rcases List.mem_append.mp h' with h | h
      · exact h2 c' h
      · rw [List.mem_singleton.mp h]
        exact hc
    · rintro ⟨h1, h2⟩
      rcases List.eq_nil_or_concat w with rfl | ⟨v, c, rfl⟩
      · cases h1
      · rw [List.concat_eq_append] at h1 h2 ⊢
        rw [List.length_append] at h1
        exact ⟨v, levW_mem.mpr ⟨Nat.succ.inj h1, fun c' h' => h2 c' (List.mem_append.mpr (.inl h'))⟩, List.mem_map.mpr ⟨c, h2 c (List.mem_append.mpr (.inr (List.mem_singleton.mpr rfl))), rfl⟩⟩
theorem allW_mem {sg : List Str} : ∀ {k : Nat} {w : List Str}, w ∈ allW sg k ↔ w.length ≤ k ∧ ∀ c ∈ w, c ∈ sg
  | 0, w => by
    have := levW_mem (sg := sg) (k := 0) (w := w)
    unfold levW at this
    unfold allW
    rw [this, Nat.le_zero]
  | k + 1, w => by
    unfold allW
    rw [List.mem_append, allW_mem, levW_mem]
    constructor
    · rintro (⟨h1, h2⟩ | ⟨h1, h2⟩)
      · exact ⟨by omega, h2⟩
      · exact ⟨by omega, h2⟩
    · rintro ⟨h1, h2⟩
      by_cases e : w.length = k + 1
      · exact .inr ⟨e, h2⟩
      · exact .inl ⟨by omega, h2⟩
def spTexts : Sp := fun vs H Q _ => ∃ (z : Str) (cap : Nat), vs = [.str z, .int cap] ∧ 1 ≤ z.length ∧ z.length ≤ 4 ∧ cap ≤ 8 ∧ ∀ (H' : Hp) (L : Addr) (zs : List Str), Ext H H' → H L = none → H' L = some (.lst (zs.map V.str)) → zs.map sgL = allW (sgL z) cap → zs.length ≤ 600000 → Q (.ref L) H'
theorem sgL_app (x y : Str) : sgL (x ++ y) = sgL x ++ sgL y := by
  have e : (x ++ y).cps.toList = x.cps.toList ++ y.cps.toList := by
    show (x.cps ++ y.cps).toList = _
    rw [Array.toList_append]
  unfold sgL
  rw [e, List.map_append]
theorem len_app (x y : Str) : (x ++ y).length = x.length + y.length := by
  show (x.cps ++ y.cps).size = _
  rw [Array.size_append]
  rfl
theorem big_size {n : Nat} (h : n ≤ 1000000) : n ≤ sizeLine := by
  rw [sizeLine_eq]
  omega
section
variable {P : Program} {w : World} {K : PySem.W.Frag} {mg : Str → Option Value} {base : Heap}
abbrev nTexts : List Str := ["_law_abc", "_law_cap", "_law_found", "_law_latest", "_law_turn", "_law_longer", "_law_note", "_law_letter"]
theorem scTexts : FnScope nTexts ["_law_abc", "_law_cap"] (defScope sTexts) := ⟨rfl, rfl, rfl, by decide +kernel, rfl, by decide +kernel, by decide +kernel⟩
theorem ok_texts {f : Addr} {fd : FuncData} (F : Fun K "_law_texts" "_law_texts" sTexts f fd) (zr : mg "range" = none) : FnOk P w K mg base CX0 1 f fd ["_law_abc", "_law_cap"] spTexts := by
  refine F.ok scTexts (fun vs H Q E h => ?_) (fun cdv A0 outer s H vs Q E hr h => ?_)
  · obtain ⟨z, cap, rfl, _⟩ := h
    rfl
  · obtain ⟨z, cap, rfl, z1, z4, c8, q⟩ := h
    refine ⟨_, pss_cons (ps_par (i := 2) (j := 3) (by rfl) scTexts.nd rfl rfl (by decide) rfl rfl (pa_cons (pe_lst (pa_cons pe_str pa_nil)) (pa_cons (pe_lst (pa_cons pe_str pa_nil)) pa_nil)) (by rfl))
      (pss_cons (ps_for PassesOwn.never rfl (pi_range1 rfl zr (pa_cons (pv 1) pa_nil)) (pg_name (i := 4) scTexts.nd rfl (.inl rfl))
        (pss_cons (ps_set (i := 5) scTexts.nd rfl (.inl rfl) (pe_lst pa_nil))
        (pss_cons (ps_for PassesOwn.never rfl (pi_list (pv 3)) (pg_name (i := 6) scTexts.nd rfl (.inr rfl))
          (pss_one (ps_set (i := 5) scTexts.nd rfl (.inl rfl) (pe_op op_cat (pv 5) (pe_lc (own := [("_law_letter", 7)]) (g := gName 7) (tt := tYes) rfl scTexts.nd (pi_str (pv 0)) (blkOk_by (N := nTexts) (sc := defScope sTexts) (by decide +kernel))
            (fun _ _ _ _ _ => pg_name (i := 7) scTexts.nd rfl (Or.inl rfl)) (fun _ _ _ _ _ => pts_nil) (fun _ _ _ _ _ => pe_op op_add_str (pe_var (i := 6) rfl (.inr (.inl rfl))) (pv 7)))))))
        (pss_cons (ps_set (i := 3) scTexts.nd rfl (.inl rfl) (pv 5))
        (pss_one (ps_set (i := 2) scTexts.nd rfl (.inl rfl) (pe_op op_cat (pv 2) (pv 3))))))))
      (pss_one (ps_ret (pv 2)))), ?_⟩
    have szz : (1 : Nat) ≤ sizeLine := by decide
    have zlen : z.cps.size = z.length := rfl
    refine ⟨szz, fun F0 nF => ⟨szz, fun L0 nL => ?_⟩⟩
    have x1 := (Ext.new nF (o := .lst [V.str (Str.ofString "")])).trans (Ext.new nL (o := .lst [V.str (Str.ofString "")]))
    have nF0 := nF
    have hF1 := Ext.new nL (o := .lst [V.str (Str.ofString "")]) _ _ (upd_same (H := H) (a := F0) (o := .lst [V.str (Str.ofString "")]))
    have hL1 : (upd (upd H F0 (.lst [V.str (Str.ofString "")])) L0 (.lst [V.str (Str.ofString "")])) L0 = some (.lst [V.str (Str.ofString "")]) := upd_same
    generalize upd (upd H F0 (.lst [V.str (Str.ofString "")])) L0 (.lst [V.str (Str.ofString "")]) = H1 at x1 hF1 hL1 ⊢
    have n0 : ([Str.ofString ""].map sgL) = [[]] := rfl
    refine ⟨_, _, rfl, ?_⟩
    refine ⟨_, rfl, (cap : Int), rfl, by omega, by omega, ?_⟩
    rw [show ((cap : Int)).toNat = cap by omega]
    refine for_it (walk_range (lo := 0) (n := cap)) (fun k σ H' => ∃ (F1 L1 : Addr) (zs ys : List Str) (v4 v5 v6 : Option V), σ = [some (.str z), some (.int cap), some (.ref F1), some (.ref L1), v4, v5, v6, none] ∧ Ext H H' ∧ H F1 = none ∧ H' F1 = some (.lst (zs.map V.str)) ∧ H' L1 = some (.lst (ys.map V.str)) ∧ zs.map sgL = allW (sgL z) k ∧ ys.map sgL = levW (sgL z) k ∧ ys.length ≤ 4 ^ k ∧ zs.length ≤ 1 + k * 65536)
      ⟨F0, L0, [Str.ofString ""], [Str.ofString ""], none, none, none, rfl, x1, nF0, hF1, hL1, n0, n0, Nat.le_refl _, Nat.le_refl _⟩ (fun _ _ _ _ _ => trivial) ?_ ?_
    · rintro k v σ H2 H3 hk ⟨F1, L1, zs, ys, v4, v5, v6, rfl, x3, nF1, hF, hL, nz, ny, ly, lz⟩ ⟨rfl, rfl⟩
      have k4 : 4 ^ k ≤ 4 ^ 7 := Nat.pow_le_pow_right (by decide) (by omega)
      have k47 : (4 : Nat) ^ 7 = 16384 := by decide
      refine ⟨by show 0 ≤ sizeLine; decide, fun G0 nG => ?_⟩
      have xG := Ext.new nG (o := .lst [])
      have hG : (upd H3 G0 (.lst [])) G0 = some (.lst (([] : List Str).map V.str)) := upd_same
      have x4 := x3.trans xG
      have hF4 := xG _ _ hF
      have hL4 := xG _ _ hL
      have nGH : H G0 = none := Ext.free x3 nG
      generalize upd H3 G0 (.lst []) = H4 at xG hG x4 hF4 hL4 ⊢
      refine ⟨_, rfl, L1, rfl, ⟨_, SqL.of hL4⟩, ?_⟩
      refine for_it (walk_list (xs := ys.map V.str)) (fun j σ H' => ∃ (G : Addr) (gs : List Str) (v6 : Option V), σ = [some (.str z), some (.int cap), some (.ref F1), some (.ref L1), some (.int (0 + (k : Int))), some (.ref G), v6, none] ∧ Ext H4 H' ∧ H' G = some (.lst (gs.map V.str)) ∧ gs.map sgL = ((levW (sgL z) k).take j).flatMap (fun w => (sgL z).map fun c => w ++ [c]) ∧ gs.length ≤ 4 * j)
        ⟨G0, [], v6, rfl, fun _ _ e => e, hG, rfl, Nat.le_refl _⟩ (fun j σ H' _ ⟨_, _, _, _, x, _⟩ => SqL.of (x _ _ hL4)) ?_ ?_
      · rintro j x σ H5 H6 hj ⟨G, gs, v6, rfl, x5, hG5, ng, lg⟩ ⟨rfl, hx⟩
        obtain ⟨y, hy, rfl⟩ := at_map hx
        have yP : (levW (sgL z) k)[j]? = some (sgL y) := by
          rw [← ny, List.getElem?_map, hy]
          rfl
        have yl : y.length ≤ 8 := by
          have := (levW_mem.mp (List.mem_of_getElem? yP)).1
          rw [sgL_len] at this
          have : y.length = k := this
          omega
        rw [List.length_map] at hj
        refine ⟨_, rfl, _, rfl, z, rfl, fun D nD => ?_⟩
        refine lc_it (walk_str (z := z)) (fun i H' => Ext H6 H' ∧ ∃ ds : List Str, H' D = some (.lst (ds.map V.str)) ∧ ds.map sgL = ((sgL z).take i).map (fun c => sgL y ++ [c]) ∧ ds.length ≤ i) ⟨Ext.new nD, [], upd_same, rfl, Nat.le_refl _⟩ (fun _ _ _ _ => trivial) ?_ ?_
        · rintro i v G1 G2 hi ⟨y1, ds, hD, nds, lds⟩ ⟨rfl, c, hc, rfl⟩
          have cm := List.mem_of_getElem? (sgL_at hc)
          have iz : i < z.length := hi
          refine ⟨rfl, ?_⟩
          dsimp only [tYes]
          rw [if_pos rfl]
          refine ⟨_, rfl, _, rfl, y, ⟨#[c]⟩, rfl, rfl, big_size (by have : (⟨#[c]⟩ : Str).length = 1 := rfl; omega), _, hD, ?_, fun a o e => ?_, ds ++ [y ++ ⟨#[c]⟩], ?_, ?_, ?_⟩
          · rw [List.length_map]
            exact small1000 (by omega)
          · rw [upd_ne (ne_of_none e nD)]
            exact y1 _ _ e
          · rw [upd_same, List.map_append]
            rfl
          · rw [take_more (sgL_at hc), List.map_append, List.map_append, nds, List.map_singleton, List.map_singleton, sgL_app]
            rfl
          · rw [List.length_append]
            show ds.length + 1 ≤ i + 1
            omega
        · rintro G1 ⟨y1, ds, hD, nds, lds⟩
          have hG7 := y1 _ _ hG5
          refine ⟨G, D, _, _, rfl, rfl, hG7, hD, big_size ?_, fun p np => ?_⟩
          · rw [List.length_map, List.length_map]
            omega
          refine ⟨p, gs ++ ds, _, rfl, (x5.trans y1).trans (Ext.new np), by rw [upd_same, List.map_append], ?_, ?_⟩
          · rw [← sgL_len, List.take_length] at nds
            rw [take_more yP, List.flatMap_append, List.flatMap_singleton, List.map_append, ng, nds]
          · rw [List.length_append]
            omega
      · rintro σ H5 ⟨G, gs, v6, rfl, x5, hG5, ng, lg⟩
        rw [List.length_map] at lg ng
        have ng : gs.map sgL = levW (sgL z) (k + 1) := by
          rw [ng, ← List.length_map (f := sgL), ny, List.take_length]
          rfl
        refine ⟨_, rfl, _, rfl, _, rfl, F1, G, _, _, rfl, rfl, x5 _ _ hF4, hG5, big_size ?_, fun p np => ?_⟩
        · rw [List.length_map, List.length_map]
          omega
        have hp : (upd H5 p (.lst (zs.map V.str ++ gs.map V.str))) p = some (.lst ((zs ++ gs).map V.str)) := by
          rw [upd_same, List.map_append]
        have e4 : 4 ^ (k + 1) = 4 * 4 ^ k := by rw [Nat.pow_succ, Nat.mul_comm]
        refine ⟨p, G, zs ++ gs, gs, _, _, _, rfl, (x4.trans x5).trans (Ext.new np), Ext.free x4 (Ext.free x5 np), hp, Ext.new np _ _ hG5, ?_, ng, by omega, ?_⟩
        · rw [List.map_append, nz, ng]
          rfl
        · rw [List.length_append]
          omega
    · rintro σ H2 ⟨F1, L1, zs, ys, v4, v5, v6, rfl, x3, nF1, hF, hL, nz, ny, ly, lz⟩
      exact ⟨_, rfl, q _ F1 zs x3 nF1 hF nz (by omega)⟩
end
end Sl
/-! ## V23 -/
set_option Elab.async false
set_option linter.all false
set_option maxRecDepth 100000
set_option maxHeartbeats 4000000
/-! a value in an own object, a choice of a text's signs (k11), repr of a bool -/
namespace Sl
open PySem PySem.Spec PyProof.Rows L2
def rInO (C : Addr) (sp : Sp) : R2 := fun x y H Q => ∃ (a dx : Addr) (fs : List (Str × V)), y = .ref a ∧ H a = some (.ins C dx fs) ∧ sp [.ref a, x] H (fun v H' => ∃ b : Bool, v = .bl b ∧ Q (.bl b) H') fun _ _ _ => False
theorem op_inO {X : Cx} {C g : Addr} {k : Nat} {fd : FuncData} {sp : Sp} (m : L2.Meth X.K C "__contains__" g) (F : FnOk X.prog X.w X.K X.mg X.base CX0 k g fd ["self", "value"] sp) (hr : Room k X.A) (hb : L2.Binds X.K fd ["self", "value"] []) :
    OpR X (compareOp .In) (rInO C sp) := by
  intro pins s σ H x y v u Q I rx ry h
  obtain ⟨a, dx, fs, rfl, e, q⟩ := h
  cases (show u = Value.ref a from ry)
  obtain ⟨mA, O, rr, _, _, _⟩ := ins_get I.hok e
  obtain ⟨od, J, hl⟩ := O.look
  show wpAny _ _ (do return Value.bool (← contains (.ref a) v)) _ _ _
  refine wpAny_bind (m := contains (.ref a) v) ?_
  unfold contains
  refine wpAny_holding ?_
  refine wpAny_bind (m := specialOf (.ref a) (Str.ofString "__contains__")) ?_
  unfold specialOf
  refine wpAny_bind (J.type.here ((PySem.W.looks_findIn I.kIn m.at_).here ?_))
  rw [if_neg (by simp)]
  refine wpAny_bind (m := callSpecialUnlessNone? (.ref a) (Str.ofString "__contains__") [v] _) ?_
  unfold callSpecialUnlessNone? specialOf
  refine wpAny_bind (wpAny_bind (J.type.here ((PySem.W.looks_findIn I.kIn m.at_).here ?_)))
  refine wpAny_holding (wpAny_bind ?_)
  unfold bindSpecial
  refine wpAny_bind ((PySem.W.looks_typeIn I.kIn (beq_iff_eq.mp m.fn)).here ?_)
  rw [if_pos (by decide)]
  refine wpAny_pure ?_
  dsimp only
  rw [if_neg (by simp)]
  refine wpAny_bind (wpAny_call (codeAny_mono (F.run X.A X.stack s H ⟨[.ref a, v], []⟩ [.ref a, v] [.ref a, x] _ _ hr I.env0 (hb s [.ref a, v] I.kIn rfl) (.cons rfl (.cons rx .nil)) q) fun c s' hq => ?_))
  cases c with
  | error er => exact (show False from hq).elim
  | ok fl =>
    cases fl with
    | ret u =>
      obtain ⟨v', H', I', rv, b, rfl, q'⟩ := I.after hq
      obtain rfl : u = Value.bool b := rv
      refine wpAny_pure ?_
      exact wpAny_pure (wpAny_pure ⟨.bl b, H', I', rfl, q'⟩)
    | next => exact hq.elim
    | brk => exact hq.elim
    | cont => exact hq.elim
def spChoiceS : Sp := fun vs H Q _ => ∃ (a : Addr) (z : Str), vs = [.ref a, .str z] ∧ Rng H a ∧ 0 < z.length ∧ z.length ≤ 10000 ∧
  ∀ (i c : Nat) (H' : Hp), z.cps[i]? = some c → Rng H' a → Keep a H H' → Q (.str ⟨#[c]⟩) H'
section
variable {P : Program} {w : World} {K : PySem.W.Frag} {mg : Str → Option Value} {base : Heap}
theorem ok_choiceS {f fD : Addr} {fd fdD : FuncData} (F : Fun K "_law_choice" "_law_choice" sChoice f fd) (aD : At K mg "_law_draw" fD fdD ["_law_rng_here", "_law_many"] []) (gD : FnOk P w K mg base CX0 1 fD fdD ["_law_rng_here", "_law_many"] spDraw) (zn : mg "len" = none) :
    FnOk P w K mg base CX0 2 f fd ["_law_rng_here", "_law_some"] spChoiceS := by
  refine F.ok scChoice (fun vs H Q E h => ?_) (fun cdv A0 outer s H vs Q E hr h => ?_)
  · obtain ⟨a, z, rfl, _⟩ := h
    rfl
  · obtain ⟨a, z, rfl, hR, h0, hl, k⟩ := h
    refine ⟨_, pss_one (ps_ret (pe_ix ix_str (pv 1) (pe_call gD hr (by rfl) aD.g aD.kp aD.b .nil pass0 (pa_cons (pv 0) (pa_cons (pe_callB call_len_str (by rfl) zn PySem.boot_len (pa_cons (pv 1) pa_nil)) pa_nil))) (fun _ _ => rfl))), ?_⟩
    refine ⟨_, rfl, _, rfl, _, rfl, z, rfl, small_size hl, a, _, rfl, hR, by omega, by omega, fun d H' d0 dn r' k' => ?_⟩
    obtain ⟨j, rfl⟩ : ∃ j : Nat, d = (j : Int) := ⟨d.toNat, by omega⟩
    have hj : j < z.cps.size := by
      have : j < z.length := by omega
      exact this
    exact ⟨z, j, z.cps[j], rfl, rfl, small_size hl, atI_nat (by rw [Array.getElem?_toList]; exact Array.getElem?_eq_getElem hj), k j _ H' (Array.getElem?_eq_getElem hj) r' k'⟩
end
def rReprB : List V → Hp → VK → Prop := fun xs H Q => ∃ b : Bool, xs = [.bl b] ∧ Q (.str (if b = true then Str.ofString "True" else Str.ofString "False")) H
theorem call_reprB {X : Cx} : CallR X (.builtin "repr") rReprB := by
  intro pins s σ H xs us Q I r h
  obtain ⟨b, rfl, q⟩ := h
  obtain ⟨u, rfl, rx⟩ := vals1 r
  obtain rfl : u = .bool b := rx
  refine PySem.P.repr_of_bool ?_
  have e : (if b then ("True" : Str) else "False") = if b = true then Str.ofString "True" else Str.ofString "False" := rfl
  exact ⟨.str _, H, I.tok _, ⟨_, rfl⟩, q⟩
end Sl
/-! ## L1 -/
set_option Elab.async false
set_option linter.all false
set_option maxRecDepth 100000
set_option maxHeartbeats 4000000
set_option pp.maxSteps 1500
set_option pp.deepTerms false
/-! check_state; a language's moves, members, live states, length -/
namespace Sl
open PySem PySem.Spec PyProof.Rows L2
abbrev sCheckState : Stmt := top 25
abbrev sMoveL : Stmt := inClass (top 37) 6
abbrev sMember : Stmt := inClass (top 37) 7
abbrev sIsLive : Stmt := inClass (top 37) 8
abbrev sLenL : Stmt := inClass (top 37) 9
def spCheckState : Sp := fun vs H Q _ => ∃ (i n : Int), vs = [.int i, .int n] ∧ 0 ≤ i ∧ i < n ∧ Q .non H
def spMoveL (C : Addr) : Sp := fun vs H Q _ => ∃ (p : Addr) (n : Nat) (c z : Str) (M : Nat) (δ : Nat → Str → Nat) (found live : List Nat), vs = [.ref p, .int (n : Nat), .str c] ∧ LangAt C H p z M δ found live ∧ n < M ∧ Q (if c ∈ sgL z then .int (δ n c : Nat) else .non) H
def spMember (C : Addr) : Sp := fun vs H Q _ => ∃ (p : Addr) (n : Nat) (z : Str) (M : Nat) (δ : Nat → Str → Nat) (found live : List Nat), vs = [.ref p, .int (n : Nat)] ∧ LangAt C H p z M δ found live ∧ n < M ∧ Q (.bl (decide (n ∈ found))) H
def spIsLive (C : Addr) : Sp := fun vs H Q _ => ∃ (p : Addr) (n : Nat) (z : Str) (M : Nat) (δ : Nat → Str → Nat) (found live : List Nat), vs = [.ref p, .int (n : Nat)] ∧ LangAt C H p z M δ found live ∧ n < M ∧ Q (.bl (decide (n ∈ live))) H
def spLenL (C : Addr) : Sp := fun vs H Q _ => ∃ (p : Addr) (z : Str) (M : Nat) (δ : Nat → Str → Nat) (found live : List Nat), vs = [.ref p] ∧ LangAt C H p z M δ found live ∧ Q (.int (M : Nat)) H
theorem row_no {d : Str → Nat} {c : Str} : ∀ {sg : List Str}, c ∉ sg → valV (rowD sg d) (keyC c) = none
  | [], _ => rfl
  | a :: sg, h => by
    show valV ((keyC a, V.int (d a : Nat)) :: rowD sg d) (keyC c) = _
    rw [valV_neg (fun z => h (by unfold keyC at z; injection z with z; rw [z]; exact List.mem_cons_self))]
    exact row_no fun z => h (List.mem_cons_of_mem _ z)
section
variable {P : Program} {w : World} {K : PySem.W.Frag} {mg : Str → Option Value} {base : Heap}
theorem scCheckState : FnScope ["value", "many"] ["value", "many"] (defScope sCheckState) := ⟨rfl, rfl, rfl, by decide +kernel, rfl, by decide +kernel, by decide +kernel⟩
theorem ok_checkstate {f fB : Addr} {fd fdB : FuncData} (F : Fun K "check_state" "check_state" sCheckState f fd) (aB : At K mg "is_below" fB fdB ["value", "limit"] []) (gB : FnOk P w K mg base CX0 2 fB fdB ["value", "limit"] (spBelow K)) :
    FnOk P w K mg base CX0 3 f fd ["value", "many"] spCheckState := by
  refine F.ok scCheckState (fun vs H Q E h => ?_) (fun cdv A0 outer s H vs Q E hr h => ?_)
  · obtain ⟨i, n, rfl, _⟩ := h
    rfl
  · obtain ⟨i, n, rfl, h0, h1, q⟩ := h
    refine ⟨_, pss_one (ps_if (pt_not (pt_val (pe_call gB hr (by rfl) aB.g aB.kp aB.b .nil pass0 (pa_cons (pv 0) (pa_cons (pv 1) pa_nil))))) pss_dead pss_nil), ?_⟩
    refine ⟨_, rfl, _, rfl, .int i, n, rfl, .inl ⟨i, rfl⟩, ?_⟩
    have e : below (.int i) n = true := by
      unfold below
      simp [h0, h1]
    rw [e]
    exact ⟨true, rfl, iteF q⟩
theorem scMoveL : FnScope ["self", "state", "sign"] ["self", "state", "sign"] (defScope sMoveL) := ⟨rfl, rfl, rfl, by decide +kernel, rfl, by decide +kernel, by decide +kernel⟩
theorem ok_moveL {f C fS : Addr} {fd fdS : FuncData} (F : Fun K "move" "Language.move" sMoveL f fd) (T : LgC K C) (aS : At K mg "check_state" fS fdS ["value", "many"] []) (gS : FnOk P w K mg base CX0 3 fS fdS ["value", "many"] spCheckState) (zn : mg "len" = none) :
    FnOk P w K mg base CX0 4 f fd ["self", "state", "sign"] (spMoveL C) := by
  refine F.ok scMoveL (fun vs H Q E h => ?_) (fun cdv A0 outer s H vs Q E hr h => ?_)
  · obtain ⟨p, n, c, z, M, δ, found, live, rfl, _⟩ := h
    rfl
  · obtain ⟨p, n, c, z, M, δ, found, live, rfl, LA, nM, q⟩ := h
    obtain ⟨dx, fs, L, rs, Me, Li, hp, f1, f2, hL, lrs, hrs, f3, hMe, _⟩ := LA.ex
    refine ⟨_, pss_cons (ps_expr (pe_call gS hr (by rfl) aS.g aS.kp aS.b .nil pass0 (pa_cons (pv 1) (pa_cons (pe_callB call_len_seq (by rfl) zn PySem.boot_len (pa_cons (pe_fld (pv 0) rfl) pa_nil)) pa_nil))))
      (pss_one (ps_ret (pe_dget1 (hu_of hr) (pe_ix ix_list (pe_fld (pv 0) rfl) (pv 1) (fun _ _ => rfl)) (pv 2) ⟨rfl, rfl, rfl, rfl⟩))), ?_⟩
    refine ⟨_, rfl, _, rfl, p, C, dx, _, _, rfl, hp, T.cl, T.nS, f2, L, _, rfl, .inl (SqL.of hL), (n : Int), _, rfl, by omega, by rw [List.length_map]; omega, ?_⟩
    obtain ⟨r, hr'⟩ : ∃ r, rs[n]? = some r := ⟨_, List.getElem?_eq_getElem (by omega)⟩
    have hrow := hrs n r hr'
    have g : DGet H r (.str c) (if c ∈ sgL z then some (.int (δ n c : Nat)) else none) := by
      have e : valV (rowD (sgL z) (δ n)) (keyC c) = if c ∈ sgL z then some (.int (δ n c : Nat)) else none := by
        by_cases h : c ∈ sgL z
        · rw [if_pos h, row_val h]
        · rw [if_neg h, row_no h]
      rw [← e]
      exact DGet.k (k := keyC c) hrow
    refine ⟨_, rfl, p, C, dx, _, _, rfl, hp, T.cl, T.nS, f2, _, rfl, L, _, _, _, rfl, rfl, SqL.of hL, atI_nat (by rw [List.getElem?_map, hr']; rfl), r, rfl, .inl ⟨_, Rd.of hrow⟩, _, rfl, _, g, ?_⟩
    by_cases h : c ∈ sgL z
    · rw [if_pos h] at q ⊢
      exact q
    · rw [if_neg h] at q ⊢
      exact q
theorem scMember : FnScope ["self", "state"] ["self", "state"] (defScope sMember) := ⟨rfl, rfl, rfl, by decide +kernel, rfl, by decide +kernel, by decide +kernel⟩
theorem ok_member {f C fS : Addr} {fd fdS : FuncData} (F : Fun K "is_member" "Language.is_member" sMember f fd) (T : LgC K C) (aS : At K mg "check_state" fS fdS ["value", "many"] []) (gS : FnOk P w K mg base CX0 3 fS fdS ["value", "many"] spCheckState) (zn : mg "len" = none) :
    FnOk P w K mg base CX0 4 f fd ["self", "state"] (spMember C) := by
  refine F.ok scMember (fun vs H Q E h => ?_) (fun cdv A0 outer s H vs Q E hr h => ?_)
  · obtain ⟨p, n, z, M, δ, found, live, rfl, _⟩ := h
    rfl
  · obtain ⟨p, n, z, M, δ, found, live, rfl, LA, nM, q⟩ := h
    obtain ⟨dx, fs, L, rs, Me, Li, hp, f1, f2, hL, lrs, hrs, f3, hMe, _⟩ := LA.ex
    refine ⟨_, pss_cons (ps_expr (pe_call gS hr (by rfl) aS.g aS.kp aS.b .nil pass0 (pa_cons (pv 1) (pa_cons (pe_callB call_len_seq (by rfl) zn PySem.boot_len (pa_cons (pe_fld (pv 0) rfl) pa_nil)) pa_nil))))
      (pss_one (ps_ret (pe_cmpR op_in_seq (pv 1) (pe_fld (pv 0) rfl) (by rfl)))), ?_⟩
    refine ⟨_, rfl, _, rfl, p, C, dx, _, _, rfl, hp, T.cl, T.nS, f2, L, _, rfl, .inl (SqL.of hL), (n : Int), _, rfl, by omega, by rw [List.length_map]; omega, ?_⟩
    refine ⟨_, rfl, _, rfl, p, C, dx, _, _, rfl, hp, T.cl, T.nM, f3, Me, _, rfl, .inr (SqT.of hMe), rfl, flat_nats _, ?_⟩
    rw [if_neg Bool.false_ne_true, inV_nat]
    exact q
theorem scLenL : FnScope ["self"] ["self"] (defScope sLenL) := ⟨rfl, rfl, rfl, by decide +kernel, rfl, by decide +kernel, by decide +kernel⟩
theorem ok_lenL {f C : Addr} {fd : FuncData} (F : Fun K "__len__" "Language.__len__" sLenL f fd) (T : LgC K C) (zn : mg "len" = none) : FnOk P w K mg base CX0 1 f fd ["self"] (spLenL C) := by
  refine F.ok scLenL (fun vs H Q E h => ?_) (fun cdv A0 outer s H vs Q E hr h => ?_)
  · obtain ⟨p, z, M, δ, found, live, rfl, _⟩ := h
    rfl
  · obtain ⟨p, z, M, δ, found, live, rfl, LA, q⟩ := h
    obtain ⟨dx, fs, L, rs, Me, Li, hp, f1, f2, hL, lrs, _⟩ := LA.ex
    refine ⟨_, pss_one (ps_ret (pe_callB call_len_seq (by rfl) zn PySem.boot_len (pa_cons (pe_fld (pv 0) rfl) pa_nil))), ?_⟩
    refine ⟨_, rfl, p, C, dx, _, _, rfl, hp, T.cl, T.nS, f2, L, _, rfl, .inl (SqL.of hL), ?_⟩
    rw [List.length_map, lrs]
    exact q
end
end Sl
/-! ## L4 -/
set_option Elab.async false
set_option linter.all false
set_option maxRecDepth 100000
set_option maxHeartbeats 4000000
set_option pp.maxSteps 1500
set_option pp.deepTerms false
/-! _law_language -/
namespace Sl
open PySem PySem.Spec PyProof.Rows L2 LamX NdefX
abbrev sLanguage : Stmt := top 55
theorem rowsD_at {H : Hp} {rs : List Addr} {sg : List Str} {δ : Nat → Str → Nat} (h : RowsD H rs sg δ) : RowsAt H rs sg δ := fun i r e => ⟨_, h i r e, fun _ hc => row_val hc⟩
theorem rowsD_len {H : Hp} {rs : List Addr} {sg : List Str} {δ : Nat → Str → Nat} (h : RowsD H rs sg δ) : ∀ r ∈ rs, ∃ kvs, H r = some (.dK kvs) ∧ kvs.length = sg.length := fun r hr => by
  obtain ⟨i, hi⟩ := List.getElem?_of_mem hr
  exact ⟨_, h i r hi, by simp [rowD]⟩
theorem RowsD.ext {H H' : Hp} (x : Ext H H') {rs : List Addr} {sg : List Str} {δ : Nat → Str → Nat} (h : RowsD H rs sg δ) : RowsD H' rs sg δ := fun i r e => x _ _ (h i r e)
theorem MacAt.ext {H H' : Hp} (x : Ext H H') {t R E : Addr} {z : Str} {rs : List Addr} {δ : Nat → Str → Nat} {mem : List Nat} (h : MacAt H t z R E rs δ mem) : MacAt H' t z R E rs δ mem := ⟨x _ _ h.t, x _ _ h.r, h.rows.ext x, x _ _ h.e⟩
/-- what stood stands, but for tables -/
def StayN (H H' : Hp) : Prop := ∀ b o, H b = some o → (∀ ps, o ≠ .tbl ps) → H' b = some o
theorem MacAt.stay {H H' : Hp} (x : StayN H H') {t R E : Addr} {z : Str} {rs : List Addr} {δ : Nat → Str → Nat} {mem : List Nat} (h : MacAt H t z R E rs δ mem) : MacAt H' t z R E rs δ mem :=
  ⟨x _ _ h.t (by intro ps q; cases q), x _ _ h.r (by intro ps q; cases q), fun i r e => x _ _ (h.rows i r e) (by intro ps q; cases q), x _ _ h.e (by intro ps q; cases q)⟩
/-- what comes of it -/
def OutL (C : Addr) (T : List NTab) (H : Hp) (z : Str) (N : Nat) (mem : List Nat) (δ : Nat → Str → Nat) (Q : VK) : Prop := ∀ (H' : Hp) (x : Addr) (M : Nat) (δ' : Nat → Str → Nat) (found live : List Nat), StayN H H' → (∀ b, H' b = none → H b = none) → TabsN T H' → H x = none → LangNew C H H' x z M δ' found live →
  LeastOf (sgL z) δ mem N M δ' found → (∀ n, n < M → (n ∈ live ↔ Leads (gOf (sgL z) δ') found n)) → Q (.ref x) H'
def spLanguage (C : Addr) (T : List NTab) : Sp := fun vs H Q _ => ∃ (t R E : Addr) (z : Str) (rs : List Addr) (δ : Nat → Str → Nat) (mem : List Nat), vs = [.ref t] ∧ MacAt H t z R E rs δ mem ∧ MacOk (sgL z) rs.length δ mem 40 ∧ Few (sgL z) δ mem rs.length 6 ∧ SgOk z ∧ TabsN T H ∧ OutL C T H z rs.length mem δ Q
section
variable {P : Program} {w : World} {K : PySem.W.Frag} {mg : Str → Option Value} {base : Heap}
theorem scLanguage : FnScope ["_law_machine"] ["_law_machine"] (defScope sLanguage) := ⟨rfl, rfl, rfl, by decide +kernel, rfl, by decide +kernel, by decide +kernel⟩
theorem ok_language {T : List NTab} {f fI C : Addr} {fd fdI : FuncData} (F : Fun K "_law_language" "_law_language" sLanguage f fd)
    (gC : mg "Language" = some (.ref C)) (M : Mk K C fI) (gI : FnOk P w K mg base CX0 6 fI fdI ["self", "signs", "states", "member_states"] (spLInit K C T)) (bI : L2.Binds K fdI ["self", "signs", "states", "member_states"] []) :
    FnOk P w K mg base CX0 8 f fd ["_law_machine"] (spLanguage C T) := by
  refine F.ok scLanguage (fun vs H Q E h => ?_) (fun cdv A0 outer s H vs Q E hr h => ?_)
  · obtain ⟨t, R, E1, z, rs, δ, mem, rfl, _⟩ := h
    rfl
  · obtain ⟨t, R, E1, z, rs, δ, mem, rfl, MA, MO, few, sg, hT, o⟩ := h
    refine ⟨_, pss_one (ps_ret (pe_make (E := fun _ _ _ => False) M gI hr (by rfl) gC bI .nil pass0 (pa_cons (pe_ix ix_tup (pv 0) pe_int (fun _ _ => rfl)) (pa_cons (pe_ix ix_tup (pv 0) pe_int (fun _ _ => rfl)) (pa_cons (pe_ix ix_tup (pv 0) pe_int (fun _ _ => rfl)) pa_nil))))), ?_⟩
    refine ⟨_, rfl, t, _, 0, _, rfl, rfl, SqT.of MA.t, rfl, ?_⟩
    refine ⟨_, rfl, t, _, 1, _, rfl, rfl, SqT.of MA.t, rfl, ?_⟩
    refine ⟨_, rfl, t, _, 2, _, rfl, rfl, SqT.of MA.t, rfl, ?_⟩
    intro x dx nx ndx ne
    have e1 : Ext H (upd (upd H dx (.own x)) x (.ins C dx [])) := (Ext.new ndx).trans (Ext.new (by rw [upd_ne (Ne.symm ne)]; exact nx))
    have i1 : (upd (upd H dx (.own x)) x (.ins C dx [])) x = some (.ins C dx []) := upd_same
    generalize upd (upd H dx (.own x)) x (.ins C dx []) = H1 at e1 i1 ⊢
    refine ⟨x, dx, true, true, z, R, E1, rs, mem, δ, rfl, i1, sg, SqK.l (e1 _ _ MA.r), rowsD_at (MA.rows.ext e1), rowsD_len (MA.rows.ext e1), SqK.l (e1 _ _ MA.e), MO.nd, MO.ml, MO.pos, MO.le, few, MO.lt, hT.ext e1, fun H' M δ' found live kn nn T' LN LO lv => ⟨rfl, ?_⟩⟩
    refine o H' x M δ' found live (fun b u e n => kn b u (e1 _ _ e) n (ne_of_none e nx)) (fun b e => e1.free (nn b e)) T' nx ?_ LO lv
    obtain ⟨dx', fs, L, rs', Me, Li, h, f1, f2, f3, f4⟩ := LN.ex
    exact ⟨dx', fs, L, rs', Me, Li, h, e1.free f1, fun r hr => e1.free (f2 r hr), e1.free f3, e1.free f4⟩
end
end Sl
/-! ## V24 -/
set_option Elab.async false
set_option linter.all false
set_option maxRecDepth 100000
set_option maxHeartbeats 4000000
set_option pp.maxSteps 1500
set_option pp.deepTerms false
/-! what is kept; notes; rows of truths -/
namespace Sl
open PySem PySem.Spec PyProof.Rows L2 TxS LamX NdefX
theorem langNew_keep {C a : Addr} {H2 H3 H' : Hp} {x : Addr} {z : Str} {M : Nat} {δ : Nat → Str → Nat} {found live : List Nat} (N : LangNew C H2 H3 x z M δ found live) (nx : H2 x = none) (r : Rng H2 a) (k : Keep a H3 H') : LangAt C H' x z M δ found live := by
  obtain ⟨dx, fs, L, rr, Me, Li, ⟨h1, h2, h3, h4, h5, h6, h7, h8, h9, h10, h11⟩, f1, f2, f3, f4⟩ := N.ex
  exact ⟨dx, fs, L, rr, Me, Li, k _ _ h1 (r.new nx), h2, h3, k _ _ h4 (r.new f1), h5, fun i q e => k _ _ (h6 i q e) (r.new (f2 q (List.mem_of_getElem? e))), h7, k _ _ h8 (r.new f3), h9, k _ _ h10 (r.new f4), h11⟩
theorem macAt_keep {a : Addr} {H2 H' : Hp} {t : Addr} {z : Str} {R E : Addr} {rs : List Addr} {δ : Nat → Str → Nat} {mem : List Nat} (M : MacAt H2 t z R E rs δ mem) (r : Rng H2 a) (nR : R ≠ a) (nE : E ≠ a) (k : KeepN a H2 H') : MacAt H' t z R E rs δ mem := by
  obtain ⟨x1, y1, e1, _⟩ := r.ex
  exact ⟨k _ _ M.t (by intro ps q; cases q) (ne_of M.t e1 (by intro z; cases z)), k _ _ M.r (by intro ps q; cases q) nR, fun i q e => k _ _ (M.rows i q e) (by intro ps q; cases q) (ne_of (M.rows i q e) e1 (by intro z; cases z)), k _ _ M.e (by intro ps q; cases q) nE⟩
theorem tabs_keep {T : List NTab} {a : Addr} {H H' : Hp} (t : TabsN T H) (r : Rng H a) (k : Keep a H H') : TabsN T H' := fun q hq => by
  obtain ⟨ps, a1, a2, a3⟩ := t q hq
  obtain ⟨x1, y1, e1, _⟩ := r.ex
  refine ⟨ps, k _ _ a1 (ne_of a1 e1 (by intro z; cases z)), a2, fun pos cv hc => ?_⟩
  obtain ⟨c, e, a4⟩ := a3 pos cv hc
  exact ⟨c, e, k _ _ a4 (ne_of a4 e1 (by intro z; unfold CodeO at z; cases z))⟩
/-- a note of the signs z -/
def NoteOk (z y : Str) : Prop := (∀ c ∈ sgL y, c ∈ sgL z) ∧ y.length ≤ 60
theorem note_word {z y : Str} (sg : SgOk z) (h : NoteOk z y) : wordOf z y = true := by
  have cz : ∀ c ∈ y.cps.toList, c ∈ z.cps.toList := fun c hc => by
    have := h.1 ⟨#[c]⟩ (by unfold sgL; exact List.mem_map.mpr ⟨c, hc, rfl⟩)
    unfold sgL at this
    obtain ⟨c', h', e⟩ := List.mem_map.mp this
    injection e with e
    have : c' = c := by simpa using e
    rwa [← this]
  unfold wordOf isWordS
  rw [Bool.and_eq_true]
  have wz := sg.word
  unfold isWordS at wz
  exact ⟨List.all_eq_true.mpr fun c hc => List.all_eq_true.mp wz c (cz c hc), List.all_eq_true.mpr fun c hc => decide_eq_true (cz c hc)⟩
theorem dp_bools {K : PySem.W.Frag} {H : Hp} : ∀ bs : List Bool, DpAll K H (bs.map V.bl) (bs.map PyData.bool)
  | [] => .nil
  | b :: bs => .cons (.bl b) (dp_bools bs)
theorem eqv_bools : ∀ bs : List Bool, PyData.eqv (.list (bs.map PyData.bool)) (.list (bs.map PyData.bool)) = true := fun bs => by
  have : ∀ bs : List Bool, PyData.eqvAll (bs.map PyData.bool) (bs.map PyData.bool) = true := fun bs => by
    induction bs with
    | nil => rfl
    | cons b bs ih =>
      rw [List.map_cons, PyData.eqvAll, ih]
      cases b <;> rfl
  rw [PyData.eqv]
  exact this bs
theorem bools_shaped (bs : List Bool) : SeqAt.shaped (.list (bs.map PyData.bool)) = true := by
  have h1 : ∀ bs : List Bool, PyData.canLayAll0 (bs.map PyData.bool) = true := fun bs => by
    induction bs with
    | nil => rfl
    | cons b bs ih =>
      rw [List.map_cons, PyData.canLayAll0, ih]
      rfl
  have h2 : ∀ bs : List Bool, PyData.depthAll (bs.map PyData.bool) = 0 := fun bs => by
    induction bs with
    | nil => rfl
    | cons b bs ih =>
      rw [List.map_cons, PyData.depthAll, ih]
      rfl
  unfold SeqAt.shaped
  rw [Bool.and_eq_true, PyData.canLay0, PyData.depth, h1, h2]
  exact ⟨rfl, by decide⟩
end Sl
/-! ## R3 -/
set_option Elab.async false
set_option linter.all false
set_option maxRecDepth 100000
set_option maxHeartbeats 4000000
/-! sorted(text) -/
namespace TxS
open PySem PySem.Spec PyProof.Rows L2 PySem.Froz PpSet
section
variable {P : Program} {w : World} {A : Around} {E : Value → Shared → Prop} {s : Shared}
/-- a text's signs are collected; the heap has grown -/
theorem collect_text {Q : List Value → Shared → Prop} (hh : A.handled = none) (x : Str) (t : Tok) (hn : x.cps.size ≤ sizeLine)
    (hQ : ∀ s' acc, (∀ b o, s.heap.get? b = some o → s'.heap.get? b = some o) → s.heap.objs.size ≤ s'.heap.objs.size → s'.gens = s.gens → s'.os = s.os → ItemsOf (SignAt x) acc x.cps.size → Q acc.toList s') :
    wpAny (model P w) A (collect (.str x t)) Q E s := by
  unfold collect
  refine wpAny_bind (wpAny_runValue (codeAny_builtin F.entry_proto_collect ?_))
  rw [Around.under_plainId F.plain_proto_collect _]
  show wpAny _ A.in1 (newList [] >>= fun l => again (.builtin "list.__iadd__" ⟨[l, .str x t], []⟩)) _ _ s
  refine wpAny_bind (wpAny_newObj_type (wpAny_pure ⟨plainId_quiet F.plain_list_iadd _, codeAny_builtin F.entry_list_iadd ?_⟩))
  rw [Around.under_plainId F.plain_list_iadd _]
  show wpAny _ A.in1 (Builtin.List.listExtendWith (.ref s.heap.objs.size) (.str x t) (.ref s.heap.objs.size)) _ _ _
  have apart : Builtin.List.listSameRef (.ref s.heap.objs.size) (.str x t) = false ∧ (Value.type "str" == Value.type "list") = false ∧ (Value.type "str" == Value.type "tuple") = false := ⟨rfl, by decide, by decide⟩
  unfold Builtin.List.listExtendWith
  refine wpAny_bind (wpAny_typeOf (T := "str") (v := .str x t) rfl ?_)
  simp only [apart.1, apart.2.1, apart.2.2, Bool.or_false, Bool.false_eq_true, if_false]
  refine wpAny_bind (wpAny_pyIter_str fun o St W hst => wpAny_bind (wpAny_holding ?_))
  unfold Builtin.List.listLengthHint
  refine wpAny_bind (wpAny_specialOf (T := "str") (v := .str x t) rfl F.str_len ?_)
  wp_delta
  refine wpAny_bind (wpAny_isInstance (T := "str") (v := .str x t) (b := true) rfl (by rw [isSubtype_type]; kernel_rfl) ?_)
  show wpAny _ A.in1 (typeOf (Value.str x t) >>= _) _ _ _
  refine wpAny_bind (wpAny_typeOf (T := "str") (v := .str x t) rfl (wpAny_pure ?_))
  rw [if_neg (by decide)]
  generalize hH : s.heap.push { cls := .type "list", data := .seq ([] : List Value).toArray } = H at W hst ⊢
  have sz : H.objs.size = s.heap.objs.size + 1 := by rw [← hH, Heap.size_push]
  have notf : s.heap.objs.size ∉ [H.objs.size] := fun hm => by
    have := List.mem_singleton.mp hm
    omega
  have got : (H.push o).get? s.heap.objs.size = some { cls := .type "list", data := .seq ([] : List Value).toArray } := Heap.get?_push_of_some _ (hH ▸ Heap.get?_push_size _ rfl)
  refine wpAny_pure ⟨plainId_quiet F.plain_extend_loop _, codeAny_extend_loopS (W A.in1 hh).toS hn _ notf _ x.cps.size 0 _ _ _ rfl (Nat.zero_le _) hst got (ItemsOf.nil _) fun s' acc' c' hm got' items => ?_⟩
  show wpAny _ A (load s.heap.objs.size >>= _) _ _ s'
  refine wpAny_bind (wpAny_load got' (wpAny_pure (hQ s' acc' (fun b ob e => ?_) (Nat.le_of_lt (Heap.lt_size got')) hm.gens hm.os items)))
  have hlt := Heap.lt_size e
  refine hm.heap b ob (fun hb => ?_) (Heap.get?_push_of_some _ (hH ▸ Heap.get?_push_of_some _ e))
  rcases List.mem_cons.mp hb with h | h
  · rw [h] at hlt
    exact Nat.lt_irrefl _ hlt
  · rw [List.mem_singleton.mp h, sz] at hlt
    exact Nat.lt_irrefl _ (Nat.lt_of_succ_lt hlt)
theorem sorted_text {z : Str} {t : Tok} {Q : Value → Shared → Prop} (hh : A.handled = none) (h64 : z.cps.size < 64)
    (hQ : ∀ s' p (out : Array Value) (c : Nat) (ys : List Str), (∀ b o, s.heap.get? b = some o → s'.heap.get? b = some o) → s'.gens = s.gens → s'.os = s.os → s.heap.objs.size ≤ p →
      s'.heap.get? p = some (seqObj "list" out c) → StrsAre out.toList ys → sortedS ys = true → ys.Perm (Sl.signsOf z) → Q (.ref p) s') :
    wpAny (model P w) A (call (.builtin "sorted") [.str z t]) Q E s := by
  have zs : z.cps.size ≤ sizeLine := by rw [sizeLine_eq]; omega
  refine Calls.call_function_entry kind_sorted plain_sorted entry_sorted (args_sorted1 _) ?_
  unfold Builtin.«sorted»
  refine wpAny_bind (m := checkCount "sorted" 1 1 _) (wpAny_pure ?_)
  refine wpAny_bind (collect_text (A := A.in1) hh z t zs fun s1 acc k1 grown g1 o1 hi => ?_)
  have hv := Sl.signs_vals hi
  have hws := hv.strs
  have hvl : acc.toList.length = z.cps.size := by rw [← hv.length, List.length_map]; unfold Sl.signsOf; rw [List.length_map, Array.length_toList]
  refine wpAny_bind (wpAny_newList ?_ (by rw [hvl]; exact zs))
  have hoL : (s1.heap.push (seqObj "list" acc.toList.toArray 0)).get? s1.heap.objs.size = some (seqObj "list" acc.toList.toArray 0) := Heap.get?_push_size _ rfl
  refine wpAny_bind (wpAny_holding (wpAny_call_entry slot_list_sort ⟨_, hoL, rfl⟩ entry_list_sort (list_sort_treeK strKind_oneLt hoL hws.keysOf (fun v₁ v₂ rest e => keyKind_strs (by rw [← e]; exact hws)) (by rw [hvl]; exact h64) fun st' hp hs => ⟨_, rfl, ?_⟩) (args_list_sort _)))
  obtain ⟨ys, q1, q2, q3⟩ := sorted_out_str hws hp hs
  obtain ⟨c, hc⟩ := sortedHeap_at (vs := acc.toList) (out := (arrOf st').map (·.2)) hoL
  refine wpAny_pure ⟨_, rfl, hQ _ s1.heap.objs.size _ c ys (fun b u e => ?_) g1 o1 grown hc q1 q3 q2⟩
  have q := k1 b u e
  have hlt := Heap.lt_size q
  show (sortedHeap (s1.heap.push (seqObj "list" acc.toList.toArray 0)) s1.heap.objs.size acc.toList ((arrOf st').map (·.2))).get? b = some u
  rw [sortedHeap_old (Nat.ne_of_lt hlt) (by rw [size_push']; exact Nat.lt_succ_of_lt hlt)]
  exact Heap.get?_push_of_some _ q
end
section
variable {X : Cx}
def rSortedT0 : List V → Hp → VK → Prop := fun vs H Q => ∃ z : Str, vs = [V.str z] ∧ z.cps.size < 64 ∧ ∀ (ys : List Str) (p : Addr), ys.Perm (Sl.sgL z) → sortedS ys = true → H p = none → Q (.ref p) (upd H p (.lst (ys.map V.str)))
theorem cr_sortedT0 (hc : X.calm = true) : CallR X (.builtin "sorted") rSortedT0 := by
  intro pins s σ H vs us Q I r h
  obtain ⟨z, rfl, h64, q⟩ := h
  obtain ⟨u, rfl, t, rfl⟩ := vals1 r
  refine sorted_text (I.ok.hd hc) h64 fun s' p out c ys k g o hp hg hi hs pm => ?_
  have hlen : (ys.map V.str).length ≤ sizeLine := by
    rw [List.length_map, pm.length_eq, sizeLine_eq]
    unfold Sl.signsOf
    rw [List.length_map, Array.length_toList]
    omega
  have hn : H p = none := I.hok.fresh hp
  have J : Inv X pins σ (upd H p (.lst (ys.map V.str))) { s with heap := s'.heap, gens := s'.gens, drawn := s'.drawn, toks := s'.toks } :=
    I.call (ch := []) (Un.laid k hp hn) (I.hok.laid k hp ⟨hlen, out.toList, c, vals_of_strs hi, hg⟩) (by rw [g]; exact I.bare) (fun _ z => nomatch z)
  obtain ⟨s'h, s'g, s'd, s't, s'o⟩ := s'
  have e : s'o = s.os := o
  subst e
  exact ⟨.ref p, _, J, rfl, q ys p pm hs hn⟩
end
end TxS
/-! ## X5 -/
set_option Elab.async false
set_option linter.all false
set_option maxRecDepth 100000
set_option maxHeartbeats 4000000
/-! x == y by x's own ==, whatever it answers -/
namespace Sl
open PySem PySem.Spec PyProof.Rows L2 TxS
section
variable {X : Cx}
/-- x == y, x an instance of the class at C whose own == keeps S, y of a type that has no say -/
def rEqO (K : PySem.W.Frag) (C : Addr) (S : Sp) (E : XK) : R2 := fun x y H Q => ∃ (a dx : Addr) (fs : List (Str × V)) (t : Value), x = .ref a ∧ H a = some (.ins C dx fs) ∧ TyX K H y t ∧ PySem.W.notFirst K C t = true ∧ S [.ref a, y] H (fun v H' => (∃ b, v = .bl b) ∧ Q v H') E
theorem op_eqO {CX : CXT} {n : Nat} {C f : Addr} {fd : FuncData} {ps : List Str} {S : Sp} {E : XK} (F : FnOk X.prog X.w X.K X.mg X.base CX n f fd ps S) (hr : Room n X.A)
    (hs : PySem.W.findIn X.K (.ref C) "__eq__" = some (some (.ref f))) (hf : PySem.W.isFn X.K (.ref f) = true) (hb : Binds X.K fd ps []) (hx : Passes CX X E) : OpR X (compareOp .Eq) (rEqO X.K C S E) := by
  intro pins s σ H x y v u Q I rx ry h
  obtain ⟨a, dx, fs, t, rfl, ha, ty, hn, hsp⟩ := h
  cases (show v = Value.ref a from rx)
  obtain ⟨mA, J, _⟩ := ins_get I.hok ha
  obtain ⟨od, J, _⟩ := J.look
  obtain ⟨m, hF⟩ := I.fr
  obtain ⟨Z, KX, z, _⟩ := kit_of I ry ty
  have sb : Sub X n X.A := ⟨hr, rfl⟩
  refine PySem.W.cmp_K (op := .Eq) sb.room.units0 hF I.ok.mod.kin J (KX.ty _ _ I.kIn z) hn hs hf ?_
  have e0 : Env0 X.prog X.w X.K X.mg X.base X.A X.stack s H := by
    have e := I.env0
    exact ⟨by rw [sb.fr]; exact e.frames, e.mod, e.bs, e.bsz, e.funs, e.frf, e.hok, e.bare⟩
  have hl := F.len _ _ _ _ hsp
  have r2 : Vals [V.ref a, y] [Value.ref a, u] := .cons rfl (.cons ry .nil)
  refine wpAny_call (codeAny_mono (F.run X.A X.stack s H ⟨[Value.ref a, u], []⟩ [Value.ref a, u] [V.ref a, y] _ E sb.room e0 (by
    have := hb s [Value.ref a, u] I.kIn (by simpa using hl)
    simpa using this) r2 hsp) fun r s' hq => ?_)
  cases r with
  | error e => exact hx pins σ H s e s' I hq
  | ok fl =>
    cases fl with
    | ret w =>
      obtain ⟨z, H', I', rz, ⟨b, ez⟩, q⟩ := I.after hq
      subst ez
      cases rz
      exact ⟨.bl b, H', I', rfl, q⟩
    | next => exact False.elim hq
    | brk => exact False.elim hq
    | cont => exact False.elim hq
end
end Sl
/-! ## X6 -/
set_option Elab.async false
set_option linter.all false
set_option maxRecDepth 100000
set_option maxHeartbeats 4000000
/-! x != y by x's own == -/
namespace Sl
open PySem PySem.Spec PyProof.Rows PySem.SeqAt Builtin
section
variable {M : Model} {prog : Program} {w : World} {A : Around} {E : Value → Shared → Prop} {s : Shared} {K : PySem.W.Frag} {x C f : Addr} {ox : Obj} {od : Option Obj} {b tb : Value}
theorem ifBound_ne {args : List Value} {Q : Option Value → Shared → Prop} (X : K.In s.heap) (I : PySem.W.InstAt s.heap x ox C od) (hs : PySem.W.findIn K (.ref C) "__ne__" = some (some (.builtin "object.__ne__")))
    (h : wpAny M A (call (.builtin "object.__ne__") (.ref x :: args)) (fun v => Q (some v)) E s) : wpAny M A (callSpecialIfBound? (.ref x) "__ne__" args) Q E s := by
  simp only [callSpecialIfBound?, bindSpecialIfBound?]
  refine wpAny_holding (wpAny_bind (wpAny_bind (wpAny_bind (I.type.here ((PySem.W.looks_findIn X hs).here ?_)))))
  refine wpAny_bind (wpAny_askSetting (wpAny_ite ?_))
  have fin : wpAny M A (call (.builtin "object.__ne__") ([.ref x] ++ args) >>= fun v => pure (some v)) Q E s := wpAny_bind (wpAny_mono h (fun v s' h' => wpAny_pure h') fun _ _ h' => h')
  split
  · exact wpAny_bind (wpAny_of_eq (F.cmp_object.ne.bind _) (wpAny_pure (by exact fin)))
  · exact wpAny_tryCatch (wpAny_bind (wpAny_of_eq (F.cmp_object.ne.bind _) (wpAny_pure (by exact fin))))
theorem ne_entry {Q : Fin → Shared → Prop} (X : K.In s.heap) (I : PySem.W.InstAt s.heap x ox C od) (hu : A.units < cLine) (hs : PySem.W.findIn K (.ref C) "__eq__" = some (some (.ref f))) (hf : PySem.W.isFn K (.ref f) = true)
    (h : wpAny (model prog w) A (call (.ref f) [.ref x, b]) (fun v s' => ∃ c, v = .bool c ∧ Q (.done (.ret (.bool (!c)))) s') E s) : wpAny (model prog w) A (Builtin.«object.__ne__» ⟨[.ref x, b], []⟩) Q E s := by
  unfold Builtin.«object.__ne__»
  repeat (first
    | with_reducible refine wpAny_cRoomFor hu ?_
    | (refine wpAny_bind (m := callSpecialIfBound? (.ref x) (Str.ofString "__eq__") [b])
        (PySem.W.ifBound_K X I hs hf (wpAny_mono h (fun r s' hr => by
          obtain ⟨c, rfl, hq⟩ := hr
          repeat (first | exact hq | exact wpAny_pure hq | exact wpAny_truthy_bool hq | (refine wpAny_bind (m := truthy (.bool _)) (wpAny_truthy_bool ?_)) | wp_step)) fun _ _ e => e)))
    | wp_step)
theorem ne_own {Q : Value → Shared → Prop} (hu : A.units + 1 < cLine) (X : K.In s.heap) (I : PySem.W.InstAt s.heap x ox C od) (hm : PySem.W.mroIn K C (.type "object") = some true)
    (hne : PySem.W.findIn K (.ref C) "__ne__" = some (some (.builtin "object.__ne__"))) (hs : PySem.W.findIn K (.ref C) "__eq__" = some (some (.ref f))) (hf : PySem.W.isFn K (.ref f) = true)
    (hb : PySem.W.Looks (model prog w) s.heap (typeOf b) tb) (hn : PySem.W.notFirst K C tb = true)
    (h : wpAny (model prog w) A.in1 (call (.ref f) [.ref x, b]) (fun v s' => ∃ c, v = .bool c ∧ Q (.bool (!c)) s') E s) : wpAny (model prog w) A (richCompare .NotEq (.ref x) b) Q E s := by
  have one : wpAny (model prog w) A (tryCompare (.ref x) "__ne__" b) (fun r s' => ∃ v, r = some v ∧ Q v s') E s := by
    unfold tryCompare
    refine wpAny_bind (ifBound_ne X I hne ?_)
    refine wpAny_call (codeAny_call_builtin F.cmp_object.ne.plain F.cmpEntry_ne (PySem.W.check_slot F.cmpKind_ne F.cmpSplit_ne (I.type.andThen (PySem.W.looks_mroIn X hm)) (F.cmpArgs_ne _ _) (ne_entry (A := A.in1) X I (by show A.units + 1 < cLine; exact hu) hs hf (wpAny_mono h (fun v s' hv => ?_) fun _ _ e => e))))
    obtain ⟨c, rfl, hq⟩ := hv
    exact ⟨c, rfl, wpAny_pure ⟨_, rfl, hq⟩⟩
  unfold richCompare
  simp only [oneThing_ref, cmpInfo_NotEq]
  refine wpAny_holding (wpAny_bind (wpAny_cRoomFor (by omega) ?_))
  refine wpAny_bind (I.type.here (wpAny_bind (hb.here ?_)))
  split
  · rename_i q
    have e : PySem.W.subIn K tb (.ref C) = some false := by
      rcases Bool.or_eq_true_iff.mp hn with e | e
      · rw [beq_iff_eq.mp e] at q; simp at q
      · exact beq_iff_eq.mp e
    refine wpAny_bind ((PySem.W.looks_subIn X e).here ?_)
    simp only [Bool.false_eq_true, if_false]
    refine wpAny_bind (wpAny_mono one (fun r s' z => ?_) fun _ _ e => e)
    obtain ⟨v, rfl, hq⟩ := z
    exact wpAny_pure hq
  · refine wpAny_bind (wpAny_pure ?_)
    simp only [Bool.false_eq_true, if_false]
    refine wpAny_bind (wpAny_mono one (fun r s' z => ?_) fun _ _ e => e)
    obtain ⟨v, rfl, hq⟩ := z
    exact wpAny_pure hq
end
end Sl
/-! ## X7 -/
set_option Elab.async false
set_option linter.all false
set_option maxRecDepth 100000
set_option maxHeartbeats 4000000
/-! x != y by x's own == -/
namespace Sl
open PySem PySem.Spec PyProof.Rows L2 TxS
section
variable {X : Cx}
def rNeO (K : PySem.W.Frag) (C : Addr) (S : Sp) (E : XK) : R2 := fun x y H Q => ∃ (a dx : Addr) (fs : List (Str × V)) (t : Value), x = .ref a ∧ H a = some (.ins C dx fs) ∧ TyX K H y t ∧ PySem.W.notFirst K C t = true ∧ S [.ref a, y] H (fun v H' => ∃ b, v = .bl b ∧ Q (.bl (!b)) H') E
theorem op_neO {CX : CXT} {n : Nat} {C f : Addr} {fd : FuncData} {ps : List Str} {S : Sp} {E : XK} (F : FnOk X.prog X.w X.K X.mg X.base CX n f fd ps S) (hr : Room (n + 1) X.A)
    (hm : PySem.W.mroIn X.K C (.type "object") = some true) (hne : PySem.W.findIn X.K (.ref C) "__ne__" = some (some (.builtin "object.__ne__")))
    (hs : PySem.W.findIn X.K (.ref C) "__eq__" = some (some (.ref f))) (hf : PySem.W.isFn X.K (.ref f) = true) (hb : Binds X.K fd ps []) (hx : Passes CX X E) : OpR X (compareOp .NotEq) (rNeO X.K C S E) := by
  intro pins s σ H x y v u Q I rx ry h
  obtain ⟨a, dx, fs, t, rfl, ha, ty, hn, hsp⟩ := h
  cases (show v = Value.ref a from rx)
  obtain ⟨mA, J, _⟩ := ins_get I.hok ha
  obtain ⟨od, J, _⟩ := J.look
  obtain ⟨m, hF⟩ := I.fr
  obtain ⟨Z, KX, z, _⟩ := kit_of I ry ty
  have sb0 : Sub X (n + 1) X.A := ⟨hr, rfl⟩
  have sb : Sub X n X.A.in1 := sb0.in1
  refine ne_own (Nat.lt_of_succ_lt (by have := hr.units; show X.A.units + 1 + 1 < cLine; omega)) I.kIn J hm hne hs hf (KX.ty _ _ I.kIn z) hn ?_
  have e0 : Env0 X.prog X.w X.K X.mg X.base X.A.in1 X.stack s H := by
    have e := I.env0
    exact ⟨by rw [sb.fr]; exact e.frames, e.mod, e.bs, e.bsz, e.funs, e.frf, e.hok, e.bare⟩
  have hl := F.len _ _ _ _ hsp
  have r2 : Vals [V.ref a, y] [Value.ref a, u] := .cons rfl (.cons ry .nil)
  refine wpAny_call (codeAny_mono (F.run X.A.in1 X.stack s H ⟨[Value.ref a, u], []⟩ [Value.ref a, u] [V.ref a, y] _ E sb.room e0 (by
    have := hb s [Value.ref a, u] I.kIn (by simpa using hl)
    simpa using this) r2 hsp) fun r s' hq => ?_)
  cases r with
  | error e => exact hx pins σ H s e s' I hq
  | ok fl =>
    cases fl with
    | ret w =>
      obtain ⟨z, H', I', rz, b, ez, q⟩ := I.after hq
      subst ez
      cases rz
      exact ⟨b, rfl, .bl (!b), H', I', rfl, q⟩
    | next => exact False.elim hq
    | brk => exact False.elim hq
    | cont => exact False.elim hq
end
end Sl
/-! ## X10 -/
set_option Elab.async false
set_option linter.all false
set_option maxRecDepth 100000
set_option maxHeartbeats 4000000
/-! x == y, x of a built-in type, y with an own == -/
namespace Sl
open PySem PySem.Spec PyProof.Rows PySem.SeqAt Builtin
section
variable {prog : Program} {w : World} {A : Around} {E : Value → Shared → Prop} {s : Shared} {x l : Addr} {Q : Value → Shared → Prop}
theorem list_decl {o : Obj} (ho : s.heap.get? l = some o) (hc : o.cls = .type "list") (hI : PySem.W.Looks (model prog w) s.heap (isInstance (.ref x) (.type "list")) false) (q : Q .notImplemented s) : wpAny (model prog w) A (call (.builtin "list.__eq__") [.ref l, .ref x]) Q E s := by
  refine wpAny_call (codeAny_call_builtin F.slot_list_eq.plain F.entry_list_eq (F.slot_list_eq.check _ _ _ _ _ _ _ _ ⟨o, ho, hc⟩ (F.args_list_eq_2 _ _) ?_))
  unfold Builtin.«list.__eq__»
  refine wpAny_bind (m := slotArgs "__eq__" 1 _) (wpAny_pure ?_)
  refine wpAny_bind (hI.here ?_)
  rw [if_pos (by decide)]
  exact wpAny_pure q
theorem tuple_decl {o : Obj} (ho : s.heap.get? l = some o) (hc : o.cls = .type "tuple") (hI : PySem.W.Looks (model prog w) s.heap (isInstance (.ref x) (.type "tuple")) false) (q : Q .notImplemented s) : wpAny (model prog w) A (call (.builtin "tuple.__eq__") [.ref l, .ref x]) Q E s := by
  refine wpAny_call (codeAny_call_builtin F.slot_tuple_eq.plain F.entry_tuple_eq (F.slot_tuple_eq.check _ _ _ _ _ _ _ _ ⟨o, ho, hc⟩ (F.args_tuple_eq_2 _ _) ?_))
  unfold Builtin.«tuple.__eq__»
  refine wpAny_bind (m := slotArgs "__eq__" 1 _) (wpAny_pure ?_)
  refine wpAny_bind (hI.here ?_)
  rw [if_pos (by decide)]
  exact wpAny_pure q
theorem dict_decl {o : Obj} (ho : s.heap.get? l = some o) (hc : o.cls = .type "dict") (hI : PySem.W.Looks (model prog w) s.heap (isInstance (.ref x) (.type "dict")) false) (q : Q .notImplemented s) : wpAny (model prog w) A (call (.builtin "dict.__eq__") [.ref l, .ref x]) Q E s := by
  refine wpAny_call (codeAny_call_builtin F.slot_dict_eq.plain F.entry_dict_eq (F.slot_dict_eq.check _ _ _ _ _ _ _ _ ⟨o, ho, hc⟩ (F.args_dict_eq_2 _ _) ?_))
  unfold Builtin.«dict.__eq__»
  refine wpAny_bind (m := Builtin.Dict.dictSlotArgs "__eq__" _) ?_
  unfold Builtin.Dict.dictSlotArgs
  refine wpAny_bind (wpAny_notOrdered_dict ⟨o, ho, hc⟩ ?_)
  refine wpAny_bind (m := slotArgs "__eq__" 1 _) (wpAny_pure (wpAny_pure ?_))
  refine wpAny_bind (hI.here ?_)
  rw [if_pos (by decide)]
  exact wpAny_bind (wpAny_rule (wpAny_pure q))
theorem none_decl (q : Q .notImplemented s) : wpAny (model prog w) A (call (.builtin "NoneType.__eq__") [.none, .ref x]) Q E s :=
  call_gives F.slot_NoneType_eq_refl rfl F.entry_NoneType_eq (F.args_NoneType_eq_2 _ _) (NoneType___eq___none_ref_0 x) q
theorem int_ins (b : Int) (u : Tok) (l : Addr) (c : Value) (dd : Option Addr) (sl : Array (Option Value)) :
    Meets (Builtin.«int.__eq__» ⟨[.int b u, .ref l], []⟩) (fun _ R s => s.heap.get? l = some { cls := c, dict := dd, data := .plain, slots := sl } ∧ R (.ok (.ret .notImplemented)) s) :=
  .of_wp fun prog w A R s h => by obtain ⟨hp, g, d, tk, os⟩ := s; obtain ⟨hl, h⟩ := h; wp_walk using wpAny_loadPart' hl, wpAny_load hl; exact ⟨_, rfl, h⟩
theorem str_ins (b : Str) (u : Tok) (l : Addr) (c : Value) (dd : Option Addr) (sl : Array (Option Value)) :
    Meets (Builtin.«str.__eq__» ⟨[.str b u, .ref l], []⟩) (fun _ R s => s.heap.get? l = some { cls := c, dict := dd, data := .plain, slots := sl } ∧ R (.ok (.ret .notImplemented)) s) :=
  .of_wp fun prog w A R s h => by obtain ⟨hp, g, d, tk, os⟩ := s; obtain ⟨hl, h⟩ := h; wp_walk using wpAny_loadPart' hl, wpAny_load hl; exact ⟨_, rfl, h⟩
end
section
variable {prog : Program} {w : World} {A : Around} {E : Value → Shared → Prop} {s : Shared} {K : PySem.W.Frag} {x C f : Addr} {ox : Obj} {od : Option Obj} {a : Value} {Ta ida : String}
/-- a == x, where a's own type has no say -/
theorem eq_back {Q : Value → Shared → Prop} (hu : A.units < cLine) (X : K.In s.heap) (I : PySem.W.InstAt s.heap x ox C od) (ha : s.TypeIs a Ta) (hn : PySem.W.subIn K (.ref C) (.type Ta) = some false) (h1 : Slot Ta "__eq__" ida)
    (hd : ∀ Q' : Value → Shared → Prop, Q' .notImplemented s → wpAny (model prog w) A (call (.builtin ida) [a, .ref x]) Q' E s)
    (hs : PySem.W.findIn K (.ref C) "__eq__" = some (some (.ref f))) (hf : PySem.W.isFn K (.ref f) = true)
    (h : wpAny (model prog w) A (call (.ref f) [.ref x, a]) (PySem.W.CmpBack Q) E s) : wpAny (model prog w) A (richCompare .Eq a (.ref x)) Q E s := by
  have one : wpAny (model prog w) A (tryCompare (.ref x) "__eq__" a) (fun r s' => ∃ v, r = some v ∧ Q v s') E s := by
    unfold tryCompare
    refine wpAny_bind (PySem.W.ifBound_K X I hs hf (wpAny_mono h (fun v s' hv => ?_) fun _ _ e => e))
    cases v <;> first | exact hv.elim | exact wpAny_pure ⟨_, rfl, hv⟩
  unfold richCompare
  simp only [ha.oneThing_none, cmpInfo]
  refine wpAny_holding (wpAny_bind (wpAny_cRoomFor hu ?_))
  refine wpAny_bind (wpAny_typeOf ha (wpAny_bind (I.type.here ?_)))
  have hne : (Value.type Ta != Value.ref C) = true := rfl
  simp only [hne, if_true]
  refine wpAny_bind ((PySem.W.looks_subIn X hn).here ?_)
  simp only [Bool.false_eq_true, if_false, Bool.not_false, if_true]
  refine wpAny_bind (m := tryCompare a _ _) (wpAny_tryCompare_declines ha h1 (hd _ ⟨rfl, ?_⟩))
  refine wpAny_bind (wpAny_mono one (fun r s' z => ?_) fun _ _ e => e)
  obtain ⟨v, rfl, hq⟩ := z
  exact wpAny_pure hq
end
end Sl
/-! ## X11 -/
set_option Elab.async false
set_option linter.all false
set_option maxRecDepth 100000
set_option maxHeartbeats 4000000
/-! x == y, x of a built-in type, y with an own == -/
namespace Sl
open PySem PySem.Spec PyProof.Rows L2 TxS
/-- a value of a built-in type -/
inductive Thg (H : Hp) : V → Prop
  | non : Thg H .non
  | int (i : Int) : Thg H (.int i)
  | str (z : Str) : Thg H (.str z)
  | lst {a : Addr} {xs : List V} (e : H a = some (.lst xs)) : Thg H (.ref a)
  | tup {a : Addr} {xs : List V} (e : H a = some (.tup xs)) : Thg H (.ref a)
  | dK {a : Addr} {kvs : List (Key × V)} (e : H a = some (.dK kvs)) : Thg H (.ref a)
theorem Thg.ext {H H' : Hp} {x : V} (h : Thg H x) (e : Ext H H') : Thg H' x := by
  cases h with
  | non => exact .non
  | int i => exact .int i
  | str z => exact .str z
  | lst q => exact .lst (e _ _ q)
  | tup q => exact .tup (e _ _ q)
  | dK q => exact .dK (e _ _ q)
def builtT : List String := ["NoneType", "int", "str", "list", "tuple", "dict"]
theorem Thg.ty {K : PySem.W.Frag} {H : Hp} {x : V} (h : Thg H x) : ∃ T ∈ builtT, TyX K H x (.type T) := by
  cases h with
  | non => exact ⟨_, by decide, .base .non⟩
  | int i => exact ⟨_, by decide, .base (.int i)⟩
  | str z => exact ⟨_, by decide, .base (.str z)⟩
  | lst q => exact ⟨_, by decide, .base (.lst q)⟩
  | tup q => exact ⟨_, by decide, .base (.tup q)⟩
  | dK q => exact ⟨_, by decide, .base (.dK q)⟩
/-- the class at C is under none of these -/
structure NotB (K : PySem.W.Frag) (C : Addr) : Prop where
  sub : ∀ T ∈ builtT, PySem.W.subIn K (.ref C) (.type T) = some false
  kit : ∀ T ∈ builtT, PySem.W.kitOne K (.type T) (.ref C) = some false
  fst : ∀ T ∈ builtT, PySem.W.notFirst K C (.type T) = true
section
variable {X : Cx}
def rEqX (C : Addr) (S : Sp) (E : XK) : R2 := fun x y H Q => ∃ (a dx : Addr) (fs : List (Str × V)), y = .ref a ∧ H a = some (.ins C dx fs) ∧ Thg H x ∧ S [.ref a, x] H (fun v H' => (∃ b, v = .bl b) ∧ Q v H') E
theorem op_eqX {CX : CXT} {n : Nat} {C f : Addr} {fd : FuncData} {ps : List Str} {S : Sp} {E : XK} (F : FnOk X.prog X.w X.K X.mg X.base CX n f fd ps S) (hr : Room n X.A) (nb : NotB X.K C)
    (hs : PySem.W.findIn X.K (.ref C) "__eq__" = some (some (.ref f))) (hf : PySem.W.isFn X.K (.ref f) = true) (hb : Binds X.K fd ps []) (hx : Passes CX X E) : OpR X (compareOp .Eq) (rEqX C S E) := by
  intro pins s σ H x y v u Q I rx ry h
  obtain ⟨a, dx, fs, rfl, ha, th, hsp⟩ := h
  cases (show u = Value.ref a from ry)
  obtain ⟨mA, J, _⟩ := ins_get I.hok ha
  have hob := J.obj
  obtain ⟨od, J, _⟩ := J.look
  have sb : Sub X n X.A := ⟨hr, rfl⟩
  have hu : X.A.units < cLine := sb.room.units0
  have e0 : Env0 X.prog X.w X.K X.mg X.base X.A X.stack s H := by
    have e := I.env0
    exact ⟨by rw [sb.fr]; exact e.frames, e.mod, e.bs, e.bsz, e.funs, e.frf, e.hok, e.bare⟩
  have hl := F.len _ _ _ _ hsp
  have r2 : Vals [V.ref a, x] [Value.ref a, v] := .cons rfl (.cons rx .nil)
  have own : wpAny (model X.prog X.w) X.A (call (.ref f) [.ref a, v]) (PySem.W.CmpBack fun w s' => ∃ y H', Inv X pins σ H' s' ∧ RelV y w ∧ Q y H') X.xe s := by
    refine wpAny_call (codeAny_mono (F.run X.A X.stack s H ⟨[Value.ref a, v], []⟩ [Value.ref a, v] [V.ref a, x] _ E sb.room e0 (by
      have := hb s [Value.ref a, v] I.kIn (by simpa using hl)
      simpa using this) r2 hsp) fun r s' hq => ?_)
    cases r with
    | error e => exact hx pins σ H s e s' I hq
    | ok fl =>
      cases fl with
      | ret w =>
        obtain ⟨z, H', I', rz, ⟨b, ez⟩, q⟩ := I.after hq
        subst ez
        cases rz
        exact ⟨.bl b, H', I', rfl, q⟩
      | next => exact False.elim hq
      | brk => exact False.elim hq
      | cont => exact False.elim hq
  have lk : ∀ T ∈ builtT, PySem.W.Looks (model X.prog X.w) s.heap (isInstance (.ref a) (.type T)) false := fun T hT => J.type.andThen (PySem.W.looks_subIn I.kIn (nb.sub T hT))
  cases th with
  | non =>
    cases (show v = Value.none from rx)
    exact eq_back hu I.kIn J (Ta := "NoneType") rfl (nb.sub _ (by decide)) PySem.F.slot_NoneType_eq_refl (fun _ q => none_decl q) hs hf own
  | int i =>
    obtain ⟨t, e⟩ := (show ∃ t, v = Value.int i t from rx)
    cases e
    exact eq_back hu I.kIn J (Ta := "int") (typeIs_int s i t) (nb.sub _ (by decide)) PySem.F.slot_int_eq (fun _ q => call_meets PySem.F.slot_int_eq (typeIs_int s i t) PySem.F.entry_int_eq (PySem.F.args_int_eq_2 _ _) (int_ins i t a (.ref C) (some dx) #[]) ⟨J.at_, q⟩) hs hf own
  | str z =>
    obtain ⟨t, e⟩ := (show ∃ t, v = Value.str z t from rx)
    cases e
    exact eq_back hu I.kIn J (Ta := "str") (typeIs_str s z t) (nb.sub _ (by decide)) PySem.F.slot_str_eq (fun _ q => call_meets PySem.F.slot_str_eq (typeIs_str s z t) PySem.F.entry_str_eq (PySem.F.args_str_eq_2 _ _) (str_ins z t a (.ref C) (some dx) #[]) ⟨J.at_, q⟩) hs hf own
  | @lst l xs e =>
    cases (show v = Value.ref l from rx)
    obtain ⟨us, r, ⟨o, n, e1, hc, _, hd⟩, _⟩ := I.list (SqL.of (K := X.K) e)
    exact eq_back hu I.kIn J (Ta := "list") ⟨o, e1, hc⟩ (nb.sub _ (by decide)) PySem.F.slot_list_eq (fun _ q => list_decl e1 hc (lk _ (by decide)) q) hs hf own
  | @tup l xs e =>
    cases (show v = Value.ref l from rx)
    obtain ⟨us, r, ⟨o, e1, hc, n, hd⟩, _⟩ := I.tuple (SqT.of (K := X.K) e)
    exact eq_back hu I.kIn J (Ta := "tuple") ⟨o, e1, hc⟩ (nb.sub _ (by decide)) PySem.F.slot_tuple_eq (fun _ q => tuple_decl e1 hc (lk _ (by decide)) q) hs hf own
  | @dK l kvs e =>
    cases (show v = Value.ref l from rx)
    obtain ⟨_, _, vs, kv, o, es, ep, ho, ⟨hc, _⟩, _⟩ := dk_of I.hok e
    exact eq_back hu I.kIn J (Ta := "dict") ⟨o, ho, hc⟩ (nb.sub _ (by decide)) PySem.F.slot_dict_eq (fun _ q => dict_decl ho hc (lk _ (by decide)) q) hs hf own
end
end Sl
/-! ## L2 -/
set_option Elab.async false
set_option linter.all false
set_option maxRecDepth 100000
set_option maxHeartbeats 4000000
set_option pp.maxSteps 1500
set_option pp.deepTerms false
/-! a language's own == -/
namespace Sl
open PySem PySem.Spec PyProof.Rows L2
abbrev sEqL : Stmt := inClass (top 37) 11
theorem nats_dp {K : PySem.W.Frag} {H : Hp} : ∀ l : List Nat, DpAll K H (l.map fun n => V.int (n : Nat)) (l.map fun n => PyData.int (n : Nat))
  | [] => .nil
  | n :: l => .cons (.int n) (nats_dp l)
theorem nats_can : ∀ l : List Nat, PyData.canLayAll0 (l.map fun n => PyData.int (n : Nat)) = true ∧ PyData.depthAll (l.map fun n => PyData.int (n : Nat)) ≤ 4
  | [] => ⟨rfl, by simp [PyData.depthAll]⟩
  | n :: l => by
    obtain ⟨k1, k2⟩ := nats_can l
    refine ⟨?_, ?_⟩
    · show (PyData.canLay0 (.int (n : Nat)) && PyData.canLayAll0 (l.map fun n => PyData.int (n : Nat))) = true
      rw [k1, Bool.and_true]
      simp [PyData.canLay0]
    · simp only [List.map_cons, PyData.depthAll, PyData.depth]
      omega
theorem nats_shaped (l : List Nat) : SeqAt.shaped (.tuple (l.map fun n => PyData.int (n : Nat))) = true := by
  obtain ⟨k1, k2⟩ := nats_can l
  have c0 : PyData.canLay0 (.tuple (l.map fun n => PyData.int (n : Nat))) = true := by
    rw [PyData.canLay0]
    exact k1
  show (PyData.canLay0 _ && decide _) = true
  rw [c0, Bool.true_and, decide_eq_true_eq]
  simp only [PyData.depth]
  omega
theorem nats_eqv : ∀ a : List Nat, PyData.eqvAll (a.map fun n => PyData.int (n : Nat)) (a.map fun n => PyData.int (n : Nat)) = true
  | [] => rfl
  | x :: a => by
    simp only [List.map_cons, PyData.eqvAll, nats_eqv a, Bool.and_true]
    simp [PyData.eqv]
theorem paired_get {α β : Type} {R : α → β → Prop} : ∀ {xs : List α} {ys : List β}, xs.length = ys.length → (∀ (i : Nat) (x : α) (y : β), xs[i]? = some x → ys[i]? = some y → R x y) → Paired R xs ys
  | [], [], _, _ => .nil
  | x :: xs, y :: ys, h, k => .cons (k 0 x y rfl rfl) (paired_get (Nat.succ.inj h) fun i a b ha hb => k (i + 1) a b ha hb)
  | [], _ :: _, h, _ => nomatch h
  | _ :: _, [], h, _ => nomatch h
theorem rows_eqV {K : PySem.W.Frag} {H : Hp} {rs rs' : List Addr} {sg : List Str} {δ δ' : Nat → Str → Nat} (l : rs.length = rs'.length) (a : RowsD H rs sg δ) (b : RowsD H rs' sg δ') (e : ∀ i, i < rs.length → ∀ c ∈ sg, δ i c = δ' i c) : Paired (EqV K H 2) (rs.map V.ref) (rs'.map V.ref) := by
  refine paired_get (by rw [List.length_map, List.length_map, l]) fun i x y hx hy => ?_
  obtain ⟨r, hr, rfl⟩ := at_map hx
  obtain ⟨r', hr', rfl⟩ := at_map hy
  have li := (List.getElem?_eq_some_iff.mp hr).1
  refine .inr (.inr (.inr ⟨r, r', _, _, rfl, rfl, a i r hr, b i r' hr', by unfold rowD; rw [List.length_map, List.length_map], fun p hp => ?_⟩))
  obtain ⟨c, hc, rfl⟩ := List.mem_map.mp hp
  refine ⟨_, row_val hc, .inl ⟨?_, rfl⟩⟩
  show V.int (δ i c : Nat) = V.int (δ' i c : Nat)
  rw [e i li c hc]
def spEqL (K : PySem.W.Frag) (C : Addr) : Sp := fun vs H Q _ => ∃ (p q : Addr) (z : Str) (M : Nat) (δ δ' : Nat → Str → Nat) (found live live' : List Nat), vs = [.ref p, .ref q] ∧ LangAt C H p z M δ found live ∧ LangAt C H q z M δ' found live' ∧ (∀ i, i < M → ∀ c ∈ sgL z, δ i c = δ' i c) ∧ Q (.bl true) H
section
variable {P : Program} {w : World} {K : PySem.W.Frag} {mg : Str → Option Value} {base : Heap}
theorem scEqL : FnScope ["self", "other"] ["self", "other"] (defScope sEqL) := ⟨rfl, rfl, rfl, by decide +kernel, rfl, by decide +kernel, by decide +kernel⟩
theorem ok_eqL {f C : Addr} {fd : FuncData} (F : Fun K "__eq__" "Language.__eq__" sEqL f fd) (T : LgC K C) (iC : C8.InsC K C) (gC : mg "Language" = some (.ref C)) (zz : mg "isinstance" = none) :
    FnOk P w K mg base CX0 1 f fd ["self", "other"] (spEqL K C) := by
  refine F.ok scEqL (fun vs H Q E h => ?_) (fun cdv A0 outer s H vs Q E hr h => ?_)
  · obtain ⟨p, q, z, M, δ, δ', found, live, live', rfl, _⟩ := h
    rfl
  · obtain ⟨p, q, z, M, δ, δ', found, live, live', rfl, LA, LB, ee, k⟩ := h
    have hu0 := hr.units
    obtain ⟨dx, fs, L, rs, Me, Li, hp, f1, f2, hL, lrs, hrs, f3, hMe, _⟩ := LA.ex
    obtain ⟨dy, gs, L', rs', Me', Li', hq, g1, g2, hL', lrs', hrs', g3, hMe', _⟩ := LB.ex
    refine ⟨_, pss_cons (ps_if (pt_not (pt_val (pe_callB call_isi (by rfl) zz (by decide +kernel) (pa_cons (pv 1) (pa_cons (pe_glob (v := .ref C) (by rfl) gC (show RelV (V.ref C) (Value.ref C) from rfl)) pa_nil))))) (pss_one (ps_ret pe_bl)) pss_nil)
      (pss_one (ps_ret (pe_and (pe_cmpR op_eq (pe_fld (pv 0) rfl) (pe_fld (pv 1) rfl) (nomark _))
        (pe_and (pe_cmpR (op_eqV hu0) (pe_fld (pv 0) rfl) (pe_fld (pv 1) rfl) (nomark _))
        (pe_one (pe_cmpR (op_eqD hu0) (pe_fld (pv 0) rfl) (pe_fld (pv 1) rfl) (nomark _))))))), ?_⟩
    refine ⟨_, rfl, .ref q, .ref C, .ref C, .ref C, true, rfl, .own C, .base (TyOf.ins hq iC.cl iC.ha iC.hn iC.htk iC.hm), iC.me, true, rfl, iteF ?_⟩
    refine ⟨_, rfl, p, C, dx, fs, _, rfl, hp, T.cl, T.nG, f1, _, rfl, q, C, dy, gs, _, rfl, hq, T.cl, T.nG, g1, rfl, ?_⟩
    have e1 : decide (V.str z = V.str z) = true := decide_eq_true rfl
    rw [e1]
    refine ⟨_, rfl, iteT ?_⟩
    refine ⟨_, rfl, p, C, dx, fs, _, rfl, hp, T.cl, T.nS, f2, _, rfl, q, C, dy, gs, _, rfl, hq, T.cl, T.nS, g2, 2, by decide, .inl ⟨L, L', _, _, rfl, rfl, SqL.of hL, SqL.of hL', rows_eqV (by rw [lrs, lrs']) hrs hrs' (by rw [lrs]; exact ee)⟩, ?_⟩
    refine ⟨_, rfl, iteT ?_⟩
    refine ⟨_, rfl, p, C, dx, fs, _, rfl, hp, T.cl, T.nM, f3, _, rfl, q, C, dy, gs, _, rfl, hq, T.cl, T.nM, g3, .tuple _, .tuple _, .tup (SqT.of hMe) (nats_dp found), .tup (SqT.of hMe') (nats_dp found), nats_shaped found, nats_shaped found, ?_⟩
    have e2 : PyData.eqv (.tuple (found.map fun n => PyData.int (n : Nat))) (.tuple (found.map fun n => PyData.int (n : Nat))) = true := by
      simp only [PyData.eqv, nats_eqv]
    rw [e2]
    exact k
end
end Sl
/-! ## Q7 -/
set_option Elab.async false
set_option linter.all false
set_option maxRecDepth 100000
set_option maxHeartbeats 4000000
/-! repr of what is nested; defs that call it: nothing is being shown around them -/
namespace Sl
open PySem PySem.Spec PyProof.Rows L2
/-- as FnOk, where nothing is being shown around the call -/
structure FnG (P : Program) (w : World) (K : PySem.W.Frag) (mg : Str → Option Value) (base : Heap) (CX : CXT) (k : Nat) (f : Addr) (fd : FuncData) (ps : List Str) (sp : Sp) : Prop where
  len : ∀ vs H Q E, sp vs H Q E → vs.length = ps.length
  run : ∀ (A : Around) (outer : List Env) (s : Shared) (H : Hp) (args : Args) (us : List Value) (vs : List V) (Q : VK) (E : XK), A.guards = some [] → Room k A → Env0 P w K mg base A outer s H → BindsTo s fd args (ps.zip us) → Vals vs us → sp vs H Q E →
    codeAny (model P w) A (.call (.ref f) args) (CR CX outer P w H s Q E) s
theorem deeper_guards {A : Around} (env : Env) (g : A.guards = some []) : (A.deeper env).guards = some [] := by
  show A.guards = some []
  exact g
section
variable {P : Program} {w : World} {K : PySem.W.Frag} {mg : Str → Option Value} {base : Heap}
theorem Fun.okG {CX : CXT} {x qual : Str} {st : Stmt} {f : Addr} {fd : FuncData} {N ps : List Str} {k : Nat} {sp : Sp} (F : Fun K x qual st f fd) (S : FnScope N ps (defScope st)) (len : ∀ vs H Q E, sp vs H Q E → vs.length = ps.length)
    (hbody : ∀ (cdv : Value) (A : Around) (outer : List Env) (s : Shared) (H : Hp) (vs : List V) (Q : VK) (E : XK), (A.deeper (envOfC qual (defScope st) s.heap.objs.size f cdv)).guards = some [] → Room k (A.deeper (envOfC qual (defScope st) s.heap.objs.size f cdv)) → sp vs H Q E →
      ∃ t, PSs (cxOf CX P w K mg base N qual (defScope st) f cdv A outer s H E) (defBody st) t ∧ t { nx := fun _ H' => Q .non H', rt := Q } (start N vs) H) : FnG P w K mg base CX (k + 1) f fd ps sp := by
  obtain ⟨oc, od, kV, doc, pm, an, cdv, ct, osl, rfl, lk, hcd⟩ := F.ex
  refine ⟨len, fun A outer s H args us vs Q E hg hr e0 hb r hsp => ?_⟩
  have hl := len _ _ _ _ hsp
  have kin : K.In s.heap := e0.mod.kin.keeps fun b o e => (e0.bs b o e).1
  have lim : s.heap.NoLimit := e0.mod.nolimit.keeps fun b o e => (e0.bs b o e).1
  refine codeAny_call_function hr.depth (kin _ _ lk) rfl S.co S.gen rfl (PySem.W.codeRec_of kin hcd) (hb _ _ _ _ ?_)
  refine wpAny_newFunctionEnv_cells S.kind (fun ⟨n, v⟩ hy => ?_) fun env he s1 x => ?_
  · rcases S.par n (List.of_mem_zip hy).1 with q | q
    · exact .inl q
    · exact .inr ⟨q, PySem.W.cellsFrom_some _ _ _ (.inl q)⟩
  subst he
  refine ⟨lim.keeps x.toInCall.keep, codeAny_func ?_⟩
  obtain ⟨t, ht, hq⟩ := hbody cdv A outer s H vs Q E (deeper_guards _ hg) (hr.deeper _) hsp
  have I : L2.Inv (cxOf CX P w K mg base N qual (defScope st) f cdv A outer s H E) [] (start N vs) H s1 := inv_start S hr.hd e0 hl r x
  refine wpAny_mono (ht.run [] s1 (start N vs) H _ I hq) (fun fl s' hs => ?_) fun e s' hs => hs
  have fin : ∀ {σ' : L2.St} {H' : Hp} {v : V} {u : Value}, L2.Inv (cxOf CX P w K mg base N qual (defScope st) f cdv A outer s H E) [] σ' H' s' → L2.RelV v u → Q v H' → CE outer P w H s Q u s' :=
    fun {σ' H' v u} J rv q => ⟨v, H', J.os, J.bare, J.base, J.hok, rv, q⟩
  cases fl with
  | ret u =>
    obtain ⟨v, σ', H', J, rv, q⟩ := hs
    exact fin J rv q
  | next =>
    obtain ⟨σ', H', J, q⟩ := hs
    exact fin (v := V.non) (u := Value.none) J rfl q
  | brk =>
    obtain ⟨_, _, _, q⟩ := hs
    exact q.elim
  | cont =>
    obtain ⟨_, _, _, q⟩ := hs
    exact q.elim
end
section
variable {X : Cx} {CX : CXT} {k : Nat} {f : Addr} {fd : FuncData} {ps : List Str} {sp : Sp} {E : XK} {x : Str} {p pos : Pos} {e : Expr} {es : List Expr} {t : TA}
theorem pe_callG (G : FnG X.prog X.w X.K X.mg X.base CX k f fd ps sp) (gd : X.A.guards = some []) (hr : Room k X.A) (hg : Gl X x) (hm : X.mg x = some (.ref f)) (hk : PySem.W.keepIn X.K (.ref f) = true) (hb : L2.Binds X.K fd ps []) (hx : Passes CX X E)
    (ha : PA X (e :: es) t) (hdb : (x == ("__debug__" : Str)) = false := by decide) (he : starEach (e :: es) X.env = (false, eval e X.env) :: starEach es X.env := by rfl) (hpl : (backTo pos (starEach es X.env)).any (·.1) = false := by rfl) :
    PE X (.Call (.Name x p) (e :: es) [] pos) (tCall sp [] E t) := by
  refine ⟨fun pins s σ H Q I h => ?_⟩
  refine wpAny_Call_Name_kw (ld_glob I hg hm ?_ hdb)
  refine PySem.W.callWith_K (h₀ := X.base) I.ok.mod.kin hk (thn (ha.run pos pins s σ H _ I h) fun us s1 ⟨vs, H1, I1, r, q⟩ => ⟨I1.kIn, ?_⟩) he hpl
  have q : sp (vs ++ []) H1 _ E := q
  rw [List.append_nil] at q
  have hl : us.length = ps.length := by rw [← r.length]; exact G.len _ _ _ _ q
  have b := hb s1 us I1.kIn (by rw [List.append_nil]; exact hl)
  rw [List.append_nil] at b
  refine wpAny_call (codeAny_mono (G.run X.A X.stack s1 H1 ⟨us, []⟩ us vs _ E gd hr I1.env0 b r q) fun c s' hq => ?_)
  cases c with
  | error er => exact hx pins σ H1 s1 er s' I1 hq
  | ok fl =>
    cases fl with
    | ret u => exact I1.after hq
    | next => exact hq.elim
    | brk => exact hq.elim
    | cont => exact hq.elim
/-- repr of a list or tuple, however nested, without dicts -/
def rShown (K : PySem.W.Frag) : List V → Hp → VK → Prop := fun xs H Q => ∃ (a : Addr) (d : PyData), xs = [.ref a] ∧ Dp K H (.ref a) d ∧ d.showable = true ∧ d.hasDict = false ∧ d.depth ≤ 60 ∧ d.shown.length ≤ sizeLine ∧ Q (.str d.shown) H
theorem cr_shown (gd : X.A.guards = some []) (hu : X.A.units + 64 < cLine) : CallR X (.builtin "repr") (rShown X.K) := by
  intro pins s σ H xs us Q I r h
  obtain ⟨a, d, rfl, hd, sh, nd, dp, sz, q⟩ := h
  cases r with
  | cons ru rn =>
    cases rn
    obtain ⟨as, rd⟩ := Dp.reads I d _ _ hd ru
    cases ru
    exact repr_of_reads' rd sh (PyData.noDict_hsm nd) gd (by omega) (fun _ _ z => z) (fun h' u tk kk => ⟨.str d.shown, H, I.kept (t' := tk) kk, ⟨_, rfl⟩, q⟩) sz
end
end Sl
/-! ## L3 -/
set_option Elab.async false
set_option linter.all false
set_option maxRecDepth 100000
set_option maxHeartbeats 4000000
set_option pp.maxSteps 1500
set_option pp.deepTerms false
/-! rows of numbers as data; a language's own repr -/
namespace Sl
open PySem PySem.Spec PyProof.Rows L2
abbrev sReprL : Stmt := inClass (top 37) 12
def rowPD (sg : List Str) (d : Str → Nat) : PyData := .dict (sg.map fun c => (PyData.str c, PyData.int (d c : Nat)))
def rowsPD (sg : List Str) (δ : Nat → Str → Nat) (M : Nat) : PyData := .list ((List.range M).map fun b => rowPD sg (δ b))
def endsPD (l : List Nat) : PyData := .tuple (l.map fun n => PyData.int (n : Nat))
section
variable {X : Cx} {pins : List (Addr × Obj)} {σ : L2.St} {H : Hp} {s : Shared}
theorem rowkv_reads (I : Inv X pins σ H s) {d : Str → Nat} : ∀ {sg : List Str} {es : List DictEntry} {vs : List (Key × Value)}, Pairs (mixKind X.prog X.w) es vs → KV (rowD sg d) vs →
    ReadsAll s.heap (es.map (·.key)) ((sg.map fun c => (PyData.str c, PyData.int (d c : Nat))).map (·.1)) [] ∧ ReadsAll s.heap (es.map (·.val)) ((sg.map fun c => (PyData.str c, PyData.int (d c : Nat))).map (·.2)) []
  | [], es, vs, p, kv => by
    cases kv
    cases p
    exact ⟨.nil, .nil⟩
  | z :: sg, es, vs, p, kv => by
    cases kv with
    | @cons _ b _ vs' h1 kv =>
      obtain ⟨k, v⟩ := b
      obtain ⟨k1, k2⟩ := h1
      have k1 : (Sum.inr z : Key) = k := k1
      obtain ⟨t2, k2⟩ : ∃ t, v = Value.int (d z : Nat) t := k2
      subst k1
      subst k2
      cases p with
      | @cons e0 _ es' _ h2 h3 p =>
        obtain ⟨i1, i2⟩ := rowkv_reads I p kv
        have h3 : e0.val = Value.int (d z : Nat) t2 := h3
        rcases keyIs_shape (show keyIs (Sum.inr z) e0.key = true from h2) with ⟨i, tk, e1, e2⟩ | ⟨x, tk, e1, e2⟩
        · cases e1
        · have e1 : z = x := Sum.inr.inj e1
          subst e1
          refine ⟨?_, ?_⟩
          · show ReadsAll s.heap (e0.key :: es'.map (·.key)) (PyData.str z :: (sg.map fun c => (PyData.str c, PyData.int (d c : Nat))).map (·.1)) ([] ++ [])
            rw [e2]
            exact .cons (.str z tk) i1
          · show ReadsAll s.heap (e0.val :: es'.map (·.val)) (PyData.int (d z : Nat) :: (sg.map fun c => (PyData.str c, PyData.int (d c : Nat))).map (·.2)) ([] ++ [])
            rw [h3]
            exact .cons (.int _ t2) i2
theorem rowPD_reads (I : Inv X pins σ H s) {r : Addr} {sg : List Str} {d : Str → Nat} (e : H r = some (.dK (rowD sg d))) : Reads s.heap (.ref r) (rowPD sg d) [r] := by
  obtain ⟨_, _, vs, kv, o, es, ep, ho, ⟨hc, _⟩, hdat, _, hp, _⟩ := dk_of I.hok e
  obtain ⟨h1, h2⟩ := rowkv_reads I hp kv
  exact .dict ho hc hdat h1 h2
theorem rowsPD_all (I : Inv X pins σ H s) {sg : List Str} {δ : Nat → Str → Nat} : ∀ (rs : List Addr) (k : Nat), (∀ (i : Nat) (r : Addr), rs[i]? = some r → H r = some (.dK (rowD sg (δ (k + i))))) → ReadsAll s.heap (rs.map Value.ref) ((List.range' k rs.length).map fun b => rowPD sg (δ b)) rs
  | [], _, _ => .nil
  | r :: rs, k, h => by
    have a := rowPD_reads I (h 0 r rfl)
    have b := rowsPD_all I rs (k + 1) fun i r' e => by
      have := h (i + 1) r' e
      rwa [show k + (i + 1) = k + 1 + i by omega] at this
    exact .cons a b
theorem rowsPD_reads (I : Inv X pins σ H s) {L : Addr} {rs : List Addr} {sg : List Str} {δ : Nat → Str → Nat} (hL : SqL X.K H L (rs.map V.ref)) (a : RowsD H rs sg δ) : Reads s.heap (.ref L) (rowsPD sg δ rs.length) (L :: rs) := by
  obtain ⟨us, r, ⟨o, n, e, hc, _, hd⟩, _⟩ := I.list hL
  have k : us = rs.map Value.ref := by
    have go : ∀ {rs : List Addr} {us : List Value}, Vals (rs.map V.ref) us → us = rs.map Value.ref := fun {rs} => by
      induction rs with
      | nil => intro us r; cases r; rfl
      | cons a l ih =>
        intro us r
        cases r with
        | cons r1 r2 =>
          cases r1
          rw [ih r2]
          rfl
    exact go r
  subst k
  refine .list e hc hd ?_
  rw [List.range_eq_range']
  exact rowsPD_all I rs 0 fun i r h => by
    rw [Nat.zero_add]
    exact a i r h
theorem rowsD_sys (sys : ∃ o, X.base.get? sysModules = some o) (I : Inv X pins σ H s) {L : Addr} {rs : List Addr} {sg : List Str} {δ : Nat → Str → Nat} (hL : H L ≠ none) (a : RowsD H rs sg δ) : sysModules ∉ L :: rs := by
  obtain ⟨o0, ls⟩ := sys
  have hs : H sysModules = none := (I.bs _ _ ls).2
  intro hm
  rcases List.mem_cons.mp hm with c | c
  · rw [← c] at hL
    exact hL hs
  · obtain ⟨i, hi⟩ := List.getElem?_of_mem c
    have := a i _ hi
    rw [hs] at this
    cases this
/-- {x!r} of a list of rows; of a tuple of numbers -/
def tRowsR (te : TE) : TE := fun σ H Q => te σ H fun x H1 => ∃ (L : Addr) (rs : List Addr) (sg : List Str) (δ : Nat → Str → Nat), x = .ref L ∧ H1 L = some (.lst (rs.map V.ref)) ∧ RowsD H1 rs sg δ ∧ (rowsPD sg δ rs.length).showable = true ∧ (rowsPD sg δ rs.length).depth ≤ 60 ∧ (rowsPD sg δ rs.length).shown.length ≤ sizeLine ∧ Q (.str (rowsPD sg δ rs.length).shown) H1
theorem pe_rowsR {e : Expr} {te : TE} {pos : Pos} (gd : X.A.guards = some []) (hu : X.A.units + 64 < cLine) (sys : ∃ o, X.base.get? sysModules = some o) (he : PE X e te) : PE X (.FormattedValue e 114 none pos) (tRowsR te) := by
  refine ⟨fun pins s σ H Q I h => ?_⟩
  refine wpAny_FormattedValue_repr (thn (he.run pins s σ H _ I h) fun v s1 hv => ?_)
  obtain ⟨x, H1, I1, r1, L, rs, sg, δ, rfl, hL, a, sh, dp, sz, q⟩ := hv
  cases (show v = Value.ref L from r1)
  refine pyReprObj_of_reads (rowsPD_reads I1 (SqL.of (K := X.K) hL) a) sh (fun _ => rowsD_sys sys I1 (by rw [hL]; exact Option.some_ne_none _) a) gd (by omega) (fun _ _ z => z) (fun h' u tk kk => ?_) sz
  have I2 : Inv X pins σ H1 { s1 with heap := h', toks := tk } := I1.kept (t' := tk) kk
  exact wpAny_formatField_str ⟨.str _, H1, I2, ⟨u, rfl⟩, q⟩ ⟨.str _, H1, I2.tok _, ⟨_, rfl⟩, q⟩ sz
def rShowRows : List V → Hp → VK → Prop := fun xs H Q => ∃ (L : Addr) (rs : List Addr) (sg : List Str) (δ : Nat → Str → Nat), xs = [.ref L] ∧ H L = some (.lst (rs.map V.ref)) ∧ RowsD H rs sg δ ∧ (rowsPD sg δ rs.length).showable = true ∧ (rowsPD sg δ rs.length).depth ≤ 60 ∧ (rowsPD sg δ rs.length).shown.length ≤ sizeLine ∧ Q (.str (rowsPD sg δ rs.length).shown) H
theorem cr_showRows (gd : X.A.guards = some []) (hu : X.A.units + 64 < cLine) (sys : ∃ o, X.base.get? sysModules = some o) : CallR X (.builtin "repr") rShowRows := by
  intro pins s σ H xs us Q I r h
  obtain ⟨L, rs, sg, δ, rfl, hL, a, sh, dp, sz, q⟩ := h
  obtain rfl := Vals.ref1 r
  exact repr_of_reads' (rowsPD_reads I (SqL.of (K := X.K) hL) a) sh (fun _ => rowsD_sys sys I (by rw [hL]; exact Option.some_ne_none _) a) gd (by omega) (fun _ _ z => z) (fun h' u tk kk => ⟨.str _, H, I.kept (t' := tk) kk, ⟨_, rfl⟩, q⟩) sz
def tNatsR (te : TE) : TE := fun σ H Q => te σ H fun x H1 => ∃ (T : Addr) (ns : List Nat), x = .ref T ∧ H1 T = some (.tup (ns.map fun n => V.int (n : Nat))) ∧ (endsPD ns).showable = true ∧ (endsPD ns).shown.length ≤ sizeLine ∧ Q (.str (endsPD ns).shown) H1
theorem natsA_reads {h : Heap} : ∀ {ns : List Nat} {us : List Value}, Vals (ns.map fun n => V.int (n : Nat)) us → ReadsAll h us (ns.map fun n => PyData.int (n : Nat)) []
  | [], _, r => by cases r; exact .nil
  | n :: ns, _, r => by
    cases r with
    | cons r1 r =>
      obtain ⟨t, rfl⟩ := r1
      exact .cons (as := []) (bs := []) (.int (n : Nat) t) (natsA_reads r)
theorem pe_natsR {e : Expr} {te : TE} {pos : Pos} (gd : X.A.guards = some []) (hu : X.A.units + 64 < cLine) (he : PE X e te) : PE X (.FormattedValue e 114 none pos) (tNatsR te) := by
  refine ⟨fun pins s σ H Q I h => ?_⟩
  refine wpAny_FormattedValue_repr (thn (he.run pins s σ H _ I h) fun v s1 hv => ?_)
  obtain ⟨x, H1, I1, r1, T, ns, rfl, hT, sh, sz, q⟩ := hv
  cases (show v = Value.ref T from r1)
  obtain ⟨us, r, ⟨o, e, hc, n, hd⟩, _⟩ := I1.tuple (SqT.of (K := X.K) hT)
  have dp : (PyData.tuple (ns.map fun n => PyData.int (n : Nat))).depth ≤ 60 := by
    have := (nats_can ns).2
    simp only [PyData.depth]
    omega
  refine pyReprObj_of_reads (.tuple e hc hd (natsA_reads r)) sh (fun _ => by simp) gd (by omega) (fun _ _ z => z) (fun h' u tk kk => ?_) sz
  have I2 : Inv X pins σ H1 { s1 with heap := h', toks := tk } := I1.kept (t' := tk) kk
  exact wpAny_formatField_str ⟨.str _, H1, I2, ⟨u, rfl⟩, q⟩ ⟨.str _, H1, I2.tok _, ⟨_, rfl⟩, q⟩ sz
end
theorem env0_in1 {P : Program} {w : World} {K : PySem.W.Frag} {mg : Str → Option Value} {base : Heap} {A : Around} {outer : List Env} {s : Shared} {H : Hp} (e : Env0 P w K mg base A outer s H) : Env0 P w K mg base A.in1 outer s H :=
  ⟨e.frames, e.mod, e.bs, e.bsz, e.funs, e.frf, e.hok, e.bare⟩
def rReprO (C : Addr) (sp : Sp) : List V → Hp → VK → Prop := fun xs H Q => ∃ (a dx : Addr) (fs : List (Str × V)), xs = [.ref a] ∧ H a = some (.ins C dx fs) ∧ sp [.ref a] H (fun v H' => ∃ z : Str, v = .str z ∧ Q (.str z) H') (fun _ _ _ => False)
theorem call_reprO {X : Cx} {C g : Addr} {k : Nat} {fd : FuncData} {sp : Sp} (m : L2.Meth X.K C "__repr__" g) (F : FnG X.prog X.w X.K X.mg X.base CX0 k g fd ["self"] sp) (gd : X.A.guards = some []) (hr : Room (k + 1) X.A) (hb : L2.Binds X.K fd ["self"] []) : CallR X (.builtin "repr") (rReprO C sp) := by
  intro pins s σ H xs us Q I r h
  obtain ⟨a, dx, fs, rfl, e, q⟩ := h
  obtain rfl := Vals.ref1 r
  obtain ⟨mA, O, rr, _, _, _⟩ := ins_get I.hok e
  obtain ⟨od, J, hl⟩ := O.look
  refine Calls.call_function_entry PySem.F.kind_repr PySem.F.plain_repr PySem.F.entry_repr (PySem.F.args_repr1 _) ?_
  unfold Builtin.«repr»
  refine wpAny_bind (m := oneArg "repr" _) (wpAny_pure ?_)
  refine wpAny_bind (wpAny_cRoomFor (Nat.lt_of_le_of_lt (Nat.le_add_right _ 64) hr.in1.units) ?_)
  unfold specialOf
  refine wpAny_bind (wpAny_bind (J.type.here ((PySem.W.looks_findIn I.kIn m.at_).here ?_)))
  show wpAny _ _ (if (some (Value.ref g)).isNone = true then _ else _) _ _ _
  rw [if_neg (by simp)]
  refine wpAny_bind (m := callSpecialIfBound? (.ref a) (Str.ofString "__repr__") _) (PySem.W.ifBound_K I.kIn J m.at_ m.fn (wpAny_call (codeAny_mono (F.run X.A.in1 X.stack s H ⟨[.ref a], []⟩ [.ref a] [.ref a] _ _ gd hr.in1 (env0_in1 I.env0) (hb s [.ref a] I.kIn rfl) (.cons rfl .nil) q) fun c s' hq => ?_)))
  cases c with
  | error er => exact (show False from hq).elim
  | ok fl =>
    cases fl with
    | ret u =>
      obtain ⟨v, H', I', rv, z, rfl, q'⟩ := I.after hq
      obtain ⟨t, rfl⟩ := rv
      refine wpAny_bind (wpAny_isInstance (typeIs_str _ _ _) isSubtype_str_str ?_)
      first
        | exact wpAny_pure ⟨_, rfl, V.str z, H', I', ⟨_, rfl⟩, q'⟩
        | (rw [if_pos rfl]; exact wpAny_pure ⟨_, rfl, V.str z, H', I', ⟨_, rfl⟩, q'⟩)
        | (simp only [if_true]; exact wpAny_pure ⟨_, rfl, V.str z, H', I', ⟨_, rfl⟩, q'⟩)
    | next => exact hq.elim
    | brk => exact hq.elim
    | cont => exact hq.elim
/-! ### sizes -/
/-- a sign -/
def OneCh (c : Str) : Prop := c.cps.size ≤ 1 ∧ ∀ x ∈ c.cps.toList, x < 16 ^ 8
theorem log_nat {n : Nat} (h : n < 10) : (n : Int).natAbs.log2 < 1920 ∧ (if (n : Int) == 0 then 0 else (n : Int).natAbs.log2 + 1) ≤ 11 ∧ ((PyData.int (n : Nat)).shown.length ≤ 13) := by
  have e : (n : Int).natAbs = n := Int.natAbs_natCast n
  have k := Nat.log2_le_self n
  refine ⟨by rw [e]; omega, ?_, PyData.shown_int_le (by rw [e]; omega)⟩
  split
  · omega
  · rw [e]
    omega
theorem str_short {z : Str} (h : ∀ x ∈ z.cps.toList, x < 16 ^ 8) : PyData.leavesShort 13 (.str z) = true := by
  simp only [PyData.leavesShort, List.all_eq_true, decide_eq_true_eq]
  exact h
theorem kv_ok {d : Str → Nat} : ∀ {sg : List Str}, (∀ c ∈ sg, OneCh c) → (∀ c ∈ sg, d c < 10) →
    PyData.showableKv (sg.map fun c => (PyData.str c, PyData.int (d c : Nat))) = true ∧ PyData.depthKv (sg.map fun c => (PyData.str c, PyData.int (d c : Nat))) ≤ 3 ∧ PyData.leavesShortKv 13 (sg.map fun c => (PyData.str c, PyData.int (d c : Nat))) = true ∧ PyData.weightKv (sg.map fun c => (PyData.str c, PyData.int (d c : Nat))) ≤ sg.length * 14
  | [], _, _ => ⟨rfl, by simp [PyData.depthKv], rfl, by simp [PyData.weightKv]⟩
  | c :: sg, h, hd => by
    obtain ⟨i1, i2, i3, i4⟩ := kv_ok (d := d) (sg := sg) (fun c hc => h c (List.mem_cons_of_mem _ hc)) fun c hc => hd c (List.mem_cons_of_mem _ hc)
    obtain ⟨l1, l2, l3⟩ := log_nat (hd c List.mem_cons_self)
    obtain ⟨s1, s2⟩ := h c List.mem_cons_self
    refine ⟨?_, ?_, ?_, ?_⟩
    · simp only [List.map_cons, PyData.showableKv, PyData.showable]
      rw [i1, decide_eq_true l1]
      rfl
    · simp only [List.map_cons, PyData.depthKv, PyData.depth]
      omega
    · simp only [List.map_cons, PyData.leavesShortKv]
      rw [i3, str_short s2]
      simp only [PyData.leavesShort]
      rw [decide_eq_true l3]
      rfl
    · simp only [List.map_cons, PyData.weightKv, PyData.weight, List.length_cons]
      omega
theorem rows_ok {sg : List Str} {δ : Nat → Str → Nat} (h : ∀ c ∈ sg, OneCh c) (ls : sg.length ≤ 4) : ∀ (l : List Nat), (∀ b ∈ l, ∀ c ∈ sg, δ b c < 10) →
    PyData.showableAll (l.map fun b => rowPD sg (δ b)) = true ∧ PyData.depthAll (l.map fun b => rowPD sg (δ b)) ≤ 6 ∧ PyData.leavesShortAll 13 (l.map fun b => rowPD sg (δ b)) = true ∧ PyData.weightAll (l.map fun b => rowPD sg (δ b)) ≤ l.length * 57
  | [], _ => ⟨rfl, by simp [PyData.depthAll], rfl, by simp [PyData.weightAll]⟩
  | b :: l, hb => by
    obtain ⟨i1, i2, i3, i4⟩ := rows_ok h ls l fun b hb' => hb b (List.mem_cons_of_mem _ hb')
    obtain ⟨k1, k2, k3, k4⟩ := kv_ok (d := δ b) h (hb b List.mem_cons_self)
    refine ⟨?_, ?_, ?_, ?_⟩
    · simp only [List.map_cons, rowPD, PyData.showableAll, PyData.showable]
      rw [k1]
      exact i1
    · simp only [List.map_cons, rowPD, PyData.depthAll, PyData.depth]
      simp only [rowPD] at i2
      omega
    · simp only [List.map_cons, rowPD, PyData.leavesShortAll, PyData.leavesShort]
      rw [k3]
      exact i3
    · simp only [List.map_cons, rowPD, PyData.weightAll, PyData.weight, List.length_cons]
      simp only [rowPD] at i4
      omega
theorem ends_ok : ∀ (l : List Nat), (∀ b ∈ l, b < 10) → PyData.showableAll (l.map fun n => PyData.int (n : Nat)) = true ∧ PyData.leavesShortAll 13 (l.map fun n => PyData.int (n : Nat)) = true ∧ PyData.weightAll (l.map fun n => PyData.int (n : Nat)) ≤ l.length * 12
  | [], _ => ⟨rfl, rfl, by simp [PyData.weightAll]⟩
  | b :: l, hb => by
    obtain ⟨i1, i3, i4⟩ := ends_ok l fun b hb' => hb b (List.mem_cons_of_mem _ hb')
    obtain ⟨l1, l2, l3⟩ := log_nat (hb b List.mem_cons_self)
    refine ⟨?_, ?_, ?_⟩
    · simp only [List.map_cons, PyData.showableAll, PyData.showable]
      rw [i1, decide_eq_true l1]
      rfl
    · simp only [List.map_cons, PyData.leavesShortAll, PyData.leavesShort]
      rw [i3, decide_eq_true l3]
      rfl
    · simp only [List.map_cons, PyData.weightAll, PyData.weight, List.length_cons]
      omega
def shownLg (z : Str) (δ : Nat → Str → Nat) (M : Nat) (found : List Nat) : Str := ((Str.empty ++ ("Language(" : Str)) ++ reprText z ++ (", " : Str) ++ (rowsPD (sgL z) δ M).shown ++ (", " : Str) ++ (endsPD found).shown) ++ (")" : Str)
structure LgShow (z : Str) (δ : Nat → Str → Nat) (M : Nat) (found : List Nat) : Prop where
  rs : (rowsPD (sgL z) δ M).showable = true
  rd : (rowsPD (sgL z) δ M).depth ≤ 60
  rl : (rowsPD (sgL z) δ M).shown.length ≤ 6000
  es : (endsPD found).showable = true
  el : (endsPD found).shown.length ≤ 1400
  zl : (reprText z).length ≤ 100
theorem sgOne {z : Str} (hw : isWordS z = true) : (∀ c ∈ sgL z, OneCh c) ∧ ∀ x ∈ z.cps.toList, x < 16 ^ 8 := by
  have lt : ∀ x ∈ z.cps.toList, x < 16 ^ 8 := fun x hx => by
    have h := List.all_eq_true.mp hw x hx
    have e : (16 : Nat) ^ 8 = 4294967296 := by decide
    unfold lowC at h
    simp only [Bool.and_eq_true, decide_eq_true_eq] at h
    omega
  refine ⟨fun c hc => ?_, lt⟩
  unfold sgL at hc
  obtain ⟨x, hx, rfl⟩ := List.mem_map.mp hc
  refine ⟨Nat.le_refl 1, fun y hy => ?_⟩
  rw [List.mem_singleton.mp (show y ∈ [x] from hy)]
  exact lt x hx
theorem lg_show {z : Str} {δ : Nat → Str → Nat} {M : Nat} {found : List Nat} (sg : SgOk z) (m6 : M ≤ 6) (lt : ∀ b, b < M → ∀ c ∈ sgL z, δ b c < M) (fl : ∀ b ∈ found, b < M) (nd : found.Nodup) : LgShow z δ M found := by
  obtain ⟨h1, h2⟩ := sgOne sg.word
  have ls : (sgL z).length ≤ 4 := by
    rw [sgL_len]
    exact sg.le
  obtain ⟨a1, a2, a3, a4⟩ := rows_ok (δ := δ) h1 ls (List.range M) fun b hb c hc => by
    have := lt b (List.mem_range.mp hb) c hc
    omega
  obtain ⟨b1, b3, b4⟩ := ends_ok found fun b hb => by
    have := fl b hb
    omega
  have lf : found.length ≤ M := nodup_len nd fl
  rw [List.length_range] at a4
  have k1 := PyData.shown_le 13 (by decide) (rowsPD (sgL z) δ M) (by simp only [rowsPD, PyData.leavesShort]; exact a3)
  have k2 := PyData.shown_le 13 (by decide) (endsPD found) (by simp only [endsPD, PyData.leavesShort]; exact b3)
  have k3 := PyData.shown_le 13 (by decide) (.str z) (str_short h2)
  simp only [rowsPD, PyData.weight] at k1
  simp only [endsPD, PyData.weight] at k2
  simp only [PyData.weight, PyData.shown] at k3
  have zl : z.cps.size ≤ 4 := sg.le
  refine ⟨?_, ?_, ?_, ?_, ?_, ?_⟩
  · simp only [rowsPD, PyData.showable]
    exact a1
  · simp only [rowsPD, PyData.depth]
    omega
  · simp only [rowsPD]
    omega
  · simp only [endsPD, PyData.showable]
    exact b1
  · simp only [endsPD]
    omega
  · omega
theorem LgShow.len {z : Str} {δ : Nat → Str → Nat} {M : Nat} {found : List Nat} (h : LgShow z δ M found) : (shownLg z δ M found).length ≤ 8000 := by
  have h1 := h.rl
  have h2 := h.el
  have h3 := h.zl
  unfold shownLg
  simp only [strLen_append]
  have e1 : (Str.empty).length = 0 := rfl
  have e2 : (("Language(" : String) : Str).length = 9 := rfl
  have e3 : ((", " : String) : Str).length = 2 := rfl
  have e4 : ((")" : String) : Str).length = 1 := rfl
  omega
def spReprL (C : Addr) : Sp := fun vs H Q _ => ∃ (p : Addr) (z : Str) (M : Nat) (δ : Nat → Str → Nat) (found live : List Nat), vs = [.ref p] ∧ LangAt C H p z M δ found live ∧ LgShow z δ M found ∧ Q (.str (shownLg z δ M found)) H
section
variable {P : Program} {w : World} {K : PySem.W.Frag} {mg : Str → Option Value} {base : Heap}
theorem scReprL : FnScope ["self"] ["self"] (defScope sReprL) := ⟨rfl, rfl, rfl, by decide +kernel, rfl, by decide +kernel, by decide +kernel⟩
theorem ok_reprL {f C : Addr} {fd : FuncData} (F : Fun K "__repr__" "Language.__repr__" sReprL f fd) (T : LgC K C) (sys : ∃ o, base.get? sysModules = some o) :
    FnG P w K mg base CX0 1 f fd ["self"] (spReprL C) := by
  refine Sl.Fun.okG F scReprL (fun vs H Q E h => ?_) (fun cdv A0 outer s H vs Q E gd hr h => ?_)
  · obtain ⟨p, z, M, δ, found, live, rfl, _⟩ := h
    rfl
  · obtain ⟨p, z, M, δ, found, live, rfl, LA, sh, k⟩ := h
    have hu0 := hr.units
    obtain ⟨dx, fs, L, rs, Me, Li, hp, f1, f2, hL, lrs, hrs, f3, hMe, _⟩ := LA.ex
    subst lrs
    refine ⟨_, pss_one (ps_ret (pe_joined (.cons pe_str (.cons (pe_fmtR (pe_fld (pv 0) rfl)) (.cons pe_str (.cons (pe_rowsR gd hu0 sys (pe_fld (pv 0) rfl)) (.cons pe_str (.cons (pe_natsR gd hu0 (pe_fld (pv 0) rfl)) (.cons pe_str .nil))))))))), ?_⟩
    have s5 := sh.len
    have s6 : (8000 : Nat) ≤ sizeLine := by rw [sizeLine_eq]; decide
    have q1 := sh.rl
    have q2 := sh.el
    have q3 := sh.zl
    unfold shownLg at s5 k
    simp only [strLen_append] at s5
    refine ⟨_, rfl, by simp only [strLen_append]; omega, ?_⟩
    refine ⟨_, rfl, p, C, dx, fs, _, rfl, hp, T.cl, T.nG, f1, .inl ⟨z, rfl, by omega, _, rfl, by simp only [strLen_append]; omega, ?_⟩⟩
    refine ⟨_, rfl, by simp only [strLen_append]; omega, ?_⟩
    refine ⟨_, rfl, p, C, dx, fs, _, rfl, hp, T.cl, T.nS, f2, L, rs, sgL z, δ, rfl, hL, hrs, sh.rs, sh.rd, by omega, _, rfl, by simp only [strLen_append]; omega, ?_⟩
    refine ⟨_, rfl, by simp only [strLen_append]; omega, ?_⟩
    refine ⟨_, rfl, p, C, dx, fs, _, rfl, hp, T.cl, T.nM, f3, Me, found, rfl, hMe, sh.es, by omega, _, rfl, by simp only [strLen_append]; omega, ?_⟩
    refine ⟨_, rfl, by simp only [strLen_append]; omega, ?_⟩
    exact k
end
end Sl
/-! ## T1 -/
set_option Elab.async false
set_option linter.all false
set_option maxRecDepth 100000
set_option maxHeartbeats 4000000
/-! {t: v} with a tuple as its key -/
namespace Sl
open PySem PySem.Spec PyProof.Rows L2
def tDispT (trs : List (TE × TE)) : TE := fun σ G R => ∀ d, G d = none → tPairs trs σ (upd G d (.dT [])) fun ps G2 => G2 d = some (.dT []) ∧ ∃ (k : List Key) (b : Addr) (v : V), ps = [(.ref b, v)] ∧ G2 b = some (.tup (k.map kV)) ∧ R (.ref d) (upd G2 d (.dT [(k, v)]))
theorem pe_dispT {X : Cx} {pz : Pos} {ks : List (Option Expr)} {es : List Expr} {trs : List (TE × TE)} (hu : X.A.units + 64 < cLine) (h : PPs X pz ks es trs) (hall : ks.all (·.isSome) = true) (hl : ks.length = es.length) (h0 : ks ≠ []) (h15 : ks.length ≤ 15) : PE X (.Dict ks es pz) (tDispT trs) := by
  refine ⟨fun pins s σ G R J q => ?_⟩
  have new := J.hok.fresh (Nat.le_refl s.heap.objs.size)
  have J1 := J.laid (a := s.heap.objs.size) (o := .dT []) (h' := s.heap.push { cls := .type "dict", data := .dict #[] }) (t' := s.toks) (fun _ _ e => Heap.get?_push_of_some _ e) (Nat.le_refl _) (dt_empty s.heap J.big)
  have ln := pairTrees_length ks es X.env pz hall hl
  have ne : pairTrees ks es X.env pz ≠ [] := fun z => by
    rw [z] at ln
    exact h0 (List.length_eq_zero_iff.mp ln.symm)
  rw [arm_eval_Dict, zip_pairTrees ks es X.env pz hall hl, dictDisplay_pairs _ ne (by rw [ln]; omega)]
  refine wpAny_bind (wpAny_standAt (wpAny_bind (wpAny_subDictH (knd := tupleKind (mixKind X.prog X.w)) (Q := fun d t => wpAny (model X.prog X.w) X.A (pure (Value.ref d)) (EP X pins σ R) X.xe t) ?_ (by rw [ln]; exact h15) ?_)))
  · show X.A.units < cLine
    omega
  · refine thn (h.run pins _ σ _ _ J1 (q _ new)) fun us s2 ⟨ps, G2, J2, rel, e, k, b, v, ep, eb, r2⟩ => ?_
    subst ep
    cases rel with
    | cons r1 r0 =>
      cases r0
      obtain ⟨ra, rv⟩ := r1
      rename_i w0 _
      obtain ⟨u, v'⟩ := w0
      have ra : u = Value.ref b := ra
      have rv : RelV v v' := rv
      subst ra
      obtain ⟨z0, sy, xs, rx, dd⟩ := dt_of J2.hok e
      cases rx
      refine ⟨[(k, b, v')], ⟨rfl, rfl, key_of J2.hok eb, trivial⟩, dd, fun h' tk dd' hs => wpAny_pure ⟨.ref _, _, ?_, rfl, r2⟩⟩
      obtain ⟨o, en, ep, ho, q2, q3, q4, _, q5⟩ := dd'
      refine d_write (t' := tk) J2 (by rw [e]; exact True.intro) hs ⟨o, ho⟩ ⟨by show 1 ≤ sizeLine; decide, sy, [(k, b, v')], ?_, o, en, ep, ho, q2, q3, q4, q5⟩
      refine .cons ⟨rfl, ?_, rv⟩ .nil
      rw [upd_ne (ne_of eb e (fun z => nomatch z))]
      exact eb
end Sl
/-! ## T2 -/
set_option Elab.async false
set_option linter.all false
set_option maxRecDepth 100000
set_option maxHeartbeats 4000000
set_option pp.maxSteps 700
set_option pp.deepTerms false
/-! explored, its nodes pairs -/
namespace Sl
open PySem PySem.Spec PyProof.Rows L2 LamX NdefX
/-- the pair with the number n, its second below W -/
def prT (W n : Nat) : List V := [.int (n / W : Nat), .int (n % W : Nat)]
def keyT (W n : Nat) : List Key := [keyI (n / W), keyI (n % W)]
theorem keyT_v (W n : Nat) : (keyT W n).map kV = prT W n := rfl
theorem keyI_inj2 {a b : Nat} (h : keyI a = keyI b) : a = b := by
  unfold keyI at h
  injection h with h
  omega
theorem keyT_inj {W a b : Nat} (h : keyT W a = keyT W b) : a = b := by
  unfold keyT at h
  injection h with h1 h2
  injection h2 with h2 _
  have e1 := keyI_inj2 h1
  have e2 := keyI_inj2 h2
  rw [← Nat.div_add_mod a W, ← Nat.div_add_mod b W, e1, e2]
/-- the pair n stands at t -/
abbrev PrAt (W : Nat) (H : Hp) (t : Addr) (n : Nat) : Prop := H t = some (.tup (prT W n))
inductive LeadsT (W : Nat) (H : Hp) : List Addr → List (Str × Nat) → Prop
  | nil : LeadsT W H [] []
  | cons {t e : Addr} {z : Str} {n : Nat} {ts : List Addr} {l : List (Str × Nat)} : H t = some (.tup [.str z, .ref e]) → PrAt W H e n → LeadsT W H ts l → LeadsT W H (t :: ts) ((z, n) :: l)
theorem LeadsT.ext {W : Nat} {H H' : Hp} (x : ∀ t xs, H t = some (.tup xs) → H' t = some (.tup xs)) : ∀ {ts : List Addr} {l : List (Str × Nat)}, LeadsT W H ts l → LeadsT W H' ts l
  | _, _, .nil => .nil
  | _, _, .cons a b h => .cons (x _ _ a) (x _ _ b) (h.ext x)
theorem LeadsT.len {W : Nat} {H : Hp} : ∀ {ts : List Addr} {l : List (Str × Nat)}, LeadsT W H ts l → ts.length = l.length
  | _, _, .nil => rfl
  | _, _, .cons _ _ h => congrArg (· + 1) h.len
theorem LeadsT.at_ {W : Nat} {H : Hp} : ∀ {ts : List Addr} {l : List (Str × Nat)} {i : Nat} {t : Addr}, LeadsT W H ts l → ts[i]? = some t → ∃ e a, l[i]? = some e ∧ H t = some (.tup [.str e.1, .ref a]) ∧ PrAt W H a e.2
  | _, _, i, _, .nil, e => by
    cases i <;> cases e
  | _, _, 0, _, .cons a b _, e => by
    cases e
    exact ⟨_, _, rfl, a, b⟩
  | _, _, i + 1, _, .cons _ _ h, e => h.at_ (i := i) e
theorem LeadsT.snoc {W : Nat} {H : Hp} {t e : Addr} {z : Str} {n : Nat} (a : H t = some (.tup [.str z, .ref e])) (b : PrAt W H e n) : ∀ {ts : List Addr} {l : List (Str × Nat)}, LeadsT W H ts l → LeadsT W H (ts ++ [t]) (l ++ [(z, n)])
  | _, _, .nil => .cons a b .nil
  | _, _, .cons c d h => .cons c d (h.snoc a b)
/-- leads of a pair, wherever G holds -/
def spLeadsT (W : Nat) (G : Hp → Prop) (g : Gr) (N : Nat) : List V → Hp → VK → Prop := fun vs H Q => ∃ (a : Addr) (n : Nat), vs = [.ref a] ∧ PrAt W H a n ∧ n < N ∧ G H ∧ ∀ (H' : Hp) (p : Addr) (ts : List Addr), Ext H H' → H p = none → H' p = some (.lst (ts.map V.ref)) → LeadsT W H' ts (g n) → Q (.ref p) H'
structure LeadLT (P : Program) (w : World) (K : PySem.W.Frag) (mg : Str → Option Value) (base : Heap) (k W : Nat) (G : Hp → Prop) (g : Gr) (N : Nat) (F : LF) (fr : List Str) (ws : List (Option V)) : Prop where
  ok : ∃ y sp, LOk P w K mg base CX0 k F [y] fr sp ∧ ∀ vs H Q E, spLeadsT W G g N vs H Q → sp ws vs H Q E
def spExploredT (P : Program) (w : World) (K : PySem.W.Frag) (mg : Str → Option Value) (base : Heap) (k : Nat) : List (Str × Addr) → List Str → List (Option V) → Sp := fun cl fr ws vs H Q _ => ∃ (t0 f f2 : Addr) (F F2 : LF) (y2 : Str) (W first N : Nat) (G : Hp → Prop) (g : Gr), vs = [.ref t0, .ref f, .ref f2] ∧ PrAt W H t0 first ∧
  H f = some (LamO f F) ∧ H F.c = some (CodeO F.c F.qual) ∧ F.cl = cl ∧ LeadLT P w K mg base k W G g N F fr ws ∧ H f2 = some (LamO f2 F2) ∧ H F2.c = some (CodeO F2.c F2.qual) ∧ F2.cl = [] ∧ LOk P w K mg base CX0 k F2 [y2] [] spNo ∧ G H ∧ GrOk G g N ∧ first < N ∧
  ∀ (H' : Hp) (t b : Addr) (kvs : List (List Key × V)), Ext H H' → H t = none → H' t = some (.tup [.ref b, .non]) → H b = none → H' b = some (.dT kvs) → kvs.map (·.1) = (reachedL g N first).map (keyT W) → Q (.ref t) H'
/-- where the search stands -/
def ExpWT (H : Hp) (t0 fl f2 b q : Addr) (W first N : Nat) (g : Gr) : Nat → L2.St → Hp → Prop := fun m σ H' => ∃ (v6 v7 v8 : Option V) (i : Nat) (Lq : List Nat) (qs : List Addr) (kvs : List (List Key × V)), m = N + 1 - i ∧
  σ = [some (.ref t0), some (.ref fl), some (.ref f2), some (.ref b), some (.ref q), some (.int i), v6, v7, v8] ∧ Ext H H' ∧ H' q = some (.lst (qs.map V.ref)) ∧ Paired (PrAt W H') qs Lq ∧ H' b = some (.dT kvs) ∧ kvs.map (·.1) = Lq.map (keyT W) ∧
  Lq.Nodup ∧ (∀ x ∈ Lq, x < N) ∧ i ≤ Lq.length ∧ bfs g (N + 1 - i) Lq i = reachedL g N first
theorem keyT_mem {W a : Nat} {l : List Nat} : keyT W a ∈ l.map (keyT W) ↔ a ∈ l := by
  constructor
  · intro h
    obtain ⟨x, hx, e⟩ := List.mem_map.mp h
    rw [← keyT_inj e]
    exact hx
  · exact fun h => List.mem_map.mpr ⟨a, h, rfl⟩
theorem val_keyT {W : Nat} {kvs : List (List Key × V)} {l : List Nat} (h : kvs.map (·.1) = l.map (keyT W)) (a : Nat) : (valV kvs (keyT W a)).isSome = decide (a ∈ l) := by
  cases e : valV kvs (keyT W a) with
  | none =>
    have := valV_not e
    rw [h, keyT_mem] at this
    rw [decide_eq_false this]
    rfl
  | some v =>
    have := valV_in e
    rw [h, keyT_mem] at this
    rw [decide_eq_true this]
    rfl
theorem paired_at {α β : Type} {R : α → β → Prop} : ∀ {xs : List α} {ys : List β}, Paired R xs ys → ∀ {i : Nat} {y : β}, ys[i]? = some y → ∃ x, xs[i]? = some x ∧ R x y
  | _, _, .nil, i, y, h => by cases h
  | _, _, .cons r t, 0, y, h => by
    obtain rfl := Option.some.inj h
    exact ⟨_, rfl, r⟩
  | _, _, .cons r t, i + 1, y, h => paired_at t (i := i) h
section
variable {P : Program} {w : World} {K : PySem.W.Frag} {mg : Str → Option Value} {base : Heap}
theorem ok_exploredT {k : Nat} {f : Addr} {fd : FuncData} (Fn : Fun K "explored" "explored" sExplored f fd) (zn : mg "len" = none) : FnV P w K mg base CX0 (k + 1) f fd ["first", "leads", "is_goal"] (spExploredT P w K mg base k) := by
  refine Sl.Fun.okV Fn scExplored (fun cl fr ws vs H Q E h => ?_) (fun A0 outer s H vs cl fr ws Q E hr C h => ?_)
  · obtain ⟨t0, f, f2, F, F2, y2, W, first, N, G, g, rfl, _⟩ := h
    rfl
  · obtain ⟨t0, fl, f2, F, F2, y2, W, first, N, G, g, rfl, ht0, hf, hc, ecl, LL, hf2, hc2, ecl2, LN, hG, gk, fN, kk⟩ := h
    obtain ⟨y, spF, LF, imp⟩ := LL.ok
    have hu := hu_of hr
    have hu64 := hr.units
    have C1 : CellsAt F.cl fr ws (cxOf CX0 P w K mg base nExplored "explored" (defScope sExplored) f fd.code A0 outer s H E).s_0.heap (cxOf CX0 P w K mg base nExplored "explored" (defScope sExplored) f fd.code A0 outer s H E).H_0 := by
      rw [ecl]
      exact C.at_
    refine ⟨_, pss_cons (ps_set (i := 3) scExplored.nd rfl (.inl rfl) (pe_dispT hu64 (pps_cons (pv 0) pe_non pps_nil) (by rfl) (by rfl) (fun z => by cases z) (by decide)))
      (pss_cons (ps_set (i := 4) scExplored.nd rfl (.inl rfl) (pe_lst (pa_cons (pv 0) pa_nil)))
      (pss_cons (ps_set (i := 5) scExplored.nd rfl (.inl rfl) pe_int)
      (pss_cons (ps_while (passes_of rfl) (pt_cmpR op_lt (pv 5) (pe_callB call_len_seq (by rfl) zn PySem.boot_len (pa_cons (pv 4) pa_nil)) (nomark _))
        (pss_cons (ps_set (i := 6) scExplored.nd rfl (.inl rfl) (pe_ix ix_list (pv 4) (pv 5) (fun _ _ => rfl)))
        (pss_cons (ps_if (pt_val (pe_callL (E := fun _ _ _ => False) (i := 2) LN (fun pins σ H s I => by rw [ecl2]; exact cells_nil) hr (Nat.le_refl _) pass0 rfl (.inl rfl) (pa_cons (pv 6) pa_nil))) (pss_one (ps_ret (pe_tup (pa_cons (pv 3) (pa_cons (pv 6) pa_nil))))) pss_nil)
        (pss_cons (ps_for (passes_of rfl) rfl (pi_list (pe_callL (E := fun _ _ _ => False) (i := 1) LF (fun pins σ H s I => cells_later C1 rfl I) hr (Nat.le_refl _) pass0 rfl (.inl rfl) (pa_cons (pv 6) pa_nil))) (pg_tup (by rfl) (pgs_cons (pg_name (i := 7) scExplored.nd rfl (.inl rfl)) (pgs_cons (pg_name (i := 8) scExplored.nd rfl (.inl rfl)) pgs_nil)))
          (pss_one (ps_if (pt_cmp (pc_dnotin hu (pv 8) (pv 3))) (pss_cons (ps_dput hu (pv 3) (pv 8) (pe_tup (pa_cons (pv 6) (pa_cons (pv 7) pa_nil))) rfl) (pss_one (ps_expr (pe_bm PySem.F.plainAttrs_list PySem.F.slot_list_append PySem.F.type_list_append mt_append (pv 4) (pa_cons (pv 8) pa_nil))))) pss_nil)))
        (pss_one (ps_aug (i := 5) scExplored.nd rfl (.inl rfl) pe_int ip_add))))))
      (pss_one (ps_ret (pe_tup (pa_cons (pv 3) (pa_cons pe_non pa_nil)))))))), ?_⟩
    have sz1 : (1 : Nat) ≤ sizeLine := by decide
    have sz2 : (2 : Nat) ≤ sizeLine := by decide
    refine fun b nb => ⟨_, rfl, upd_same, keyT W first, t0, V.non, rfl, (Ext.new nb _ _ ht0), ?_⟩
    have x1 : Ext H (upd (upd H b (.dT [])) b (.dT [(keyT W first, V.non)])) := fun a o e => by
      rw [upd_ne (ne_of_none e nb), upd_ne (ne_of_none e nb)]
      exact e
    have h1 : (upd (upd H b (.dT [])) b (.dT [(keyT W first, V.non)])) b = some (.dT [(keyT W first, V.non)]) := upd_same
    generalize upd (upd H b (.dT [])) b (.dT [(keyT W first, V.non)]) = H1 at x1 h1 ⊢
    refine ⟨_, rfl, sz1, fun q nq => ?_⟩
    have x2 := Ext.new nq (o := .lst [V.ref t0])
    have h2 : (upd H1 q (.lst [V.ref t0])) q = some (.lst (([t0] : List Addr).map V.ref)) := upd_same
    have nqH := x1.free nq
    have nbq : b ≠ q := ne_of_none h1 nq
    have hb2 := x2 _ _ h1
    have x02 := x1.trans x2
    generalize upd H1 q (.lst [V.ref t0]) = H2 at x02 h2 hb2 ⊢
    refine ⟨ExpWT H t0 fl f2 b q W first N g, ⟨_, none, none, none, 0, [first], [t0], _, rfl, rfl, x02, h2, .cons (x02 _ _ ht0) .nil, hb2, rfl, by simp, by simpa using fN, by simp, rfl⟩, ?_⟩
    rintro m σ H3 ⟨v6, v7, v8, i, Lq, qs, kvs, rfl, rfl, x3, hq, hqs, hb, hk, nd, lt, le, run⟩
    have lN := nodup_len nd lt
    have lqs : qs.length = Lq.length := Paired.length hqs
    have n100 := gk.n
    refine ⟨_, rfl, _, rfl, q, _, rfl, .inl (SqL.of hq), _, _, rfl, rfl, _, rfl, ?_⟩
    rw [List.length_map, lqs]
    refine ite2 (fun c => ?_) (fun c => ?_)
    · have c : i < Lq.length := by have := of_decide_eq_true c; omega
      obtain ⟨x, hx⟩ : ∃ x, Lq[i]? = some x := ⟨Lq[i], List.getElem?_eq_getElem c⟩
      have xN := lt x (List.mem_of_getElem? hx)
      obtain ⟨tx, htx, hprx⟩ := paired_at hqs hx
      refine ⟨ExpWT H t0 fl f2 b q W first N g (N - i), fun σ' H' h => ⟨_, by omega, h⟩, ?_⟩
      refine ⟨_, rfl, _, rfl, q, _, _, .ref tx, rfl, rfl, SqL.of hq, atI_nat (by rw [List.getElem?_map, htx]; rfl), ?_⟩
      refine ⟨f2, rfl, x3 _ _ hf2, _, rfl, x3 _ _ hf2, x3 _ _ hc2, _, rfl, false, rfl, iteF ?_⟩
      refine ⟨fl, rfl, x3 _ _ hf, _, rfl, x3 _ _ hf, x3 _ _ hc, imp _ _ _ _ ⟨tx, x, rfl, hprx, xN, gk.st _ _ (ExtN.of x3) hG, fun H4 p ts x4 np hp hts => ?_⟩⟩
      have x04 := x3.trans x4
      have gl := gk.lt x xN
      have g100 := gk.le x
      refine ⟨p, rfl, ⟨_, SqL.of hp⟩, ?_⟩
      refine for_it (walk_list (xs := ts.map V.ref)) (fun j σ H' => ∃ v7 v8 qs kvs, σ = [some (.ref t0), some (.ref fl), some (.ref f2), some (.ref b), some (.ref q), some (.int i), some (.ref tx), v7, v8] ∧ Ext H H' ∧ H' p = some (.lst (ts.map V.ref)) ∧ LeadsT W H' ts (g x) ∧ H' tx = some (.tup (prT W x)) ∧
          H' q = some (.lst (qs.map V.ref)) ∧ Paired (PrAt W H') qs (addNew Lq ((g x).take j)) ∧ H' b = some (.dT kvs) ∧ kvs.map (·.1) = (addNew Lq ((g x).take j)).map (keyT W))
        ⟨v7, v8, qs, kvs, rfl, x04, hp, hts, x4 _ _ hprx, x4 _ _ hq, Paired.mapP hqs fun a n h => x4 _ _ h, x4 _ _ hb, hk⟩ (fun j σ H' _ ⟨_, _, _, _, _, _, h, _⟩ => SqL.of h) ?_ ?_
      · rintro j y σ H5 H6 hj ⟨v7, v8, qs5, kvs, rfl, x5, hp5, ht5, htx5, hq5, hqs5, hb5, hk5⟩ ⟨rfl, hy⟩
        obtain ⟨t, htj, rfl⟩ := at_map hy
        obtain ⟨e, ea, he, hte, hpe⟩ := ht5.at_ htj
        have ha := gl e (List.mem_of_getElem? he)
        have ok5 := addNew_ok (N := N) nd lt (l := (g x).take j) fun e he => gl e (List.mem_of_mem_take he)
        have l5 := nodup_len ok5.1 ok5.2.1
        have lk5 : kvs.length = (addNew Lq ((g x).take j)).length := by
          have := congrArg List.length hk5
          rwa [List.length_map, List.length_map] at this
        have lq5 : qs5.length = (addNew Lq ((g x).take j)).length := Paired.length hqs5
        refine ⟨t, _, rfl, SqT.of hte, rfl, _, _, rfl, _, _, rfl, rfl, ?_⟩
        refine ⟨_, rfl, _, rfl, b, _, rfl, DGet.t (k := keyT W e.2) hb5 hpe, _, rfl, ?_⟩
        rw [val_keyT hk5]
        have en : addNew Lq ((g x).take (j + 1)) = if e.2 ∈ addNew Lq ((g x).take j) then addNew Lq ((g x).take j) else addNew Lq ((g x).take j) ++ [e.2] := by
          rw [take_more he, addNew_append, addNew_one]
        by_cases ce : e.2 ∈ addNew Lq ((g x).take j)
        · rw [decide_eq_true ce]
          refine iteF ⟨_, _, qs5, kvs, rfl, x5, hp5, ht5, htx5, hq5, ?_, hb5, ?_⟩
          · rw [en, if_pos ce]
            exact hqs5
          · rw [en, if_pos ce]
            exact hk5
        · rw [decide_eq_false ce]
          refine iteT ⟨_, rfl, _, rfl, sz2, fun T nT => ⟨_, rfl, _, rfl, b, _, rfl, DPut.t (k := keyT W e.2) (Ext.new nT _ _ hb5) (Ext.new nT _ _ hpe) (small_l (by omega)), ?_⟩⟩
          have nv : valV kvs (keyT W e.2) = none := by
            have := val_keyT hk5 e.2
            rw [decide_eq_false ce] at this
            cases z : valV kvs (keyT W e.2) with
            | none => rfl
            | some v =>
              rw [z] at this
              cases this
          have bT : b ≠ T := ne_of_none hb5 nT
          have keep : ∀ c o, H6 c = some o → c ≠ b → (upd (upd H6 T (.tup [.ref tx, .str e.1])) b (.dT (putK kvs (keyT W e.2) (.ref T)))) c = some o := fun c o h n => by
            rw [upd_ne n]
            exact Ext.new nT _ _ h
          have tk : ∀ t xs, H6 t = some (.tup xs) → (upd (upd H6 T (.tup [.ref tx, .str e.1])) b (.dT (putK kvs (keyT W e.2) (.ref T)))) t = some (.tup xs) := fun t xs h => keep t _ h (ne_of h hb5 (by intro z; cases z))
          have hb7 : (upd (upd H6 T (.tup [.ref tx, .str e.1])) b (.dT (putK kvs (keyT W e.2) (.ref T)))) b = some (.dT (putK kvs (keyT W e.2) (.ref T))) := upd_same
          have hq7 := keep _ _ hq5 nbq.symm
          have hp7 := keep _ _ hp5 (ne_of hp5 hb5 (by intro z; cases z))
          have x7 : Ext H (upd (upd H6 T (.tup [.ref tx, .str e.1])) b (.dT (putK kvs (keyT W e.2) (.ref T)))) := fun c o h => keep _ _ (x5 _ _ h) (ne_of_none h nb)
          have t7 := ht5.ext tk
          have tx7 := tk _ _ htx5
          have pe7 := tk _ _ hpe
          have qs7 := Paired.mapP hqs5 fun a n h => tk _ _ h
          generalize upd (upd H6 T (.tup [.ref tx, .str e.1])) b (.dT (putK kvs (keyT W e.2) (.ref T))) = H7 at hb7 hq7 hp7 x7 t7 tx7 pe7 qs7 ⊢
          refine ⟨_, rfl, .inl ⟨rfl, _, SqL.of hq7⟩, _, rfl, q, _, _, rfl, rfl, hq7, by rw [List.length_map]; exact small_l (by omega), ?_⟩
          have npq : p ≠ q := fun z => by
            rw [z, hq] at np
            cases np
          have tq : ∀ t xs, H7 t = some (.tup xs) → (upd H7 q (.lst (qs5.map V.ref ++ [V.ref ea]))) t = some (.tup xs) := fun t xs h => by
            rw [upd_ne (ne_of h hq7 (by intro z; cases z))]
            exact h
          refine ⟨_, _, qs5 ++ [ea], putK kvs (keyT W e.2) (.ref T), rfl, fun c o h => ?_, ?_, t7.ext tq, tq _ _ tx7, ?_, ?_, ?_, ?_⟩
          · rw [upd_ne (ne_of_none h nqH)]
            exact x7 _ _ h
          · rw [upd_ne npq]
            exact hp7
          · rw [upd_same, List.map_append]
            rfl
          · rw [en, if_neg ce]
            exact Paired.snoc (Paired.mapP qs7 fun a n h => tq _ _ h) (tq _ _ pe7)
          · rw [upd_ne nbq]
            exact hb7
          · rw [en, if_neg ce, putK_new _ nv, List.map_append, List.map_append, hk5]
            rfl
      · rintro σ H5 ⟨v7, v8, qs5, kvs, rfl, x5, hp5, ht5, htx5, hq5, hqs5, hb5, hk5⟩
        rw [List.length_map, hts.len, List.take_length] at hqs5 hk5
        have ok5 := addNew_ok (N := N) nd lt (l := g x) gl
        refine ⟨_, rfl, _, _, rfl, rfl, ?_⟩
        refine ⟨some (.ref tx), v7, v8, i + 1, addNew Lq (g x), qs5, kvs, by omega, ?_, x5, hq5, hqs5, hb5, hk5, ok5.1, ok5.2.1, by have := ok5.2.2; omega, ?_⟩
        · rfl
        · rw [← run, show N + 1 - i = (N + 1 - (i + 1)) + 1 by omega, bfs_step hx]
    · have c : Lq.length ≤ i := by
        have := of_decide_eq_false (Bool.not_eq_true _ ▸ c)
        omega
      rw [bfs_end c] at run
      refine ⟨_, rfl, sz2, fun t nt => kk _ t b kvs (x3.trans (Ext.new nt)) (x3.free nt) upd_same nb (Ext.new nt _ _ hb) ?_⟩
      rw [hk, run]
end
end Sl
/-! ## T3 -/
set_option Elab.async false
set_option linter.all false
set_option maxRecDepth 100000
set_option maxHeartbeats 4000000
set_option pp.maxSteps 700
set_option pp.deepTerms false
/-! reached, its nodes pairs -/
namespace Sl
open PySem PySem.Spec PyProof.Rows L2 LamX NdefX
def spReachedT (P : Program) (w : World) (K : PySem.W.Frag) (mg : Str → Option Value) (base : Heap) (T : List NTab) (k : Nat) : List (Str × Addr) → List Str → List (Option V) → Sp := fun cl fr ws vs H Q _ => ∃ (t0 f : Addr) (F : LF) (W first N : Nat) (G : Hp → Prop) (g : Gr), vs = [.ref t0, .ref f] ∧ PrAt W H t0 first ∧
  H f = some (LamO f F) ∧ H F.c = some (CodeO F.c F.qual) ∧ F.cl = cl ∧ LeadLT P w K mg base k W G g N F fr ws ∧ TabsN T H ∧ G H ∧ GrOk G g N ∧ first < N ∧
  ∀ (H' : Hp) (p : Addr) (bs : List Addr), ExtN H H' → (∀ b, H' b = none → H b = none) → TabsN T H' → H p = none → H' p = some (.lst (bs.map V.ref)) → Paired (PrAt W H') bs (reachedL g N first) → Q (.ref p) H'
theorem isKeys_prs {W : Nat} {H : Hp} : ∀ {kvs : List (List Key × V)} {bs : List Addr} {l : List Nat}, IsKeys H kvs bs → kvs.map (·.1) = l.map (keyT W) → Paired (PrAt W H) bs l
  | [], _, [], k, _ => by
    cases k
    exact .nil
  | p :: kvs, _, n :: l, k, e => by
    rw [List.map_cons, List.map_cons] at e
    injection e with e1 e2
    cases k with
    | cons h t =>
      refine .cons ?_ (isKeys_prs t e2)
      have h := h
      rw [e1] at h
      exact h
  | [], _, _ :: _, _, e => by cases e
  | _ :: _, _, [], _, e => by cases e
section
variable {P : Program} {w : World} {K : PySem.W.Frag} {mg : Str → Option Value} {base : Heap}
theorem ok_reachedT {k : Nat} {T : List NTab} {f fE : Addr} {fd fdE : FuncData} (Fn : Fun K "reached" "reached" sReached f fd) (LM : Lams base mg T fd "reached.<locals>.<lambda>") (aE : At K mg "explored" fE fdE ["first", "leads", "is_goal"] []) (gE : FnV P w K mg base CX0 (k + 2) fE fdE ["first", "leads", "is_goal"] (spExploredT P w K mg base (k + 1)))
    (zl : mg "list" = none) : FnV P w K mg base CX0 (k + 3) f fd ["first", "leads"] (spReachedT P w K mg base T (k + 1)) := by
  obtain ⟨c, Tb, hcode, TB, hmT, hu⟩ := LM.ex
  refine Sl.Fun.okV Fn scReached (fun cl fr ws vs H Q E h => ?_) (fun A0 outer s H vs cl fr ws Q E hr C h => ?_)
  · obtain ⟨t0, f, F, W, first, N, G, g, rfl, _⟩ := h
    rfl
  · obtain ⟨t0, fl, F, W, first, N, G, g, rfl, ht0, hf, hc, ecl, LL, hT, hG, gk, fN, kk⟩ := h
    refine ⟨_, pss_cons (ps_asg (pe_callV (cl := fun _ => cl) (fr := fr) (ws := fun _ => ws) (E := fun _ _ _ => False) gE (fun pins σ H s I => cellsF_later C rfl rfl rfl I) hr (by rfl) aE.g aE.kp aE.b pass0
        (pa_cons (pv 0) (pa_cons (pv 1) (pa_cons (pe_lamV (T := T) TB hcode hmT hu rfl (fun y hy e => by
          rcases List.mem_singleton.mp hy with rfl
          cases e)) pa_nil)))) (pg_tup (by rfl) (pgs_cons (pg_name (i := 2) scReached.nd rfl (.inl rfl)) (pgs_cons (pg_name (i := 3) scReached.nd rfl (.inl rfl)) pgs_nil))))
      (pss_one (ps_ret (pe_callTy (call_list_dT rfl) (by rfl) zl (by decide +kernel) (pa_cons (pv 2) pa_nil)))), ?_⟩
    refine ⟨_, rfl, _, rfl, hT, fun f2 c2 H1 x1 nn T1 nf2 hf2 hc2 => ?_⟩
    refine ⟨t0, fl, f2, F, _, "node", W, first, N, G, g, rfl, x1 _ _ ht0 (by intro ps q; cases q), x1 _ _ hf lamO_ne, x1 _ _ hc codeO_ne, ecl, LL, hf2, hc2, rfl, ?_, gk.st _ _ x1 hG, gk, fN, fun H2 t b kvs x2 nt ht nb hb hk => ?_⟩
    · refine lok_of (N := ["node"]) (nscope_by (by rfl)) (fun pm ctv us hl => match us, hl with | [_], _ => rfl) (fun ws vs H Q E h => ?_) (fun f A outer s H vs ws Q E hr hf hc hl h => ?_)
      · obtain ⟨x, rfl, _⟩ := h
        rfl
      · obtain ⟨x, rfl, q⟩ := h
        exact ⟨_, pe_bl, q⟩
    · refine ⟨t, _, rfl, SqT.of ht, rfl, _, _, rfl, _, _, rfl, rfl, ?_⟩
      refine ⟨_, rfl, b, kvs, rfl, Rd.of hb, fun p bs np ik => ?_⟩
      have x12 : ExtN H H2 := x1.trans (ExtN.of x2)
      have pr := isKeys_prs ik hk
      refine kk _ p bs (x12.trans (ExtN.of (Ext.new np))) (fun b e => nn _ (x2.free ((Ext.new np).free e))) ((T1.ext x2).ext (Ext.new np)) (nn _ (x2.free np)) upd_same (Paired.mapP pr fun a n h => Ext.new np _ _ h)
end
end Sl
/-! ## T4 -/
set_option Elab.async false
set_option linter.all false
set_option maxRecDepth 100000
set_option maxHeartbeats 4000000
/-! a dict comprehension whose keys are tuples -/
namespace Sl
open PySem PySem.Spec PyProof.Rows L2
section
variable {X : Cx}
theorem dictSet_T {pins : List (Addr × Obj)} {σ : L2.St} {H : Hp} {s : Shared} {E : Value → Shared → Prop} {D b : Addr} {kvs : List (List Key × V)} {k : List Key} {v : V} {u r : Value} {Q : Unit → Shared → Prop} (hu : X.A.units + 1 < cLine) (I : Inv X pins σ H s) (hD : H D = some (.dT kvs)) (hz : kvs.length < sizeLine)
    (eb : H b = some (.tup (k.map kV))) (ry : RelV (.ref b) u) (rv : RelV v r) (h : ∀ s', Inv X pins σ (upd H D (.dT (putK kvs k v))) s' → Q () s') : wpAny (model X.prog X.w) X.A (dictSet D u r) Q E s := by
  cases (show u = Value.ref b from ry)
  obtain ⟨z, sy, xs, rel, dd⟩ := dt_of I.hok hD
  have z2 : (putK kvs k v).length ≤ sizeLine := Nat.le_trans (length_putK kvs k v) hz
  refine wpAny_dictSet_heap (hsz := by rw [← Paired.length rel]; exact z) (by show X.A.units < cLine; omega) (key_of I.hok eb) dd fun h' ⟨q, es, ep, hq, d2, d3, d4, _, d5⟩ sb => h _ ?_
  exact d_write I (by rw [hD]; exact True.intro) sb ⟨q, hq⟩ ⟨z2, sy, _, (rel.put k eb rv).keeps fun c ys ec => by rw [upd_ne (ne_of ec hD (fun z => nomatch z))]; exact ec, q, es, ep, hq, d2, d3, d4, d5⟩
/-- what a turn that is kept asks -/
def PutT (D : Addr) (Nx : Hp → Prop) (y z : V) (H : Hp) : Prop := ∃ (kvs : List (List Key × V)) (k : List Key) (b : Addr), y = .ref b ∧ H b = some (.tup (k.map kV)) ∧ H D = some (.dT kvs) ∧ kvs.length < sizeLine ∧ Nx (upd H D (.dT (putK kvs k z)))
def tDcT (wi : TI) (g : TG) (tt : TT) (tk tv : TE) (vs : List Nat) : TE := fun σ H Q => wi σ H fun J Ha => ∀ D, Ha D = none →
  ∃ W : Nat → Nat → Hp → Prop, (∃ m, W 0 m (upd Ha D (.dT []))) ∧ ∀ i m Hb, W i m Hb → (J.stop i Hb ∧ Q (.ref D) Hb) ∨
    (J.go i Hb ∧ ∃ Nx : Hp → Prop, (∀ Hc, Nx Hc → ∃ m', m' < m ∧ W (i + 1) m' Hc) ∧ ∀ x Hc, J.yld i Hb x Hc → g x (wipe σ vs) Hc fun σ2 Hd => wipe σ2 vs = wipe σ vs ∧ tt σ2 Hd fun b He =>
      if b = true then tk σ2 He fun y Hf => tv σ2 Hf fun z Hg => PutT D Nx y z Hg else Nx He)
theorem pe_dcT {kx vx tg iter : Expr} {ifs : List Expr} {scope : Scope} {own : List (Str × Nat)} {pos : Pos} {wi : TI} {g : TG} {tt : TT} {tk tv : TE} (hu : X.A.units + 1 < cLine) (hc : X.calm = true) (hN : X.N.Nodup) (hi : PI X tg iter wi) (ok : BlkOk X.N X.env.scope scope own)
    (hg : ∀ s H C cl fp, PG (X.blk s H scope (compEnvC scope cl C X.env) fp) tg g) (ht : ∀ s H C cl fp, PTs (X.blk s H scope (compEnvC scope cl C X.env) fp) ifs tt)
    (hk : ∀ s H C cl fp, PE (X.blk s H scope (compEnvC scope cl C X.env) fp) kx tk) (he : ∀ s H C cl fp, PE (X.blk s H scope (compEnvC scope cl C X.env) fp) vx tv) (hs : ∀ x, foldedSetIterable iter X.env x = pure x := by intro _; rfl) :
    PE X (.DictComp kx vx [⟨tg, iter, ifs, 0⟩] scope pos) (tDcT wi g tt tk tv (own.map (·.2))) := by
  refine ⟨fun pins s σ H Q I h => ?_⟩
  rw [arm_eval_DictComp]
  have hfree : ∀ y ∈ scope.names, y.2 = .free → ∃ c, X.env.cells.lookup y.1 = some c := fun y hy e => (ok.free y hy e).elim (fun k => I.ok.has _ (.inl k)) fun k => I.ok.has _ (.inr k)
  refine wpAny_comprehension_free (use := none) rfl hs (closure_ok hfree) ok.kind (fun y hy e => by rw [ok.uniq y hy, e]) (thn (hi.run pins s σ H _ I h) fun xv s1 hx => thn hx fun itv s2 hz => ?_)
  obtain ⟨it, fp, tn, J, Ha, e, Ia, T, sta, fa, q⟩ := hz
  subst e
  refine wpAny_newObj_type (newEnv_comp ?_)
  generalize hD : s2.heap.objs.size = D
  have hDn : Ha D = none := Ia.hok.fresh (Nat.le_of_eq hD)
  obtain ⟨W, ⟨m0, w0⟩, turn⟩ := q D hDn
  generalize hsb : ({ s2 with heap := s2.heap.push { cls := .type "dict", data := .dict #[] } } : Shared) = sb
  have heb : sb.heap = s2.heap.push { cls := .type "dict", data := .dict #[] } := by rw [← hsb]
  have Ib : Inv X pins σ (upd Ha D (.dT [])) sb := by
    rw [← hsb]
    exact Ia.laid (t' := s2.toks) (fun b o e => Heap.get?_push_of_some _ e) (Nat.le_of_eq hD) (by rw [← hD]; exact dt_empty s2.heap Ia.big)
  have fb : ∀ b ∈ fp, FpOk X pins (upd Ha D (.dT [])) b ∧ b < sb.heap.objs.size := fun b hb => by
    obtain ⟨o, eo, _⟩ := T.obj _ _ sta b hb
    have hlt := Heap.lt_size eo
    refine ⟨⟨?_, (fa b hb).2⟩, by rw [heb, Heap.size_push]; exact Nat.lt_succ_of_lt hlt⟩
    rw [upd_ne (by rw [← hD]; exact Nat.ne_of_lt hlt)]
    exact (fa b hb).1
  have stb : tn 0 sb.heap := T.keep _ _ _ sta fun b _ o e => by rw [heb]; exact Heap.get?_push_of_some _ e
  have Ic := block_start Ib ok hN fb
  have pg := hg sb (upd Ha D (.dT [])) sb.heap.objs.size (cellsFrom (sb.heap.objs.size + 1) scope.names (cloFrom X.env.cells scope.names [])) fp
  have pt := ht sb (upd Ha D (.dT [])) sb.heap.objs.size (cellsFrom (sb.heap.objs.size + 1) scope.names (cloFrom X.env.cells scope.names [])) fp
  have pk := hk sb (upd Ha D (.dT [])) sb.heap.objs.size (cellsFrom (sb.heap.objs.size + 1) scope.names (cloFrom X.env.cells scope.names [])) fp
  have pe := he sb (upd Ha D (.dT [])) sb.heap.objs.size (cellsFrom (sb.heap.objs.size + 1) scope.names (cloFrom X.env.cells scope.names [])) fp
  have nfp : ∀ b ∈ fp, (upd Ha D (.dT [])) b = none := fun b hb => (fb b hb).1.1
  show codeAny (model X.prog X.w) X.A (.compStart (.DictComp kx vx [⟨tg, iter, ifs, 0⟩] scope pos) 0 (.ref it) (.ref D) (compEnvC scope (cellsFrom (sb.heap.objs.size + 1) scope.names (cloFrom X.env.cells scope.names [])) sb.heap.objs.size X.env)) _ { sb with heap := pushCells (sb.heap.push { cls := .type "dict", data := .dict #[] }) scope.names }
  generalize hce : compEnvC scope (cellsFrom (sb.heap.objs.size + 1) scope.names (cloFrom X.env.cells scope.names [])) sb.heap.objs.size X.env = ce at Ic pg pt pk pe ⊢
  have cL : ce.locals = sb.heap.objs.size := by subst hce; rfl
  generalize hHb : upd Ha D (.dT []) = Hb at Ib Ic pg pt pk pe w0 nfp fb
  generalize hsc : ({ sb with heap := pushCells (sb.heap.push { cls := .type "dict", data := .dict #[] }) scope.names } : Shared) = sc at Ic ⊢
  have stc : tn 0 sc.heap := T.keep _ _ _ stb fun b _ o e => by rw [← hsc]; exact pushCells_keeps _ _ _ _ (Heap.get?_push_of_some _ e)
  have stat : ∀ {σ' : L2.St} {H' : Hp} {s' : Shared}, Inv (X.blk sb Hb scope ce fp) [] σ' H' s' → (∀ b ∈ fp, H' b = none) → ∀ b ∈ fp, FpOk (X.blk sb Hb scope ce fp) [] H' b := fun {σ' H' s'} I' hn b hb =>
    ⟨hn b hb, (I'.ok.exf b hb).1, I'.ok.exfs b hb, .inl hb, fun x c e => (I'.ok.exf b hb).2 x c e, fun p hp => absurd (show p ∈ ([] : List (Addr × Obj)) ++ [] from hp) (by simp)⟩
  refine codeAny_compStart_dict ?L (T.self X.A 0 _ _ _ stc ?L)
  refine compLoop_anyD (fun n s' => ∃ i H', Inv (X.blk sb Hb scope ce fp) [] (wipe σ (own.map (·.2))) H' s' ∧ tn i s'.heap ∧ (∀ b ∈ fp, H' b = none) ∧ W i n H') ?_ m0 ⟨0, Hb, Ic, stc, nfp, w0⟩
  rintro n s5 ⟨i, H5, I5, st5, n5, w5⟩
  rcases turn i n H5 w5 with ⟨stop, qq⟩ | ⟨go, Nx, hNx, step⟩
  · refine thnF (T.done (X.blk sb Hb scope ce fp) rfl rfl rfl hc i [] s5 _ H5 (fun _ _ => False) I5 (stat I5 n5) st5 stop) fun r s6 ⟨hr, I6⟩ => ?_
    subst hr
    have I7 : Inv X pins σ H5 s6 := Ib.call' (ch := fp) I6.os I6.base I6.hok I6.bare fun b hb => ⟨(fb b hb).1.2.2.2.1, (fb b hb).1.2.1, (fb b hb).1.2.2.2.2.1, (fb b hb).1.2.2.2.2.2⟩
    have nC : H5 sb.heap.objs.size = none := by
      have z : H5 ce.locals = none := I6.free
      rwa [cL] at z
    obtain ⟨m, hn, _⟩ := I6.loc
    have hn : s6.heap.Ns ce.locals m := hn
    rw [cL] at hn
    obtain ⟨a0, a1, a2, a3, a4, a5⟩ := Ib.fpOk (Nat.le_refl _) nC
    exact ⟨m, hn, fun h'' sb' => ⟨.ref D, H5, I7.turned (t' := s6.toks) (fun b o hb e => (sb'.2 b hb).trans e) a0 a1 a3 a4 a5, rfl, qq⟩⟩
  · refine thnF (T.item (X.blk sb Hb scope ce fp) rfl rfl rfl hc i [] s5 _ H5 (fun _ _ => False) I5 (stat I5 n5) st5 go) fun r s6 ⟨u, hr, h6⟩ => ?_
    subst hr
    refine thnF h6 fun _ s7 ⟨x, H7, I7, r7, y7, st7, n7⟩ => ?_
    refine thnF (pg.run _ s7 _ H7 x u _ (I7.pinned (stat I7 n7) (T.obj _ _ st7)) r7 (step x H7 y7)) fun _ s8 ⟨σ8, H8, I8, hw8, q8⟩ => thnF (pt.run _ s8 σ8 H8 _ I8 q8) fun b s9 ⟨H9, I9, q9⟩ => ?_
    have fin : ∀ {s' : Shared} {H' : Hp}, Inv (X.blk sb Hb scope ce fp) ([] ++ pinsAt fp s7.heap) σ8 H' s' → Nx H' →
        ∃ m, m < n ∧ ∃ i H', Inv (X.blk sb Hb scope ce fp) [] (wipe σ (own.map (·.2))) H' s' ∧ tn i s'.heap ∧ (∀ b ∈ fp, H' b = none) ∧ W i m H' := fun {s' H'} I' nx => by
      obtain ⟨m', hm, w'⟩ := hNx H' nx
      have pin' : ∀ b ∈ fp, ∀ o, s7.heap.get? b = some o → s'.heap.get? b = some o ∧ H' b = none := fun b hb o e =>
        let z := I'.pin (b, o) (List.mem_append_right _ (List.mem_append_right _ (mem_pinsAt hb e)))
        ⟨z.1, z.2.1⟩
      exact ⟨m', hm, i + 1, H', (I'.unpinned (pins := [])).weak (by rw [← hw8, wipe_length]) (fun j v e => by rw [← hw8] at e; exact (wipe_some e).1), T.keep _ _ _ st7 fun b hb o e => (pin' b hb o e).1, fun b hb => let ⟨o, eo, _⟩ := T.obj _ _ st7 b hb; (pin' b hb o eo).2, w'⟩
    cases b with
    | false =>
      simp only [Bool.false_eq_true, if_false] at q9 ⊢
      exact fin I9 q9
    | true =>
      simp only [if_true] at q9 ⊢
      refine thnF (pk.run _ s9 σ8 H9 _ I9 q9) fun z s10 ⟨yk, H10, I10, r10, q10⟩ => thnF (pe.run _ s10 σ8 H10 _ I10 q10) fun z2 s11 ⟨yv, H11, I11, r11, kvs, k, b, ek, eb, hD11, hz11, nx⟩ => ?_
      subst ek
      exact dictSet_T (X := X.blk sb Hb scope ce fp) hu I11 hD11 hz11 eb r10 r11 fun s12 I12 => fin I12 nx
end
theorem dcWT {J : It} {n : Nat} {G : Hp → Prop} {Y : Nat → Hp → V → Hp → Prop} (w : Walk J n G Y) {g : TG} {tt : TT} {tk tv : TE} {vs : List Nat} {σ : L2.St} {H1 : Hp} {D : Addr} {Qd : Hp → Prop} (Pv : Nat → Hp → Prop) (h0 : Pv 0 (upd H1 D (.dT []))) (hG : ∀ i H, i ≤ n → Pv i H → G H)
    (hs : ∀ i x H H', i < n → Pv i H → Y i H x H' → g x (wipe σ vs) H' fun σ2 H2 => wipe σ2 vs = wipe σ vs ∧ tt σ2 H2 fun b H3 => if b = true then tk σ2 H3 fun y H4 => tv σ2 H4 fun z H5 => PutT D (Pv (i + 1)) y z H5 else Pv (i + 1) H3) (hd : ∀ H, Pv n H → Qd H) :
    ∃ W : Nat → Nat → Hp → Prop, (∃ m, W 0 m (upd H1 D (.dT []))) ∧ ∀ i m H, W i m H →
      (J.stop i H ∧ Qd H) ∨ (J.go i H ∧ ∃ Nx : Hp → Prop, (∀ H', Nx H' → ∃ m', m' < m ∧ W (i + 1) m' H') ∧ ∀ x H', J.yld i H x H' → g x (wipe σ vs) H' fun σ2 H2 => wipe σ2 vs = wipe σ vs ∧ tt σ2 H2 fun b H3 => if b = true then tk σ2 H3 fun y H4 => tv σ2 H4 fun z H5 => PutT D Nx y z H5 else Nx H3) := by
  refine ⟨fun i m H => m = n - i ∧ i ≤ n ∧ Pv i H, ⟨n, by simp, Nat.zero_le _, h0⟩, ?_⟩
  rintro i m H ⟨rfl, hi, p⟩
  rcases Nat.lt_or_eq_of_le hi with hlt | rfl
  · exact .inr ⟨w.goes i H hlt (hG i H hi p), Pv (i + 1), fun H' p' => ⟨n - (i + 1), by omega, rfl, hlt, p'⟩, fun x H' y => hs i x H H' hlt p (w.yields i H x H' hlt (hG i H hi p) y)⟩
  · exact .inl ⟨w.stops H (hG i H hi p), hd H p⟩
end Sl
/-! ## T5 -/
set_option Elab.async false
set_option linter.all false
set_option maxRecDepth 100000
set_option maxHeartbeats 4000000
set_option pp.maxSteps 1500
set_option pp.deepTerms false
/-! nested defs that are handed on; cells of which a function captured some; machine_from -/
namespace Sl
open PySem PySem.Spec PyProof.Rows L2 LamX NdefX
/-- of the captured cells of one function those of another -/
structure SubC (cl1 : List (Str × Addr)) (fr1 : List Str) (ws1 : List (Option V)) (cl : List (Str × Addr)) (fr : List Str) (ws : List (Option V)) : Prop where
  len : ws1.length = fr1.length
  sub : ∀ y c, cl1.lookup y = some c → cl.lookup y = some c
  has : ∀ (i : Nat) (y : Str), fr1[i]? = some y → ∃ j : Nat, fr[j]? = some y ∧ ws[j]? = ws1[i]? ∧ ∀ c, cl.lookup y = some c → cl1.lookup y = some c
section
variable {cl1 cl : List (Str × Addr)} {fr1 fr : List Str} {ws1 ws : List (Option V)}
theorem CellsB.part {b : Heap} (B : CellsB cl fr ws b) (s : SubC cl1 fr1 ws1 cl fr ws) : CellsB cl1 fr1 ws1 b := by
  refine ⟨s.len, fun y c e => B.all y c (s.sub y c e), fun x y c e1 e2 => B.inj x y c (s.sub x c e1) (s.sub y c e2), fun i y e => ?_⟩
  obtain ⟨j, h1, h2, h3⟩ := s.has i y e
  obtain ⟨c, hc, hv⟩ := B.has j y h1
  exact ⟨c, h3 c hc, fun v ev => hv v (by rw [h2]; exact ev)⟩
theorem CellsAt.part {h : Heap} {H : Hp} (B : CellsAt cl fr ws h H) (s : SubC cl1 fr1 ws1 cl fr ws) : CellsAt cl1 fr1 ws1 h H := by
  refine ⟨s.len, fun y c e => B.all y c (s.sub y c e), fun x y c e1 e2 => B.inj x y c (s.sub x c e1) (s.sub y c e2), fun i y e => ?_⟩
  obtain ⟨j, h1, h2, h3⟩ := s.has i y e
  obtain ⟨c, hc, hv⟩ := B.has j y h1
  exact ⟨c, h3 c hc, fun v ev => hv v (by rw [h2]; exact ev)⟩
theorem CellsF.part {outer : List Env} {h : Heap} {H : Hp} (B : CellsF cl fr ws outer h H) (s : SubC cl1 fr1 ws1 cl fr ws) : CellsF cl1 fr1 ws1 outer h H := ⟨CellsAt.part B.at_ s, fun y c e => B.nf y c (s.sub y c e)⟩
end
/-- f(..), f a name that holds the nested def F -/
def tCallD (f : Addr) (F : NF) (i : Nat) (ws : List (Option V)) (sp : List (Option V) → Sp) (E : XK) (t : TA) : TE := fun σ H Q => σ[i]? = some (some (.ref f)) ∧ H f = some (FnO f F) ∧
  t σ H fun vs H1 => H1 f = some (FnO f F) ∧ H1 F.c = some (CodeO F.c F.qual) ∧ sp ws vs H1 Q E
section
variable {X : Cx} {CX : CXT} {f : Addr} {F : NF} {ps fr : List Str} {ws : List (Option V)} {i j k : Nat} {x : Str} {sp : List (Option V) → Sp} {E : XK} {t : TA} {e : Expr} {es : List Expr} {p pos : Pos}
theorem run_d {pins : List (Addr × Obj)} {σ : L2.St} {H : Hp} {s : Shared} {Q : VK} {us : List Value} {vs : List V} (Fn : NOk X.prog X.w X.K X.mg X.base CX k f F ps fr sp) (hr : Room j X.A) (hk : k ≤ j) (hx : Passes CX X E) (I : Inv X pins σ H s)
    (hf : H f = some (FnO f F)) (hc : H F.c = some (CodeO F.c F.qual)) (C : CellsAt F.cl fr ws s.heap H) (r : Vals vs us) (q : sp ws vs H Q E) : wpAny (model X.prog X.w) X.A (call (.ref f) us) (EP X pins σ Q) X.xe s := by
  refine wpAny_call (codeAny_mono (Fn.run X.A X.stack s H us vs _ Q E (hr.mono hk) I.env0 hf hc C r q) fun r s' hq => ?_)
  cases r with
  | error e => exact hx pins σ H s e s' I hq
  | ok fl =>
    cases fl with
    | ret u => exact I.after hq
    | next => exact hq.elim
    | brk => exact hq.elim
    | cont => exact hq.elim
theorem pe_callD (Fn : NOk X.prog X.w X.K X.mg X.base CX k f F ps fr sp) (C : ∀ (pins : List (Addr × Obj)) (σ : L2.St) (H : Hp) (s : Shared), Inv X pins σ H s → CellsAt F.cl fr ws s.heap H) (hr : Room j X.A) (hk : k ≤ j) (hx : Passes CX X E) (hN : X.N[i]? = some x) (hv : Vis X.env.scope x) (ha : PA X (e :: es) t)
    (hd : (x == ("__debug__" : Str)) = false := by decide) (hcd : (x == ("__classdict__" : Str)) = false := by decide)
    (he : starEach (e :: es) X.env = (false, eval e X.env) :: starEach es X.env := by rfl) (hpl : (backTo pos (starEach es X.env)).any (·.1) = false := by rfl) :
    PE X (.Call (.Name x p) (e :: es) [] pos) (tCallD f F i ws sp E t) := by
  refine ⟨fun pins s σ H Q I ⟨hs, hf, ht⟩ => ?_⟩
  refine wpAny_Call_Name_kw (thn ((pe_var (pos := p) hN hv hd hcd).run pins s σ H (fun v H1 => v = .ref f ∧ H1 = H) I ⟨.ref f, hs, rfl, rfl⟩) fun u s1 ⟨v, H1, I1, r1, e1, e2⟩ => ?_)
  subst e1 e2
  obtain rfl : u = Value.ref f := r1
  refine PySem.W.callWith_F (first := []) (fnAt_of I1 hf) (thn (ha.run pos pins s1 σ _ _ I1 ht) fun us s2 ⟨vs, H2, I2, r, h1, h2, q⟩ => ⟨fnAt_of I2 h1, ?_⟩) he hpl
  exact run_d Fn hr hk hx I2 h1 h2 (C pins σ H2 s2 I2) r q
end
/-- a nested def that tells of a pair -/
def spIsIn (W : Nat) (G : Hp → Prop) (m : Nat → Bool) (N : Nat) : List V → Hp → VK → Prop := fun vs H Q => ∃ (a : Addr) (n : Nat), vs = [.ref a] ∧ PrAt W H a n ∧ n < N ∧ G H ∧ Q (.bl (m n)) H
structure IsInT (P : Program) (w : World) (K : PySem.W.Frag) (mg : Str → Option Value) (base : Heap) (k W : Nat) (G : Hp → Prop) (m : Nat → Bool) (N : Nat) (f : Addr) (F : NF) (fr : List Str) (ws : List (Option V)) : Prop where
  ok : ∃ y sp, NOk P w K mg base CX0 k f F [y] fr sp ∧ ∀ vs H Q E, spIsIn W G m N vs H Q → sp ws vs H Q E
abbrev sMachFrom : Stmt := top 19
abbrev nMachFrom : List Str := ["first", "leads", "is_in", "order", "numbers", "states", "node", "number", "sign", "after"]
abbrev scMFRows : Scope := lamSc (asgVal (nth (defBody sMachFrom) 2)) (defScope sMachFrom)
def spMachFrom (P : Program) (w : World) (K : PySem.W.Frag) (mg : Str → Option Value) (T : List NTab) (k : Nat) (base : Heap) : List (Str × Addr) → List Str → List (Option V) → Sp := fun cl fr ws vs H Q _ => ∃ (t0 f f2 : Addr) (F : LF) (F2 : NF) (fr1 : List Str) (ws1 : List (Option V)) (W first N : Nat) (G : Hp → Prop) (sg : List Str) (δ : Nat → Str → Nat) (m : Nat → Bool), vs = [.ref t0, .ref f, .ref f2] ∧ PrAt W H t0 first ∧
  H f = some (LamO f F) ∧ H F.c = some (CodeO F.c F.qual) ∧ SubC F.cl fr1 ws1 cl fr ws ∧ (∀ b : Heap, (∀ a o, base.get? a = some o → b.get? a = some o) → Mod K mg b → LeadLT P w K mg b k W G (gOf sg δ) N F fr1 ws1) ∧
  H f2 = some (FnO f2 F2) ∧ H F2.c = some (CodeO F2.c F2.qual) ∧ F2.cl = cl ∧ (∀ b : Heap, (∀ a o, base.get? a = some o → b.get? a = some o) → Mod K mg b → IsInT P w K mg b k W G m N f2 F2 fr ws) ∧
  TabsN T H ∧ G H ∧ GrOk G (gOf sg δ) N ∧ sg.Nodup ∧ sg.length ≤ 100 ∧ first < N ∧
  ∀ (H' : Hp) (t L Fd : Addr) (rs : List Addr), ExtN H H' → (∀ b, H' b = none → H b = none) → TabsN T H' → H t = none → H L = none → H Fd = none → H' t = some (.tup [.ref L, .ref Fd]) → H' L = some (.lst (rs.map V.ref)) → rs.length = (reachedL (gOf sg δ) N first).length → (∀ r ∈ rs, H r = none) →
    RowsD H' rs sg (fun i c => ixL (reachedL (gOf sg δ) N first) (δ ((reachedL (gOf sg δ) N first).getD i 0) c)) → H' Fd = some (.lst (((reachedL (gOf sg δ) N first).filter m).map fun n => V.int (ixL (reachedL (gOf sg δ) N first) n : Nat))) → Q (.ref t) H'
section
variable {P : Program} {w : World} {K : PySem.W.Frag} {mg : Str → Option Value} {base : Heap}
theorem scMachFrom : FnScope nMachFrom ["first", "leads", "is_in"] (defScope sMachFrom) := ⟨rfl, rfl, rfl, by decide +kernel, rfl, by decide +kernel, by decide +kernel⟩
theorem ok_machfrom {k : Nat} {T : List NTab} {f fR : Addr} {fd fdR : FuncData} (Fn : Fun K "machine_from" "machine_from" sMachFrom f fd)
    (aR : At K mg "reached" fR fdR ["first", "leads"] []) (gR : ∀ b : Heap, (∀ a o, base.get? a = some o → b.get? a = some o) → Mod K mg b → FnV P w K mg b CX0 (k + 3) fR fdR ["first", "leads"] (spReachedT P w K mg b T (k + 1)))
    (ze : mg "enumerate" = none) : FnV P w K mg base CX0 (k + 4) f fd ["first", "leads", "is_in"] (spMachFrom P w K mg T (k + 1) base) := by
  refine Sl.Fun.okW (sp := spMachFrom P w K mg T (k + 1)) Fn scMachFrom (fun b cl fr ws vs H Q E h => ?_) (fun b cl fr ws vs H Q E h kb hm => ?_) (fun b A0 outer s H vs cl fr ws Q E hm kb hr B C h => ?_)
  · obtain ⟨t0, f, f2, F, F2, fr1, ws1, W, first, N, G, sg, δ, m, rfl, _⟩ := h
    rfl
  · obtain ⟨t0, f, f2, F, F2, fr1, ws1, W, first, N, G, sg, δ, m, h1, h2, h3, h4, h5, LL, h6, h7, h8, LI, h⟩ := h
    exact ⟨t0, f, f2, F, F2, fr1, ws1, W, first, N, G, sg, δ, m, h1, h2, h3, h4, h5, fun b' h' m' => LL b' (fun a o e => h' a o (kb a o e)) m', h6, h7, h8, fun b' h' m' => LI b' (fun a o e => h' a o (kb a o e)) m', h⟩
  · obtain ⟨t0, fl, f2, F, F2, fr1, ws1, W, first, N, G, sg, δ, m, rfl, ht0, hf, hc, sub, LL, hf2, hc2, ecl2, LI, hT, hG, gk, ndg, sg100, fN, kk⟩ := h
    have LLb := LL b (fun _ _ e => e) hm
    obtain ⟨y, spF, LF, imp⟩ := LLb.ok
    obtain ⟨y2, spF2, LF2, imp2⟩ := (LI b (fun _ _ e => e) hm).ok
    rw [← ecl2] at B
    have hu := hu_of hr
    have B1 : CellsB F.cl fr1 ws1 b := B.part (by rw [ecl2]; exact sub)
    have C1 := C.part sub
    have hr1 := hr.mono (show k + 1 ≤ k + 3 by omega)
    refine ⟨_, pss_cons (ps_set (i := 3) scMachFrom.nd rfl (.inl rfl) (pe_callV (cl := fun _ => F.cl) (fr := fr1) (ws := fun _ => ws1) (E := fun _ _ _ => False) (gR b kb hm) (fun pins σ H s I => cellsF_later C1 rfl rfl rfl I) hr (by rfl) aR.g aR.kp aR.b pass0
          (pa_cons (pv 0) (pa_cons (pe_var (i := 1) rfl (.inr (.inl rfl))) pa_nil))))
      (pss_cons (ps_set (i := 4) scMachFrom.nd rfl (.inr rfl) (pe_dcT (own := [("number", 7), ("node", 6)]) (g := gTup K 2 (gCons (gName 7) (gCons (gName 6) gNil))) (tt := tYes) (tk := tVar 6) (tv := tVar 7) hu rfl scMachFrom.nd (pi_enumK (by rfl) ze (pa_cons (pv 3) pa_nil)) (blkOk_by (N := nMachFrom) (sc := defScope sMachFrom) (by decide +kernel))
          (fun _ _ _ _ _ => pg_tup (by rfl) (pgs_cons (pg_name (i := 7) scMachFrom.nd rfl (.inl rfl)) (pgs_cons (pg_name (i := 6) scMachFrom.nd rfl (.inl rfl)) pgs_nil))) (fun _ _ _ _ _ => pts_nil) (fun _ _ _ _ _ => pv 6) (fun _ _ _ _ _ => pv 7)))
      (pss_cons (ps_setLc (i := 5) (own := [("node", 6)]) (g := gName 6) (tt := tYes) (te := tDc (iList K (tCallL F 1 ws1 spF (fun _ _ _ => False) (tCons (tVar 6) tNil))) (gTup K 2 (gCons (gName 8) (gCons (gName 9) gNil))) tYes (tVar 8) (tDGet (tVar 4) (tVar 9)) [8, 9]) rfl scMachFrom.nd rfl rfl (sw_true rfl rfl rfl (by decide +kernel)) (pi_list (pv 3)) (blkOk_by (N := nMachFrom) (sc := defScope sMachFrom) (by decide +kernel))
          (fun _ _ _ _ _ => pg_name (i := 6) scMachFrom.nd rfl (Or.inl rfl)) (fun _ _ _ _ _ => pts_nil)
          (fun _ _ _ _ _ => pe_dc (own := [("sign", 8), ("after", 9)]) (g := gTup K 2 (gCons (gName 8) (gCons (gName 9) gNil))) (tt := tYes) (tk := tVar 8) rfl scMachFrom.nd (pi_list (pe_callL (i := 1) LF (fun pins σ H s I => cells_base B1 I) hr1 (Nat.le_refl _) pass0 rfl (.inr (.inl rfl)) (pa_cons (pv 6) pa_nil))) (blkOk_by (N := nMachFrom) (sc := relS scMFRows (defScope sMachFrom)) (by decide +kernel))
              (fun _ _ _ _ _ => pg_tup (by rfl) (pgs_cons (pg_name (i := 8) scMachFrom.nd rfl (.inl rfl)) (pgs_cons (pg_name (i := 9) scMachFrom.nd rfl (.inl rfl)) pgs_nil))) (fun _ _ _ _ _ => pts_nil) (fun _ _ _ _ _ => pv 8)
              (fun _ _ _ _ _ => pe_dget hu (pe_var (i := 4) rfl (.inr (.inl rfl))) (pv 9) (fun _ _ => rfl))))
      (pss_one (ps_ret (pe_tup (pa_cons (pv 5) (pa_cons (pe_lc (own := [("node", 6)]) (g := gName 6) (tt := tB (tCallD f2 F2 2 ws spF2 (fun _ _ _ => False) (tCons (tVar 6) tNil))) (te := tDGet (tVar 4) (tVar 6)) rfl scMachFrom.nd (pi_list (pv 3)) (blkOk_by (N := nMachFrom) (sc := defScope sMachFrom) (by decide +kernel))
          (fun _ _ _ _ _ => pg_name (i := 6) scMachFrom.nd rfl (.inl rfl))
          (fun _ _ _ _ _ => pts_one (pt_val (pe_callD (i := 2) LF2 (fun pins σ H s I => cells_base B I) hr1 (Nat.le_refl _) pass0 rfl (.inr (.inl rfl)) (pa_cons (pv 6) pa_nil))))
          (fun _ _ _ _ _ => pe_dget hu (pe_var (i := 4) rfl (.inr (.inl rfl))) (pv 6) (fun _ _ => rfl))) pa_nil))))))), ?_⟩
    have hlt : ∀ n, n < N → ∀ e ∈ gOf sg δ n, e.2 < N := gk.lt
    have FO := reachedL_found hlt fN
    have n100 := gk.n
    refine ⟨_, rfl, _, rfl, t0, fl, F, W, first, N, G, gOf sg δ, rfl, ht0, hf, hc, rfl, LLb, hT, hG, gk, fN, fun H1 od bs x1 nn1 T1 nod hod hbs => ?_⟩
    generalize reachedL (gOf sg δ) N first = order at FO kk hbs
    have lo : order.length ≤ 100 := Nat.le_trans (nodup_len FO.nd FO.lt) n100
    have lbs : bs.length = order.length := Paired.length hbs
    have ocl : ∀ n ∈ order, ∀ c ∈ sg, δ n c ∈ order := fun n hn c hc => FO.cl n hn (c, δ n c) (List.mem_map.mpr ⟨c, hc, rfl⟩)
    have hf1 := x1 _ _ hf lamO_ne
    have hc1 := x1 _ _ hc codeO_ne
    have hf21 := x1 _ _ hf2 fnO_ne
    have hc21 := x1 _ _ hc2 codeO_ne
    have G1 := gk.st _ _ x1 hG
    -- numbers
    refine ⟨_, rfl, true, od, _, rfl, SqK.l hod, fun D nD => ?_⟩
    refine dcWT (walk_enumK (xs := bs.map V.ref)) (fun i H' => Ext H1 H' ∧ ∃ kvs : List (List Key × V), H' D = some (.dT kvs) ∧ kvs.length ≤ i ∧ ∀ n ∈ order.take i, valV kvs (keyT W n) = some (.int (ixL order n : Nat))) ⟨Ext.new nD, [], upd_same, Nat.le_refl _, fun n h => (nomatch h)⟩ (fun i H' _ h => (SqK.l hod).ext h.1) ?_ ?_
    · rintro i x H7 H8 hi ⟨x7, kvs, d7, l7, k7⟩ ⟨T2, x', y', rfl, nT, rfl, q1, q2⟩
      obtain rfl := Option.some.inj q1
      obtain ⟨a, ha, rfl⟩ := at_map q2
      rw [List.length_map] at hi
      obtain ⟨n, hn⟩ : ∃ n, order[i]? = some n := ⟨_, List.getElem?_eq_getElem (by omega)⟩
      obtain ⟨a', ha', hpr⟩ := paired_at hbs hn
      rw [ha] at ha'
      obtain rfl := Option.some.inj ha'
      have ix := ixL_nodup FO.nd hn
      refine ⟨T2, _, rfl, SqT.of upd_same, rfl, _, _, rfl, _, _, rfl, rfl, rfl, ?_⟩
      have xT := Ext.new nT (o := .tup [V.int (i : Nat), V.ref a])
      have d8 := xT _ _ d7
      have x8 := x7.trans xT
      generalize upd H7 T2 (.tup [V.int (i : Nat), V.ref a]) = H8 at xT d8 x8 ⊢
      dsimp only [tYes]
      rw [if_pos rfl]
      refine ⟨_, rfl, _, rfl, kvs, keyT W n, a, rfl, x8 _ _ hpr, d8, small_l (by omega), fun b o e => by rw [upd_ne (ne_of_none e nD)]; exact x8 _ _ e, _, upd_same, Nat.le_trans (length_putK _ _ _) (by omega), fun j hj => ?_⟩
      rw [valV_put]
      rw [take_more hn] at hj
      by_cases c : j = n
      · subst c
        rw [if_pos rfl, ix]
      · rw [if_neg (fun e => c (keyT_inj e))]
        exact k7 j ((List.mem_append.mp hj).resolve_right fun z => c (List.mem_singleton.mp z))
    rintro H2 ⟨x2, kvn, d2, l2, k2⟩
    rw [List.length_map, lbs, List.take_length] at k2
    have hod2 := x2 _ _ hod
    -- states
    refine ⟨_, rfl, od, rfl, ⟨_, SqL.of hod2⟩, fun L nL => ?_⟩
    refine lc_it (walk_list (xs := bs.map V.ref)) (fun i H' => Ext H2 H' ∧ ∃ rs : List Addr, rs.length = i ∧ H' L = some (.lst (rs.map V.ref)) ∧ RowsD H' rs sg (fun i c => ixL order (δ (order.getD i 0) c)) ∧ ∀ r ∈ rs, H r = none) ⟨Ext.new nL, [], rfl, upd_same, fun i r e => (by cases i <;> cases e), fun r h => (nomatch h)⟩ (fun i H' _ h => SqL.of (h.1 _ _ hod2)) ?_ ?_
    · rintro i x H3 H4 hi ⟨x3, rs, lrs, hL3, hrs, hrn⟩ ⟨rfl, hx⟩
      obtain ⟨a, ha, rfl⟩ := at_map hx
      rw [List.length_map] at hi
      obtain ⟨n, hn⟩ : ∃ n, order[i]? = some n := ⟨_, List.getElem?_eq_getElem (by omega)⟩
      obtain ⟨a', ha', hpr⟩ := paired_at hbs hn
      rw [ha] at ha'
      obtain rfl := Option.some.inj ha'
      have no := List.mem_of_getElem? hn
      have gd : order.getD i 0 = n := by
        rw [List.getD_eq_getElem?_getD, hn]
        rfl
      have x13 := x2.trans x3
      refine ⟨rfl, ?_⟩
      dsimp only [tYes]
      rw [if_pos rfl]
      refine ⟨fl, rfl, x13 _ _ hf1, _, rfl, x13 _ _ hf1, x13 _ _ hc1, imp _ _ _ _ ⟨a, n, rfl, x13 _ _ hpr, FO.lt n no, gk.st _ _ (ExtN.of x13) G1, fun H5 p ts x5 np hp hts => ?_⟩⟩
      have d5 := x5 _ _ (x3 _ _ d2)
      have hL5 := x5 _ _ hL3
      refine ⟨p, rfl, ⟨_, SqL.of hp⟩, fun R nR => ?_⟩
      have lts : ts.length = sg.length := by
        rw [hts.len]
        exact List.length_map _
      refine dcW (walk_list (xs := ts.map V.ref)) (fun j H' => Ext H5 H' ∧ H' R = some (.dK ((sg.take j).map fun c => (keyC c, V.int (ixL order (δ (order.getD i 0) c) : Nat))))) ⟨Ext.new nR, upd_same⟩ (fun j H' _ h => SqL.of (h.1 _ _ hp)) ?_ ?_
      · rintro j y H6 H7 hj ⟨y6, hR⟩ ⟨rfl, hy⟩
        obtain ⟨t, htj, rfl⟩ := at_map hy
        obtain ⟨e, ea, he, hte, hpe⟩ := hts.at_ htj
        obtain ⟨c, hcj, rfl⟩ : ∃ c, sg[j]? = some c ∧ e = (c, δ n c) := by
          unfold gOf at he
          rw [List.getElem?_map] at he
          cases q : sg[j]? with
          | none =>
            rw [q] at he
            cases he
          | some c =>
            rw [q] at he
            exact ⟨c, rfl, (Option.some.inj he).symm⟩
        have cm := List.mem_of_getElem? hcj
        have nin : valV ((sg.take j).map fun c => (keyC c, V.int (ixL order (δ (order.getD i 0) c) : Nat))) (keyC c) = none := by
          cases e : valV ((sg.take j).map fun c => (keyC c, V.int (ixL order (δ (order.getD i 0) c) : Nat))) (keyC c) with
          | none => rfl
          | some v =>
            exfalso
            obtain ⟨kv, hm, hk⟩ := List.mem_map.mp (valV_in e)
            obtain ⟨c2, hm2, rfl⟩ := List.mem_map.mp hm
            have hk : keyC c2 = keyC c := hk
            unfold keyC at hk
            injection hk with hk
            have h1 : (sg.take (j + 1)).Nodup := ndg.sublist (List.take_sublist _ _)
            rw [take_more hcj] at h1
            exact (List.nodup_append.mp h1).2.2 c2 hm2 c (by simp) hk
        have gn : DGet H7 D (.ref ea) (some (.int (ixL order (δ n c) : Nat))) := by
          have q := DGet.t (k := keyT W (δ n c)) (y6 _ _ d5) (y6 _ _ hpe)
          rw [k2 _ (ocl n no c cm)] at q
          exact q
        refine ⟨t, _, rfl, SqT.of (y6 _ _ hte), rfl, _, _, rfl, _, _, rfl, rfl, rfl, ?_⟩
        dsimp only [tYes]
        rw [if_pos rfl]
        refine ⟨_, rfl, _, rfl, _, rfl, D, _, rfl, gn, _, keyC c, rfl, hR, ?_, fun a o e => ?_, ?_⟩
        · rw [List.length_map, List.length_take]
          exact small1000 (by omega)
        · rw [upd_ne (ne_of_none e nR)]
          exact y6 _ _ e
        · rw [upd_same, putK_new _ nin, take_more hcj, List.map_append, gd]
          rfl
      · rintro H6 ⟨y6, hR⟩
        rw [List.length_map, lts, List.take_length] at hR
        have hL6 := y6 _ _ hL5
        have x36 := x5.trans y6
        refine ⟨_, hL6, by rw [List.length_map]; exact small1000 (by omega), fun a o e => ?_, rs ++ [R], by rw [List.length_append, lrs]; rfl, ?_, fun j r hr => ?_, fun r hr => (List.mem_append.mp hr).elim (hrn r) fun h => by rw [List.mem_singleton.mp h]; exact nn1 _ ((x13.trans x5).free nR)⟩
        · rw [upd_ne (ne_of_none e nL)]
          exact x36 _ _ (x3 _ _ e)
        · rw [upd_same, List.map_append]
          rfl
        · have keep : ∀ a kvs, H6 a = some (.dK kvs) → (upd H6 L (.lst (rs.map V.ref ++ [.ref R]))) a = some (.dK kvs) := fun a kvs h => by
            rw [upd_ne (ne_of h hL6 (by intro z; cases z))]
            exact h
          by_cases cj : j < rs.length
          · rw [List.getElem?_append_left cj] at hr
            exact keep _ _ (x36 _ _ (hrs j r hr))
          · have hlt := (List.getElem?_eq_some_iff.mp hr).1
            rw [List.length_append] at hlt
            have hlt : j < rs.length + 1 := hlt
            obtain rfl : j = rs.length := by omega
            rw [List.getElem?_append_right (Nat.le_refl _), Nat.sub_self] at hr
            obtain rfl := Option.some.inj hr
            rw [lrs]
            exact keep _ _ hR
    rintro H3 ⟨x3, rs, lrs, hL3, hrs, hrn⟩
    rw [List.length_map] at lrs
    have hod3 := x3 _ _ hod2
    have d3 := x3 _ _ d2
    have x13 := x2.trans x3
    -- members
    refine ⟨_, rfl, _, rfl, od, rfl, ⟨_, SqL.of hod3⟩, fun Fd nF => ?_⟩
    refine lc_it (walk_list (xs := bs.map V.ref)) (fun i H' => Ext H3 H' ∧ H' Fd = some (.lst (((order.take i).filter m).map fun n => V.int (ixL order n : Nat)))) ⟨Ext.new nF, upd_same⟩ (fun i H' _ h => SqL.of (h.1 _ _ hod3)) ?_ ?_
    · rintro i x H4 H5 hi ⟨x4, hF⟩ ⟨rfl, hx⟩
      obtain ⟨a, ha, rfl⟩ := at_map hx
      rw [List.length_map] at hi
      obtain ⟨n, hn⟩ : ∃ n, order[i]? = some n := ⟨_, List.getElem?_eq_getElem (by omega)⟩
      obtain ⟨a', ha', hpr⟩ := paired_at hbs hn
      rw [ha] at ha'
      obtain rfl := Option.some.inj ha'
      have no := List.mem_of_getElem? hn
      have x14 := x13.trans x4
      have tk : order.take (i + 1) = order.take i ++ [n] := take_more hn
      refine ⟨rfl, rfl, x14 _ _ hf21, _, rfl, x14 _ _ hf21, x14 _ _ hc21, imp2 _ _ _ _ ⟨a, n, rfl, x14 _ _ hpr, FO.lt n no, gk.st _ _ (ExtN.of x14) G1, m n, rfl, ?_⟩⟩
      cases hmn : m n with
      | true =>
        rw [if_pos rfl]
        have gn : DGet H5 D (.ref a) (some (.int (ixL order n : Nat))) := by
          have q := DGet.t (k := keyT W n) (x4 _ _ d3) (x14 _ _ hpr)
          rw [k2 _ no] at q
          exact q
        have hl : (((order.take i).filter m).map fun n => V.int (ixL order n : Nat)).length < sizeLine := by
          rw [List.length_map]
          have q1 := List.length_filter_le m (order.take i)
          rw [List.length_take] at q1
          exact small1000 (by omega)
        refine ⟨_, rfl, _, rfl, D, _, rfl, gn, _, hF, hl, fun b o e => ?_, ?_⟩
        · rw [upd_ne (ne_of_none e nF)]
          exact x4 _ _ e
        · rw [upd_same, tk, List.filter_append, List.map_append, List.filter_cons, hmn, List.filter_nil]
          rfl
      | false =>
        rw [if_neg Bool.false_ne_true]
        refine ⟨x4, ?_⟩
        rw [tk, List.filter_append, List.filter_cons, hmn, List.filter_nil, if_neg Bool.false_ne_true, List.append_nil]
        exact hF
    · rintro H4 ⟨x4, hF⟩
      rw [List.length_map, lbs, List.take_length] at hF
      refine ⟨by show 2 ≤ sizeLine; decide, fun t nt => ?_⟩
      have xt := x4.trans (Ext.new nt (o := .tup [V.ref L, V.ref Fd]))
      have x1t := x13.trans xt
      exact kk _ t L Fd rs (x1.trans (ExtN.of x1t)) (fun b e => nn1 b (x1t.free e)) (T1.ext x1t) (nn1 _ (x13.free (x4.free nt))) (nn1 _ (x2.free nL)) (nn1 _ (x13.free nF)) upd_same (xt _ _ hL3) (by omega) hrn (fun i r e => xt _ _ (hrs i r e)) (Ext.new nt _ _ hF)
end
end Sl
/-! ## T6 -/
set_option Elab.async false
set_option linter.all false
set_option maxRecDepth 100000
set_option maxHeartbeats 4000000
set_option pp.maxSteps 1500
set_option pp.deepTerms false
/-! the pairs that follow a pair of states of two languages -/
namespace Sl
open PySem PySem.Spec PyProof.Rows L2 LamX NdefX
abbrev sNext : Stmt := top 44
abbrev nNext : List Str := ["one", "other", "pair", "first", "second", "sign"]
/-- the machine of pairs; W: how many states the second one has -/
def prD (W : Nat) (δ1 δ2 : Nat → Str → Nat) : Nat → Str → Nat := fun n c => δ1 (n / W) c * W + δ2 (n % W) c
/-- two languages over the same signs stand at p1 and p2 -/
structure TwoAt (C : Addr) (p1 p2 : Addr) (z : Str) (M1 M2 : Nat) (δ1 δ2 : Nat → Str → Nat) (f1 f2 l1 l2 : List Nat) (H : Hp) : Prop where
  a : LangAt C H p1 z M1 δ1 f1 l1
  b : LangAt C H p2 z M2 δ2 f2 l2
theorem LangAt.extN {C : Addr} {H H' : Hp} {p : Addr} {z : Str} {M : Nat} {δ : Nat → Str → Nat} {found live : List Nat} (x : ExtN H H') (h : LangAt C H p z M δ found live) : LangAt C H' p z M δ found live := by
  obtain ⟨dx, fs, L, rs, Me, Li, h1, h2, h3, h4, h5, h6, h7, h8, h9, h10, h11⟩ := h.ex
  exact ⟨dx, fs, L, rs, Me, Li, x _ _ h1 (fun _ z => nomatch z), h2, h3, x _ _ h4 (fun _ z => nomatch z), h5, fun i r e => x _ _ (h6 i r e) (fun _ z => nomatch z), h7, x _ _ h8 (fun _ z => nomatch z), h9, x _ _ h10 (fun _ z => nomatch z), h11⟩
theorem LangAt.no {C : Addr} {H : Hp} {p : Addr} {z : Str} {M : Nat} {δ : Nat → Str → Nat} {found live : List Nat} (h : LangAt C H p z M δ found live) (f : Str) (hf : f ∉ (["_signs", "_states", "_members", "_live"] : List Str)) : ∃ dx fs, H p = some (.ins C dx fs) ∧ fs.lookup f = none := by
  obtain ⟨dx, fs, L, rs, Me, Li, h1, h2, h3, h4, h5, h6, h7, h8, h9, h10, h11⟩ := h.ex
  exact ⟨dx, fs, h1, h11 f hf⟩
theorem TwoAt.extN {C p1 p2 : Addr} {z : Str} {M1 M2 : Nat} {δ1 δ2 : Nat → Str → Nat} {f1 f2 l1 l2 : List Nat} {H H' : Hp} (x : ExtN H H') (h : TwoAt C p1 p2 z M1 M2 δ1 δ2 f1 f2 l1 l2 H) : TwoAt C p1 p2 z M1 M2 δ1 δ2 f1 f2 l1 l2 H' := ⟨h.a.extN x, h.b.extN x⟩
def spNext (C : Addr) : Sp := fun vs H Q _ => ∃ (p1 p2 a : Addr) (z : Str) (M1 M2 n : Nat) (δ1 δ2 : Nat → Str → Nat) (f1 f2 l1 l2 : List Nat), vs = [.ref p1, .ref p2, .ref a] ∧ TwoAt C p1 p2 z M1 M2 δ1 δ2 f1 f2 l1 l2 H ∧ PrAt M2 H a n ∧ n < M1 * M2 ∧ z.cps.size ≤ 100 ∧
  (∀ m, m < M1 → ∀ c ∈ sgL z, δ1 m c < M1) ∧ (∀ m, m < M2 → ∀ c ∈ sgL z, δ2 m c < M2) ∧
  ∀ (H' : Hp) (p : Addr) (ts : List Addr), Ext H H' → H p = none → H' p = some (.lst (ts.map V.ref)) → LeadsT M2 H' ts (gOf (sgL z) (prD M2 δ1 δ2) n) → Q (.ref p) H'
theorem pr_lt {n M1 M2 : Nat} (h : n < M1 * M2) : n / M2 < M1 ∧ n % M2 < M2 := by
  have p : 0 < M2 := by
    rcases Nat.eq_zero_or_pos M2 with e | e
    · rw [e, Nat.mul_zero] at h
      omega
    · exact e
  exact ⟨(Nat.div_lt_iff_lt_mul p).mpr h, Nat.mod_lt _ p⟩
theorem pr_code {a b W : Nat} (h : b < W) : (a * W + b) / W = a ∧ (a * W + b) % W = b := by
  have p : 0 < W := by omega
  constructor
  · rw [Nat.mul_comm, Nat.mul_add_div p, Nat.div_eq_of_lt h, Nat.add_zero]
  · rw [Nat.mul_comm, Nat.mul_add_mod, Nat.mod_eq_of_lt h]
theorem prT_code {a b W : Nat} (h : b < W) : prT W (a * W + b) = [.int (a : Nat), .int (b : Nat)] := by
  unfold prT
  rw [(pr_code h).1, (pr_code h).2]
section
variable {P : Program} {w : World} {K : PySem.W.Frag} {mg : Str → Option Value} {base : Heap}
theorem scNext : FnScope nNext ["one", "other", "pair"] (defScope sNext) := ⟨rfl, rfl, rfl, by decide +kernel, rfl, by decide +kernel, by decide +kernel⟩
theorem ok_next {f C pG fG fMv : Addr} {fd fdG fdMv : FuncData} (Fn : Fun K "_next_pairs" "_next_pairs" sNext f fd) (Tc : LgC K C) (hG : PropOf K C "signs" pG fG) (bG : L2.Binds K fdG ["self"] []) (gG : FnOk P w K mg base CX0 1 fG fdG ["self"] (spSigns C))
    (mMv : L2.Meth K C "move" fMv) (bMv : L2.Binds K fdMv ["self", "state", "sign"] []) (gMv : FnOk P w K mg base CX0 4 fMv fdMv ["self", "state", "sign"] (spMoveL C)) : FnOk P w K mg base CX0 5 f fd ["one", "other", "pair"] (spNext C) := by
  refine Fn.ok scNext (fun vs H Q E h => ?_) (fun cdv A0 outer s H vs Q E hr h => ?_)
  · obtain ⟨p1, p2, a, z, M1, M2, n, δ1, δ2, f1, f2, l1, l2, rfl, _⟩ := h
    rfl
  · obtain ⟨p1, p2, a, z, M1, M2, n, δ1, δ2, f1, f2, l1, l2, rfl, TA, hpr, nN, z100, lt1, lt2, kk⟩ := h
    have hr1 := hr.mono (show 2 ≤ 4 by omega)
    refine ⟨_, pss_cons (ps_asg (pv 2) (pg_tup (by rfl) (pgs_cons (pg_name (i := 3) scNext.nd rfl (.inr rfl)) (pgs_cons (pg_name (i := 4) scNext.nd rfl (.inr rfl)) pgs_nil))))
      (pss_one (ps_ret (pe_lc (own := [("sign", 5)]) (g := gName 5) (tt := tYes) (te := tTup (tCons (tVar 5) (tCons (tTup (tCons (tMeth C "move" (spMoveL C) [] (fun _ _ _ => False) (tVar 0) (tCons (tVar 3) (tCons (tVar 5) tNil))) (tCons (tMeth C "move" (spMoveL C) [] (fun _ _ _ => False) (tVar 1) (tCons (tVar 4) (tCons (tVar 5) tNil))) tNil))) tNil))) rfl scNext.nd
          (pi_str (pe_prop (pe_var (i := 0) rfl (.inr (.inl rfl))) Tc.cl hG gG hr1 bG .nil pass0 rfl)) (blkOk_by (N := nNext) (sc := defScope sNext) (by decide +kernel))
          (fun _ _ _ _ _ => pg_name (i := 5) scNext.nd rfl (Or.inl rfl)) (fun _ _ _ _ _ => pts_nil)
          (fun _ _ _ _ _ => pe_tup (pa_cons (pv 5) (pa_cons (pe_tup (pa_cons (pe_meth (pe_var (i := 0) rfl (.inr (.inl rfl))) Tc.cl mMv gMv hr bMv .nil pass0 (pa_cons (pe_var (i := 3) rfl (.inr (.inl rfl))) (pa_cons (pv 5) pa_nil)))
            (pa_cons (pe_meth (pe_var (i := 1) rfl (.inr (.inl rfl))) Tc.cl mMv gMv hr bMv .nil pass0 (pa_cons (pe_var (i := 4) rfl (.inr (.inl rfl))) (pa_cons (pv 5) pa_nil))) pa_nil))) pa_nil)))))), ?_⟩
    obtain ⟨nd1, nd2⟩ := pr_lt nN
    obtain ⟨dx1, fs1, i1, no1⟩ := TA.a.no "move" (by decide)
    obtain ⟨dx2, fs2, i2, no2⟩ := TA.b.no "move" (by decide)
    refine ⟨_, rfl, a, _, rfl, SqT.of hpr, rfl, _, _, rfl, _, _, rfl, rfl, ?_⟩
    refine ⟨_, rfl, p1, dx1, fs1, rfl, i1, p1, z, M1, δ1, f1, l1, rfl, TA.a, z, rfl, fun D nD => ?_⟩
    have n1 : ¬ ((1 : Nat) = 2) := by decide
    refine lc_it (walk_str (z := z)) (fun j H' => Ext H H' ∧ ∃ ts : List Addr, H' D = some (.lst (ts.map V.ref)) ∧ LeadsT M2 H' ts ((gOf (sgL z) (prD M2 δ1 δ2) n).take j)) ⟨Ext.new nD, [], upd_same, .nil⟩ (fun _ _ _ _ => trivial) ?_ ?_
    · rintro j y H6 H7 hj ⟨x6, ts, hD6, hts⟩ ⟨rfl, c, hc, rfl⟩
      have hsg := sgL_at hc
      have cm := List.mem_of_getElem? hsg
      have T7 := TA.extN (ExtN.of x6)
      have ltk : ((gOf (sgL z) (prD M2 δ1 δ2) n).take j).length ≤ 100 := by
        unfold gOf
        rw [List.length_take, List.length_map, sgL_len]
        omega
      have lts : ts.length ≤ 100 := by rw [hts.len]; exact ltk
      refine ⟨rfl, ?_⟩
      dsimp only [tYes]
      rw [if_pos rfl]
      refine ⟨_, rfl, _, rfl, p1, dx1, fs1, rfl, x6 _ _ i1, no1, _, rfl, _, rfl, p1, n / M2, _, z, M1, δ1, f1, l1, rfl, T7.a, nd1, ?_⟩
      rw [if_pos cm]
      refine ⟨_, rfl, p2, dx2, fs2, rfl, x6 _ _ i2, no2, _, rfl, _, rfl, p2, n % M2, _, z, M2, δ2, f2, l2, rfl, T7.b, nd2, ?_⟩
      rw [if_pos cm]
      refine ⟨by show 2 ≤ sizeLine; decide, fun e ne => ⟨by show 2 ≤ sizeLine; decide, fun t nt => ?_⟩⟩
      have xe := Ext.new ne (o := .tup [V.int (δ1 (n / M2) ⟨#[c]⟩ : Nat), V.int (δ2 (n % M2) ⟨#[c]⟩ : Nat)])
      have he : (upd H7 e (.tup [V.int (δ1 (n / M2) ⟨#[c]⟩ : Nat), V.int (δ2 (n % M2) ⟨#[c]⟩ : Nat)])) e = some (.tup [V.int (δ1 (n / M2) ⟨#[c]⟩ : Nat), V.int (δ2 (n % M2) ⟨#[c]⟩ : Nat)]) := upd_same
      generalize upd H7 e (.tup [V.int (δ1 (n / M2) ⟨#[c]⟩ : Nat), V.int (δ2 (n % M2) ⟨#[c]⟩ : Nat)]) = H8 at xe he nt ⊢
      have xt := Ext.new nt (o := .tup [V.str ⟨#[c]⟩, V.ref e])
      have ht : (upd H8 t (.tup [V.str ⟨#[c]⟩, V.ref e])) t = some (.tup [V.str ⟨#[c]⟩, V.ref e]) := upd_same
      generalize upd H8 t (.tup [V.str ⟨#[c]⟩, V.ref e]) = H9 at xt ht ⊢
      have x9 := xe.trans xt
      have hD9 := x9 _ _ hD6
      have he9 := xt _ _ he
      have keep : ∀ t xs, H9 t = some (.tup xs) → (upd H9 D (.lst (ts.map V.ref ++ [.ref t]))) t = some (.tup xs) := fun t xs h => by
        rw [upd_ne (ne_of h hD9 (by intro z; cases z))]
        exact h
      refine ⟨_, hD9, by rw [List.length_map]; exact small1000 (by omega), fun a o q => ?_, ts ++ [t], ?_, ?_⟩
      · rw [upd_ne (ne_of_none q nD)]
        exact x9 _ _ (x6 _ _ q)
      · rw [upd_same, List.map_append]
        rfl
      · have hg : (gOf (sgL z) (prD M2 δ1 δ2) n)[j]? = some (⟨#[c]⟩, prD M2 δ1 δ2 n ⟨#[c]⟩) := by
          unfold gOf
          rw [List.getElem?_map, hsg]
          rfl
        have k9 : ∀ a xs, H9 a = some (.tup xs) → (upd H9 D (.lst (ts.map V.ref ++ [.ref t]))) a = some (.tup xs) := fun a xs h => by
          rw [upd_ne (ne_of h hD9 (by intro z; cases z))]
          exact h
        rw [take_more hg]
        refine (hts.ext fun a xs h => k9 _ _ (x9 _ _ h)).snoc (k9 _ _ ht) ?_
        show _ = some (HO.tup (prT M2 (prD M2 δ1 δ2 n ⟨#[c]⟩)))
        unfold prD
        rw [prT_code (lt2 _ nd2 _ cm)]
        exact k9 _ _ he9
    · rintro H6 ⟨x6, ts, hD6, hts⟩
      refine kk _ D ts x6 nD hD6 ?_
      have e : z.cps.size = (gOf (sgL z) (prD M2 δ1 δ2) n).length := by
        unfold gOf
        rw [List.length_map, sgL_len]
      rw [e, List.take_length] at hts
      exact hts
end
end Sl
/-! ## T7 -/
set_option Elab.async false
set_option linter.all false
set_option maxRecDepth 100000
set_option maxHeartbeats 4000000
set_option pp.maxSteps 1500
set_option pp.deepTerms false
/-! what _combined hands on: its lambda, its nested def; the lambdas of both, either and without -/
namespace Sl
open PySem PySem.Spec PyProof.Rows L2 LamX NdefX
abbrev sComb : Stmt := top 41
abbrev stIsIn : Stmt := nth (defBody sComb) 1
abbrev ePairs : Expr := argAt 2 (asgVal (nth (defBody sComb) 2))
abbrev scPairs : Scope := lamSc ePairs (defScope sComb)
abbrev scIsIn : Scope := C8.fnScope stIsIn
theorem nsPairs : NScope ["pair", "one", "other"] ["pair"] ["one", "other"] scPairs := nscope_by (by decide +kernel)
theorem nsIsIn : NScope ["pair", "belongs", "one", "other", "first", "second"] ["pair"] ["belongs", "one", "other"] scIsIn := nscope_by (by decide +kernel)
/-- a lambda that tells of two truths -/
structure BelOk (P : Program) (w : World) (K : PySem.W.Frag) (mg : Str → Option Value) (base : Heap) (F : LF) (β : Bool → Bool → Bool) : Prop where
  ok : ∃ y1 y2 sp, LOk P w K mg base CX0 1 F [y1, y2] [] sp ∧ ∀ (a b : Bool) (H : Hp) (Q : VK) (E : XK), Q (.bl (β a b)) H → sp [] [.bl a, .bl b] H Q E
/-- what stands while the pairs are searched -/
structure CombAt (C p1 p2 : Addr) (z : Str) (M1 M2 : Nat) (δ1 δ2 : Nat → Str → Nat) (f1 f2 l1 l2 : List Nat) (fb : Addr) (FB : LF) (H : Hp) : Prop where
  two : TwoAt C p1 p2 z M1 M2 δ1 δ2 f1 f2 l1 l2 H
  lam : H fb = some (LamO fb FB)
  code : H FB.c = some (CodeO FB.c FB.qual)
theorem CombAt.extN {C p1 p2 : Addr} {z : Str} {M1 M2 : Nat} {δ1 δ2 : Nat → Str → Nat} {f1 f2 l1 l2 : List Nat} {fb : Addr} {FB : LF} {H H' : Hp} (x : ExtN H H') (h : CombAt C p1 p2 z M1 M2 δ1 δ2 f1 f2 l1 l2 fb FB H) : CombAt C p1 p2 z M1 M2 δ1 δ2 f1 f2 l1 l2 fb FB H' :=
  ⟨h.two.extN x, x _ _ h.lam lamO_ne, x _ _ h.code codeO_ne⟩
/-- the two machines stay within themselves -/
structure TwoLt (z : Str) (M1 M2 : Nat) (δ1 δ2 : Nat → Str → Nat) : Prop where
  sg : z.cps.size ≤ 100
  p1 : 0 < M1
  p2 : 0 < M2
  n : M1 * M2 ≤ 100
  lt1 : ∀ m, m < M1 → ∀ c ∈ sgL z, δ1 m c < M1
  lt2 : ∀ m, m < M2 → ∀ c ∈ sgL z, δ2 m c < M2
theorem TwoLt.lt {z : Str} {M1 M2 : Nat} {δ1 δ2 : Nat → Str → Nat} (t : TwoLt z M1 M2 δ1 δ2) : ∀ n, n < M1 * M2 → ∀ c ∈ sgL z, prD M2 δ1 δ2 n c < M1 * M2 := fun n hn c hc => by
  obtain ⟨h1, h2⟩ := pr_lt hn
  have q1 := t.lt1 _ h1 c hc
  have q2 := t.lt2 _ h2 c hc
  have q3 : (δ1 (n / M2) c + 1) * M2 ≤ M1 * M2 := Nat.mul_le_mul_right _ q1
  rw [Nat.add_mul, Nat.one_mul] at q3
  unfold prD
  omega
theorem comb_gr {C p1 p2 : Addr} {z : Str} {M1 M2 : Nat} {δ1 δ2 : Nat → Str → Nat} {f1 f2 l1 l2 : List Nat} {fb : Addr} {FB : LF} (t : TwoLt z M1 M2 δ1 δ2) : GrOk (CombAt C p1 p2 z M1 M2 δ1 δ2 f1 f2 l1 l2 fb FB) (gOf (sgL z) (prD M2 δ1 δ2)) (M1 * M2) :=
  ⟨fun _ _ x h => h.extN x, t.n, fun n hn e he => (by
    obtain ⟨c, hc, rfl⟩ := List.mem_map.mp he
    exact t.lt n hn c hc), fun n => by
    unfold gOf
    rw [List.length_map, sgL_len]
    exact t.sg⟩
section
variable {P : Program} {w : World} {K : PySem.W.Frag} {mg : Str → Option Value} {base : Heap}
theorem lead_pairs {C p1 p2 fN : Addr} {z : Str} {M1 M2 : Nat} {δ1 δ2 : Nat → Str → Nat} {f1 f2 l1 l2 : List Nat} {fb : Addr} {FB : LF} {c' : Addr} {cl : List (Str × Addr)} {fdN : FuncData} (t : TwoLt z M1 M2 δ1 δ2)
    (aN : At K mg "_next_pairs" fN fdN ["one", "other", "pair"] []) (gN : FnOk P w K mg base CX0 5 fN fdN ["one", "other", "pair"] (spNext C)) :
    LeadLT P w K mg base 6 M2 (CombAt C p1 p2 z M1 M2 δ1 δ2 f1 f2 l1 l2 fb FB) (gOf (sgL z) (prD M2 δ1 δ2)) (M1 * M2) ⟨"_combined.<locals>.<lambda>", lamPar ePairs ⟨[], [], none, [], [], none, []⟩, lamBody ePairs, scPairs, cl, c'⟩ ["one", "other"] [some (.ref p1), some (.ref p2)] := by
  refine ⟨"pair", fun ws vs H Q _ => ws = [some (.ref p1), some (.ref p2)] ∧ spLeadsT M2 (CombAt C p1 p2 z M1 M2 δ1 δ2 f1 f2 l1 l2 fb FB) (gOf (sgL z) (prD M2 δ1 δ2)) (M1 * M2) vs H Q, lok_of (N := ["pair", "one", "other"]) nsPairs (fun pm ctv us hl => match us, hl with | [_], _ => rfl) (fun ws vs H Q E h => ?_) (fun f A outer s H vs ws Q E hr hf hc hl h => ?_), fun vs H Q E h => ⟨rfl, h⟩⟩
  · obtain ⟨_, a, n, rfl, _⟩ := h
    rfl
  · obtain ⟨rfl, a, n, rfl, hpr, hn, hG, kk⟩ := h
    refine ⟨_, pe_call (E := fun _ _ _ => False) gN hr (by rfl) aN.g aN.kp aN.b .nil pass0 (pa_cons (pe_var (i := 1) rfl (.inr (.inr rfl))) (pa_cons (pe_var (i := 2) rfl (.inr (.inr rfl))) (pa_cons (pv 0) pa_nil))), ?_⟩
    exact ⟨_, rfl, _, rfl, _, rfl, p1, p2, a, z, M1, M2, n, δ1, δ2, f1, f2, l1, l2, rfl, hG.two, hpr, hn, t.sg, t.lt1, t.lt2, kk⟩
theorem in_pairs {C p1 p2 fMb : Addr} {z : Str} {M1 M2 : Nat} {δ1 δ2 : Nat → Str → Nat} {f1 f2 l1 l2 : List Nat} {fb : Addr} {FB : LF} {β : Bool → Bool → Bool} {f2' c' : Addr} {cl : List (Str × Addr)} {fdMb : FuncData}
    (Tc : LgC K C) (mMb : L2.Meth K C "is_member" fMb) (bMb : L2.Binds K fdMb ["self", "state"] []) (gMb : FnOk P w K mg base CX0 4 fMb fdMb ["self", "state"] (spMember C)) (gB : BelOk P w K mg base FB β) (eB : FB.cl = []) :
    IsInT P w K mg base 6 M2 (CombAt C p1 p2 z M1 M2 δ1 δ2 f1 f2 l1 l2 fb FB) (fun n => β (decide (n / M2 ∈ f1)) (decide (n % M2 ∈ f2))) (M1 * M2) f2' (NF.of stIsIn "is_in" "_combined.<locals>.is_in" cl c') ["belongs", "one", "other"] [some (.ref fb), some (.ref p1), some (.ref p2)] := by
  obtain ⟨y1, y2, spB, LB, impB⟩ := gB.ok
  refine ⟨"pair", fun ws vs H Q _ => ws = [some (.ref fb), some (.ref p1), some (.ref p2)] ∧ spIsIn M2 (CombAt C p1 p2 z M1 M2 δ1 δ2 f1 f2 l1 l2 fb FB) (fun n => β (decide (n / M2 ∈ f1)) (decide (n % M2 ∈ f2))) (M1 * M2) vs H Q, NOk.mono (j := 5) (nok_of (N := ["pair", "belongs", "one", "other", "first", "second"]) nsIsIn (fun doc pm ctv us hl => match us, hl with | [_], _ => rfl) (fun ws vs H Q E h => ?_) (fun A outer s H vs ws Q E hr hf hc hl h => ?_)) (by omega), fun vs H Q E h => ⟨rfl, h⟩⟩
  · obtain ⟨_, a, n, rfl, _⟩ := h
    rfl
  · obtain ⟨rfl, a, n, rfl, hpr, hn, hG, q⟩ := h
    obtain ⟨n1, n2⟩ := pr_lt hn
    obtain ⟨dx1, fs1, i1, no1⟩ := hG.two.a.no "is_member" (by decide)
    obtain ⟨dx2, fs2, i2, no2⟩ := hG.two.b.no "is_member" (by decide)
    refine ⟨_, pss_cons (ps_asg (pv 0) (pg_tup (by rfl) (pgs_cons (pg_name (i := 4) nsIsIn.nd rfl (.inl rfl)) (pgs_cons (pg_name (i := 5) nsIsIn.nd rfl (.inl rfl)) pgs_nil))))
      (pss_one (ps_ret (pe_callL (E := fun _ _ _ => False) (i := 1) (ws := []) LB (fun pins σ H s I => by rw [eB]; exact cells_nil) hr (by omega) pass0 rfl (.inr (.inr rfl))
        (pa_cons (pe_meth (pe_var (i := 2) rfl (.inr (.inr rfl))) Tc.cl mMb gMb hr bMb .nil pass0 (pa_cons (pv 4) pa_nil)) (pa_cons (pe_meth (pe_var (i := 3) rfl (.inr (.inr rfl))) Tc.cl mMb gMb hr bMb .nil pass0 (pa_cons (pv 5) pa_nil)) pa_nil))))), ?_⟩
    refine ⟨_, rfl, a, _, rfl, SqT.of hpr, rfl, _, _, rfl, _, _, rfl, rfl, ?_⟩
    refine ⟨fb, rfl, hG.lam, ?_⟩
    refine ⟨_, rfl, p1, dx1, fs1, rfl, i1, no1, _, rfl, p1, n / M2, z, M1, δ1, f1, l1, rfl, hG.two.a, n1, ?_⟩
    refine ⟨_, rfl, p2, dx2, fs2, rfl, i2, no2, _, rfl, p2, n % M2, z, M2, δ2, f2, l2, rfl, hG.two.b, n2, ?_⟩
    exact ⟨hG.lam, hG.code, impB _ _ _ _ _ q⟩
end
end Sl
/-! ## T8 -/
set_option Elab.async false
set_option linter.all false
set_option maxRecDepth 100000
set_option maxHeartbeats 4000000
set_option pp.maxSteps 1500
set_option pp.deepTerms false
/-! _check_signs_agree, language_from -/
namespace Sl
open PySem PySem.Spec PyProof.Rows L2 LamX NdefX
abbrev sAgree : Stmt := top 43
abbrev sLangFrom : Stmt := top 42
def spAgree (C : Addr) : Sp := fun vs H Q _ => ∃ (p1 p2 : Addr) (z : Str) (M1 M2 : Nat) (δ1 δ2 : Nat → Str → Nat) (f1 f2 l1 l2 : List Nat), vs = [.ref p1, .ref p2] ∧ TwoAt C p1 p2 z M1 M2 δ1 δ2 f1 f2 l1 l2 H ∧ Q .non H
/-- what is known of a language's machine -/
structure LgOk (sg : List Str) (M : Nat) (d : Nat → Str → Nat) (f l : List Nat) : Prop where
  le : M ≤ 6
  nd : f.Nodup
  fl : ∀ b ∈ f, b < M
  can : Can sg M d f
  lv : ∀ n, n < M → (n ∈ l ↔ Leads (gOf sg d) f n)
/-- the language that comes of a machine of pairs -/
def OutP (C : Addr) (T : List NTab) (H : Hp) (z : Str) (δ : Nat → Str → Nat) (first : Nat) (m : Nat → Bool) (Q : VK) : Prop := ∀ (H' : Hp) (x : Addr) (M : Nat) (δ' : Nat → Str → Nat) (found live : List Nat), StayN H H' → (∀ b, H' b = none → H b = none) → TabsN T H' → H x = none → LangAt C H' x z M δ' found live →
  LgOk (sgL z) M δ' found live → (∀ w : List Str, (∀ c ∈ w, c ∈ sgL z) → (run δ' 0 w ∈ found ↔ m (run δ first w) = true)) → Q (.ref x) H'
def spLangFrom (C : Addr) (P : Program) (w : World) (K : PySem.W.Frag) (mg : Str → Option Value) (T : List NTab) (k : Nat) (base : Heap) : List (Str × Addr) → List Str → List (Option V) → Sp := fun cl fr ws vs H Q _ => ∃ (z : Str) (t0 f f2 : Addr) (F : LF) (F2 : NF) (fr1 : List Str) (ws1 : List (Option V)) (W first N : Nat) (G : Hp → Prop) (δ : Nat → Str → Nat) (m : Nat → Bool), vs = [.str z, .ref t0, .ref f, .ref f2] ∧ SgOk z ∧ PrAt W H t0 first ∧
  H f = some (LamO f F) ∧ H F.c = some (CodeO F.c F.qual) ∧ SubC F.cl fr1 ws1 cl fr ws ∧ (∀ b : Heap, (∀ a o, base.get? a = some o → b.get? a = some o) → Mod K mg b → LeadLT P w K mg b k W G (gOf (sgL z) δ) N F fr1 ws1) ∧
  H f2 = some (FnO f2 F2) ∧ H F2.c = some (CodeO F2.c F2.qual) ∧ F2.cl = cl ∧ (∀ b : Heap, (∀ a o, base.get? a = some o → b.get? a = some o) → Mod K mg b → IsInT P w K mg b k W G m N f2 F2 fr ws) ∧
  TabsN T H ∧ G H ∧ GrOk G (gOf (sgL z) δ) N ∧ first < N ∧ (reachedL (gOf (sgL z) δ) N first).length ≤ 6 ∧ OutP C T H z δ first m Q
/-- the texts, in the machine of the pairs that are reached -/
theorem from_run {sg : List Str} {δ : Nat → Str → Nat} {N first : Nat} {order : List Nat} (FO : Found (gOf sg δ) N [first] order) : ∀ w : List Str, (∀ c ∈ w, c ∈ sg) → run δ first w ∈ order ∧ run (fun i c => ixL order (δ (order.getD i 0) c)) 0 w = ixL order (run δ first w) := by
  have in0 : first ∈ order := by
    obtain ⟨t, ht⟩ := FO.pre
    rw [← ht]
    simp
  have z0 : ixL order first = 0 := by
    obtain ⟨t, ht⟩ := FO.pre
    rw [← ht]
    simp [ixL]
  have gen : ∀ (w : List Str) (n : Nat), n ∈ order → (∀ c ∈ w, c ∈ sg) → run δ n w ∈ order ∧ run (fun i c => ixL order (δ (order.getD i 0) c)) (ixL order n) w = ixL order (run δ n w) := fun w => by
    induction w with
    | nil => exact fun n hn _ => ⟨hn, rfl⟩
    | cons c w ih =>
      intro n hn hw
      have hc := hw c List.mem_cons_self
      have hd : δ n c ∈ order := FO.cl n hn (c, δ n c) (List.mem_map.mpr ⟨c, hc, rfl⟩)
      have gd : order.getD (ixL order n) 0 = n := by
        rw [List.getD_eq_getElem?_getD, ixL_at hn]
        rfl
      have q := ih (δ n c) hd fun c' h' => hw c' (List.mem_cons_of_mem _ h')
      refine ⟨q.1, ?_⟩
      rw [run_cons, run_cons]
      show run _ (ixL order (δ (order.getD (ixL order n) 0) c)) w = _
      rw [gd]
      exact q.2
  intro w hw
  have q := gen w first in0 hw
  rw [z0] at q
  exact q
section
variable {P : Program} {w : World} {K : PySem.W.Frag} {mg : Str → Option Value} {base : Heap}
theorem scAgree : FnScope ["one", "other"] ["one", "other"] (defScope sAgree) := ⟨rfl, rfl, rfl, by decide +kernel, rfl, by decide +kernel, by decide +kernel⟩
theorem ok_agree {f C pG fG : Addr} {fd fdG : FuncData} (Fn : Fun K "_check_signs_agree" "_check_signs_agree" sAgree f fd) (Tc : LgC K C) (hG : PropOf K C "signs" pG fG) (bG : L2.Binds K fdG ["self"] []) (gG : FnOk P w K mg base CX0 1 fG fdG ["self"] (spSigns C)) :
    FnOk P w K mg base CX0 3 f fd ["one", "other"] (spAgree C) := by
  refine Fn.ok scAgree (fun vs H Q E h => ?_) (fun cdv A0 outer s H vs Q E hr h => ?_)
  · obtain ⟨p1, p2, z, M1, M2, δ1, δ2, f1, f2, l1, l2, rfl, _⟩ := h
    rfl
  · obtain ⟨p1, p2, z, M1, M2, δ1, δ2, f1, f2, l1, l2, rfl, TA, q⟩ := h
    obtain ⟨dx1, fs1, i1, _⟩ := TA.a.no "x" (by decide)
    obtain ⟨dx2, fs2, i2, _⟩ := TA.b.no "x" (by decide)
    refine ⟨_, pss_one (ps_if (pt_cmpR op_ne (pe_prop (pv 0) Tc.cl hG gG hr bG .nil pass0 rfl) (pe_prop (pv 1) Tc.cl hG gG hr bG .nil pass0 rfl) (nomark _)) pss_dead pss_nil), ?_⟩
    refine ⟨_, rfl, p1, dx1, fs1, rfl, i1, p1, z, M1, δ1, f1, l1, rfl, TA.a, _, rfl, p2, dx2, fs2, rfl, i2, p2, z, M2, δ2, f2, l2, rfl, TA.b, ?_⟩
    refine ⟨rfl, ?_⟩
    rw [show (decide (V.str z = V.str z)) = true from decide_eq_true rfl]
    exact ⟨false, rfl, iteF q⟩
abbrev nLangFrom : List Str := ["signs", "first", "leads", "is_in", "states", "found", "least", "chosen"]
theorem scLangFrom : FnScope nLangFrom ["signs", "first", "leads", "is_in"] (defScope sLangFrom) := ⟨rfl, rfl, rfl, by decide +kernel, rfl, by decide +kernel, by decide +kernel⟩
theorem ok_langfrom {k : Nat} {T : List NTab} {f fM fE fI C : Addr} {fd fdM fdE fdI : FuncData} {mc u6 : Value} (Fn : Fun K "language_from" "language_from" sLangFrom f fd)
    (aM : At K mg "machine_from" fM fdM ["first", "leads", "is_in"] []) (gM : FnV P w K mg base CX0 (k + 5) fM fdM ["first", "leads", "is_in"] (spMachFrom P w K mg T (k + 2) base))
    (aE : At K mg "least_machine" fE fdE ["signs", "states", "member_states", "limit"] []) (gE : FnOk P w K mg base CX0 5 fE fdE ["signs", "states", "member_states", "limit"] (spLeast P w K T))
    (gC : mg "Language" = some (.ref C)) (M : Mk K C fI) (gI : FnOk P w K mg base CX0 6 fI fdI ["self", "signs", "states", "member_states"] (spLInit K C T)) (bI : L2.Binds K fdI ["self", "signs", "states", "member_states"] [])
    (cr : ClX.CRead K C mc) (c6 : ClX.CVal K C mc "MAX_STATES" (.int 6) u6) : FnV P w K mg base CX0 (k + 8) f fd ["signs", "first", "leads", "is_in"] (spLangFrom C P w K mg T (k + 2) base) := by
  refine Sl.Fun.okV Fn scLangFrom (fun cl fr ws vs H Q E h => ?_) (fun A0 outer s H vs cl fr ws Q E hr C0 h => ?_)
  · obtain ⟨z, t0, f, f2, F, F2, fr1, ws1, W, first, N, G, δ, m, rfl, _⟩ := h
    rfl
  · obtain ⟨z, t0, fl, f2, F, F2, fr1, ws1, W, first, N, G, δ, m, rfl, sg, ht0, hf, hc, sub, LL, hf2, hc2, ecl2, LI, hT, hG, gk, fN, l6, o⟩ := h
    have hr5 := hr.mono (show k + 5 ≤ k + 7 by omega)
    have hrE := hr.mono (show 5 ≤ k + 7 by omega)
    have hrI := hr.mono (show 6 + 1 ≤ k + 7 by omega)
    refine ⟨_, pss_cons (ps_asg (pe_callV (cl := fun _ => cl) (fr := fr) (ws := fun _ => ws) (E := fun _ _ _ => False) gM (fun pins σ H s I => cellsF_later C0 rfl rfl rfl I) hr5 (by rfl) aM.g aM.kp aM.b pass0
          (pa_cons (pv 1) (pa_cons (pv 2) (pa_cons (pv 3) pa_nil)))) (pg_tup (by rfl) (pgs_cons (pg_name (i := 4) scLangFrom.nd rfl (.inl rfl)) (pgs_cons (pg_name (i := 5) scLangFrom.nd rfl (.inl rfl)) pgs_nil))))
      (pss_cons (ps_asg (pe_call (E := fun _ _ _ => False) gE hrE (by rfl) aE.g aE.kp aE.b .nil pass0 (pa_cons (pv 0) (pa_cons (pv 4) (pa_cons (pv 5) (pa_cons (ClX.pe_cval (pe_glob (v := .ref C) rfl gC rfl)) pa_nil))))) (pg_tup (by rfl) (pgs_cons (pg_name (i := 6) scLangFrom.nd rfl (.inl rfl)) (pgs_cons (pg_name (i := 7) scLangFrom.nd rfl (.inl rfl)) pgs_nil))))
      (pss_one (ps_ret (pe_make (E := fun _ _ _ => False) M gI hrI (by rfl) gC bI .nil pass0 (pa_cons (pv 0) (pa_cons (pv 6) (pa_cons (pv 7) pa_nil))))))), ?_⟩
    have hlt : ∀ n, n < N → ∀ e ∈ gOf (sgL z) δ n, e.2 < N := gk.lt
    have FO := reachedL_found hlt fN
    have sg100 : (sgL z).length ≤ 100 := by
      have h1 := sg.le
      rw [sgL_len]
      have h2 : z.length = z.cps.size := rfl
      omega
    refine ⟨_, rfl, _, rfl, _, rfl, t0, fl, f2, F, F2, fr1, ws1, W, first, N, G, sgL z, δ, m, rfl, ht0, hf, hc, sub, LL, hf2, hc2, ecl2, LI, hT, hG, gk, sg.nd, sg100, fN, fun H1 t L Fd rs x1 nn1 T1 nt nL nF ht hL lrs hrn hrs hF => ?_⟩
    have runs := from_run FO
    generalize reachedL (gOf (sgL z) δ) N first = order at FO l6 lrs hrs hF runs
    have in0 : first ∈ order := (runs [] (by simp)).1
    have opos : 0 < order.length := List.length_pos_of_mem in0
    have ocl : ∀ i, i < order.length → ∀ c ∈ sgL z, δ (order.getD i 0) c ∈ order := fun i hi c hc => by
      have hm : order.getD i 0 ∈ order := by
        rw [List.getD_eq_getElem?_getD, List.getElem?_eq_getElem hi]
        exact List.getElem_mem hi
      exact FO.cl _ hm (c, _) (List.mem_map.mpr ⟨c, hc, rfl⟩)
    have hF' : H1 Fd = some (.lst (((order.filter m).map (ixL order)).map fun n => V.int (n : Nat))) := by
      rw [List.map_map]
      exact hF
    have lfl := List.length_filter_le m order
    refine ⟨t, _, rfl, SqT.of ht, rfl, _, _, rfl, _, _, rfl, rfl, ?_⟩
    refine ⟨_, rfl, _, rfl, _, rfl, C, mc, .int 6, u6, rfl, cr, c6, true, true, z, L, Fd, 6, rs, (order.filter m).map (ixL order), _, rfl, SqK.l hL, rowsD_at hrs, SqK.l hF', ?_, by omega, few_all (by omega), by omega, by rw [← sgL_len]; exact sg100, sg.nd, fun n hn c hc => ?_, T1, fun H2 t2 La Fa rs2 M δ' found x2 nn2 T2 nt2 nL2 nF2 ht2 hL2 lrs2 hrn2 hrs2 hF2 LO ml => ?_⟩
    · rw [List.length_map]
      omega
    · rw [lrs] at hn ⊢
      exact ixL_lt (ocl n hn c hc)
    refine ⟨t2, _, rfl, SqT.of ht2, rfl, _, _, rfl, _, _, rfl, rfl, ?_⟩
    refine ⟨_, rfl, _, rfl, _, rfl, ?_⟩
    intro x dx nx ndx ne
    have e1 : Ext H2 (upd (upd H2 dx (.own x)) x (.ins C dx [])) := (Ext.new ndx).trans (Ext.new (by rw [upd_ne (Ne.symm ne)]; exact nx))
    have i1 : (upd (upd H2 dx (.own x)) x (.ins C dx [])) x = some (.ins C dx []) := upd_same
    generalize upd (upd H2 dx (.own x)) x (.ins C dx []) = H3 at e1 i1 ⊢
    have x12 := x1.trans x2
    refine ⟨x, dx, true, true, z, La, Fa, rs2, found, δ', rfl, i1, sg, SqK.l (e1 _ _ hL2), rowsD_at (hrs2.ext e1), rowsD_len (hrs2.ext e1), SqK.l (e1 _ _ hF2), LO.nd, by rw [lrs2]; exact LO.fl, by rw [lrs2]; exact LO.pos, by omega, few_all (by omega), by rw [lrs2]; exact LO.lt, T2.ext e1, fun H' M' δ2 found2 live kn nn T' LN LO2 lv => ⟨rfl, ?_⟩⟩
    refine o H' x M' δ2 found2 live (fun b u e n => kn b u (e1 _ _ (x12 _ _ e n)) n (ne_of_none (x12 _ _ e n) nx)) (fun b e => nn1 _ (nn2 _ (e1.free (nn b e)))) T' (nn1 _ (nn2 _ nx)) LN.at_ ⟨Nat.le_trans LO2.le (by omega), LO2.nd, LO2.fl, LO2.can, lv⟩ fun w hw => ?_
    obtain ⟨r1, r2⟩ := runs w hw
    rw [LO2.acc w hw, LO.acc w hw, r2, List.mem_map]
    constructor
    · rintro ⟨n, hn, e⟩
      obtain ⟨h1, h2⟩ := List.mem_filter.mp hn
      rwa [ixL_inj h1 r1 e] at h2
    · exact fun h => ⟨_, List.mem_filter.mpr ⟨r1, h⟩, rfl⟩
end
end Sl
/-! ## T9 -/
set_option Elab.async false
set_option linter.all false
set_option maxRecDepth 100000
set_option maxHeartbeats 4000000
set_option pp.maxSteps 1500
set_option pp.deepTerms false
/-! _combined; both, either, without -/
namespace Sl
open PySem PySem.Spec PyProof.Rows L2 LamX NdefX
abbrev nComb : List Str := ["one", "other", "belongs", "is_in"]
/-- the names of _combined's functions, by their places -/
def nmComb : Nat → Nat → Str := fun _ c => if c = 4 then "_combined.<locals>.is_in" else "_combined.<locals>.<lambda>"
structure LamsN (base : Heap) (mg : Str → Option Value) (T : List NTab) (fd : FuncData) (nm : Nat → Nat → Str) : Prop where
  ex : ∃ c Tb, fd.code = .ref c ∧ TabB base mg c Tb ∧ (Tb, nm) ∈ T ∧ ∀ p ∈ T, p.1 = Tb → p.2 = nm
theorem sub_clo {cells : List (Str × Addr)} {n1 n2 : List (Str × NameKind)} {fr1 fr : List Str} {ws1 ws : List (Option V)} (h1 : ∀ y ∈ n1, y.2 = .free → ∃ c, cells.lookup y.1 = some c) (h2 : ∀ y ∈ n2, y.2 = .free → ∃ c, cells.lookup y.1 = some c)
    (s : ∀ y, (y, NameKind.free) ∈ n1 → (y, NameKind.free) ∈ n2) (hf : ∀ y ∈ fr1, (y, NameKind.free) ∈ n1) (len : ws1.length = fr1.length) (has : ∀ (i : Nat) (y : Str), fr1[i]? = some y → ∃ j : Nat, fr[j]? = some y ∧ ws[j]? = ws1[i]?) :
    SubC (cloFrom cells n1 []) fr1 ws1 (cloFrom cells n2 []) fr ws := by
  refine ⟨len, fun y c e => ?_, fun i y e => ?_⟩
  · rcases cloFrom_mem (PySem.mem_of_lookup e) with hm | ⟨k, _⟩
    · cases hm
    · exact clo_has h2 (s y k) (clo_cm h1 e)
  · obtain ⟨j, e1, e2⟩ := has i y e
    exact ⟨j, e1, e2, fun c hc => clo_has h1 (hf y (List.mem_of_getElem? e)) (clo_cm h2 hc)⟩
def spComb (C : Addr) (P : Program) (w : World) (K : PySem.W.Frag) (mg : Str → Option Value) (T : List NTab) (base : Heap) : Sp := fun vs H Q _ => ∃ (p1 p2 fb : Addr) (FB : LF) (β : Bool → Bool → Bool) (z : Str) (M1 M2 : Nat) (δ1 δ2 : Nat → Str → Nat) (f1 f2 l1 l2 : List Nat), vs = [.ref p1, .ref p2, .ref fb] ∧
  CombAt C p1 p2 z M1 M2 δ1 δ2 f1 f2 l1 l2 fb FB H ∧ FB.cl = [] ∧ (∀ b : Heap, BelOk P w K mg b FB β) ∧ TwoLt z M1 M2 δ1 δ2 ∧ SgOk z ∧ TabsN T H ∧ (reachedL (gOf (sgL z) (prD M2 δ1 δ2)) (M1 * M2) 0).length ≤ 6 ∧
  OutP C T H z (prD M2 δ1 δ2) 0 (fun n => β (decide (n / M2 ∈ f1)) (decide (n % M2 ∈ f2))) Q
theorem OutP.weak {C : Addr} {T : List NTab} {H H1 : Hp} {z : Str} {δ : Nat → Str → Nat} {first : Nat} {m : Nat → Bool} {Q : VK} (x : ExtN H H1) (nn : ∀ b, H1 b = none → H b = none) (o : OutP C T H z δ first m Q) : OutP C T H1 z δ first m Q :=
  fun H' p M δ' found live st f tb n la => o H' p M δ' found live (fun b u e q => st b u (x _ _ e q) q) (fun b e => nn b (f b e)) tb (nn _ n) la
section
variable {P : Program} {w : World} {K : PySem.W.Frag} {mg : Str → Option Value} {base : Heap}
theorem scComb : FnScope nComb ["one", "other", "belongs"] (defScope sComb) := ⟨rfl, rfl, rfl, by decide +kernel, rfl, by decide +kernel, by decide +kernel⟩
theorem pairs_free : ∀ y ∈ scPairs.names, y.2 = NameKind.free → (defScope sComb).names.lookup y.1 = some .cell ∨ (defScope sComb).names.lookup y.1 = some .free := by decide +kernel
theorem isin_free : ∀ y ∈ scIsIn.names, y.2 = NameKind.free → (defScope sComb).names.lookup y.1 = some .cell ∨ (defScope sComb).names.lookup y.1 = some .free := by decide +kernel
theorem pairs_cell : ∀ y ∈ scPairs.names, y.2 = NameKind.free → (defScope sComb).names.lookup y.1 = some .cell := by decide +kernel
theorem isin_cell : ∀ y ∈ scIsIn.names, y.2 = NameKind.free → (defScope sComb).names.lookup y.1 = some .cell := by decide +kernel
theorem pairs_sub : ∀ y ∈ scPairs.names, y.2 = NameKind.free → y ∈ scIsIn.names := by decide +kernel
theorem ok_comb {T : List NTab} {f C pG fG fA fN fMb fL : Addr} {fd fdG fdA fdN fdMb fdL : FuncData} (Fn : Fun K "_combined" "_combined" sComb f fd) (LM : LamsN base mg T fd nmComb) (Tc : LgC K C)
    (hG : PropOf K C "signs" pG fG) (bG : L2.Binds K fdG ["self"] []) (gG : FnOk P w K mg base CX0 1 fG fdG ["self"] (spSigns C))
    (aA : At K mg "_check_signs_agree" fA fdA ["one", "other"] []) (gA : FnOk P w K mg base CX0 3 fA fdA ["one", "other"] (spAgree C))
    (aN : At K mg "_next_pairs" fN fdN ["one", "other", "pair"] []) (gN : ∀ b, FnOk P w K mg b CX0 5 fN fdN ["one", "other", "pair"] (spNext C))
    (mMb : L2.Meth K C "is_member" fMb) (bMb : L2.Binds K fdMb ["self", "state"] []) (gMb : ∀ b, FnOk P w K mg b CX0 4 fMb fdMb ["self", "state"] (spMember C))
    (aL : At K mg "language_from" fL fdL ["signs", "first", "leads", "is_in"] []) (gL : FnV P w K mg base CX0 12 fL fdL ["signs", "first", "leads", "is_in"] (spLangFrom C P w K mg T 6 base)) :
    FnOk P w K mg base CX0 13 f fd ["one", "other", "belongs"] (spComb C P w K mg T base) := by
  obtain ⟨c, Tb, hcode, TB, hmT, hu⟩ := LM.ex
  refine Sl.Fun.okM Fn scComb (fun vs H Q E h => ?_) (fun A0 outer s H vs Q E hr h => ?_)
  · obtain ⟨p1, p2, fb, FB, β, z, M1, M2, δ1, δ2, f1, f2, l1, l2, rfl, _⟩ := h
    rfl
  · obtain ⟨p1, p2, fb, FB, β, z, M1, M2, δ1, δ2, f1, f2, l1, l2, rfl, CA, eB, gB, tl, sg, hT, l6, o⟩ := h
    have hr3 := hr.mono (show 3 ≤ 12 by omega)
    have hr2 := hr.mono (show 2 ≤ 12 by omega)
    obtain ⟨dx1, fs1, i1, _⟩ := CA.two.a.no "x" (by decide)
    refine ⟨_, pss_cons (ps_expr (pe_call gA hr3 (by rfl) aA.g aA.kp aA.b .nil pass0 (pa_cons (pe_var (i := 0) rfl (.inr (.inl rfl))) (pa_cons (pe_var (i := 1) rfl (.inr (.inl rfl))) pa_nil))))
      (pss_cons (ps_ndefMS (st := stIsIn) (name := "is_in") (i := 3) rfl TB hcode hmT rfl hu isin_free rfl rfl rfl scComb.nd rfl (.inl rfl) (.inr rfl))
      (pss_one (ps_ret (pe_callV (cl := fun _ => cloFrom (cellsFrom (s.heap.objs.size + 1) (defScope sComb).names []) scIsIn.names []) (fr := ["belongs", "one", "other"]) (ws := fun σ => ([2, 0, 1] : List Nat).map (slotAt σ)) (E := fun _ _ _ => False) gL
          (fun pins σ H s I => cellsF_of I (Caps.made (scope := scIsIn) I.ok isin_free (by decide +kernel) rfl) (fun _ => rfl) rfl rfl) hr (by rfl) aL.g aL.kp aL.b pass0
          (pa_cons (pe_prop (pe_var (i := 0) rfl (.inr (.inl rfl))) Tc.cl hG gG hr2 bG .nil pass0 rfl) (pa_cons (pe_tup (pa_cons pe_int (pa_cons pe_int pa_nil))) (pa_cons (pe_lamN (T := T) TB hcode hmT rfl hu rfl pairs_free) (pa_cons (pv 3) pa_nil)))))))), ?_⟩
    refine ⟨_, rfl, _, rfl, p1, p2, z, M1, M2, δ1, δ2, f1, f2, l1, l2, rfl, CA.two, ?_⟩
    refine ⟨hT, fun fi ci H1 x1 nn1 T1 nfi hfi hci => ?_⟩
    have CA1 := CA.extN x1
    refine ⟨_, rfl, p1, dx1, fs1, rfl, x1 _ _ i1 (fun _ z => nomatch z), p1, z, M1, δ1, f1, l1, rfl, CA1.two.a, ?_⟩
    refine ⟨by show 2 ≤ sizeLine; decide, fun t0 n0 => ?_⟩
    have xt := Ext.new n0 (o := .tup [V.int 0, V.int 0])
    have ht0 : (upd H1 t0 (.tup [V.int 0, V.int 0])) t0 = some (.tup [V.int 0, V.int 0]) := upd_same
    generalize upd H1 t0 (.tup [V.int 0, V.int 0]) = H2 at xt ht0 ⊢
    refine ⟨T1.ext xt, fun fl cl' H3 x3 nn3 T3 nfl hfl hcl => ?_⟩
    have x23 := (ExtN.of xt).trans x3
    have x13 := x1.trans x23
    have hpr : PrAt M2 H3 t0 0 := by
      show _ = some (HO.tup (prT M2 0))
      unfold prT
      rw [Nat.zero_div, Nat.zero_mod]
      exact x3 _ _ ht0 (fun _ z => nomatch z)
    have cellsOk : ∀ y ∈ scIsIn.names, y.2 = NameKind.free → ∃ c, (cellsFrom (s.heap.objs.size + 1) (defScope sComb).names []).lookup y.1 = some c := fun y hy e => cell_has (isin_cell y hy e)
    have cellsOk1 : ∀ y ∈ scPairs.names, y.2 = NameKind.free → ∃ c, (cellsFrom (s.heap.objs.size + 1) (defScope sComb).names []).lookup y.1 = some c := fun y hy e => cell_has (pairs_cell y hy e)
    refine ⟨_, rfl, z, t0, fl, fi, _, _, ["one", "other"], [some (.ref p1), some (.ref p2)], M2, 0, M1 * M2, CombAt C p1 p2 z M1 M2 δ1 δ2 f1 f2 l1 l2 fb FB, prD M2 δ1 δ2, _, rfl, sg, hpr, hfl, hcl, ?_, fun b _ _ => lead_pairs tl aN (gN b), x23 _ _ hfi fnO_ne, x23 _ _ hci codeO_ne, rfl, fun b _ _ => in_pairs Tc mMb bMb (gMb b) (gB b) eB, T3, CA.extN x13, comb_gr tl, Nat.mul_pos tl.p1 tl.p2, l6, o.weak x13 (fun b e => nn1 _ (xt.free (nn3 _ e)))⟩
    refine sub_clo cellsOk1 cellsOk (fun y hy => pairs_sub _ hy rfl) (by decide +kernel) rfl fun i y e => ?_
    match i, e with
    | 0, e => exact ⟨1, e, rfl⟩
    | 1, e => exact ⟨2, e, rfl⟩
    | n + 2, e => cases e
end
end Sl
/-! ## W4 -/
set_option Elab.async false
set_option linter.all false
set_option maxRecDepth 100000
set_option maxHeartbeats 4000000
set_option pp.maxSteps 1500
set_option pp.deepTerms false
/-! Language.every -/
namespace Sl
open PySem PySem.Spec PyProof.Rows L2 LamX NdefX
abbrev sEvery : Stmt := inClass (top 37) 2
theorem rowD_nin {sg : List Str} {d : Str → Nat} (nd : sg.Nodup) {j : Nat} {c : Str} (h : sg[j]? = some c) : valV (rowD (sg.take j) d) (keyC c) = none := by
  cases e : valV (rowD (sg.take j) d) (keyC c) with
  | none => rfl
  | some v =>
    exfalso
    obtain ⟨kv, hm, hk⟩ := List.mem_map.mp (valV_in e)
    obtain ⟨c2, hm2, rfl⟩ := List.mem_map.mp hm
    have hk : keyC c2 = keyC c := hk
    unfold keyC at hk
    injection hk with hk
    have h1 : (sg.take (j + 1)).Nodup := nd.sublist (List.take_sublist _ _)
    rw [take_more h, List.nodup_append] at h1
    exact h1.2.2 c2 hm2 c (by simp) hk
theorem rowD_put {sg : List Str} {d : Str → Nat} (nd : sg.Nodup) {j : Nat} {c : Str} (h : sg[j]? = some c) : putK (rowD (sg.take j) d) (keyC c) (.int (d c : Nat)) = rowD (sg.take (j + 1)) d := by
  rw [putK_new _ (rowD_nin nd h), take_more h]
  unfold rowD
  rw [List.map_append]
  rfl
section
variable {X : Cx} {CX : CXT} {k n : Nat} {C f : Addr} {fd : FuncData} {ps : List Str} {sp : Sp} {E : XK} {x : Str} {e : Expr} {es : List Expr} {t : TA} {pos np : Pos} {ds : List Value} {dvs : List V}
def tMakeL (i : Nat) (C : Addr) (sp : Sp) (dvs : List V) (E : XK) (t : TA) : TE := fun σ H Q => σ[i]? = some (some (.ref C)) ∧ tMake C sp dvs E t σ H Q
/-- a class that stands in a slot is called -/
theorem pe_makeL {i : Nat} (M : Mk X.K C f) (F : FnOk X.prog X.w X.K X.mg X.base CX k f fd ps sp) (hr : Room (k + 1) X.A) (hN : X.N[i]? = some x) (hv : Vis X.env.scope x) (hb : L2.Binds X.K fd ps ds) (hd : Vals dvs ds) (hx : Passes CX X E) (ha : PA X (e :: es) t)
    (hdb : (x == ("__debug__" : Str)) = false := by decide) (hcd : (x == ("__classdict__" : Str)) = false := by decide) (he : starEach (e :: es) X.env = (false, eval e X.env) :: starEach es X.env := by rfl) (hpl : (backTo pos (starEach es X.env)).any (·.1) = false := by rfl) :
    PE X (.Call (.Name x np) (e :: es) [] pos) (tMakeL i C sp dvs E t) := by
  refine ⟨fun pins s σ H Q I h => ?_⟩
  obtain ⟨hs, h⟩ := h
  refine wpAny_Call_Name_kw (thn ((pe_var (pos := np) hN hv hdb hcd).run pins s σ H (fun v H1 => v = .ref C ∧ H1 = H) I ⟨.ref C, hs, rfl, rfl⟩) fun u s1 ⟨v, H1, I1, r1, q1⟩ => ?_)
  obtain ⟨rfl, rfl⟩ := q1
  cases r1
  refine PySem.W.callWith_K (h₀ := X.base) I.ok.mod.kin M.kp (thn (ha.run pos pins s1 σ _ _ I1 h) fun us s1 ⟨vs, H1, I1, r, q⟩ => ⟨I1.kIn, ?_⟩) he hpl
  exact run_make M F hr hb hd hx I1 r q
end
def spEvery (C : Addr) (T : List NTab) : Sp := fun vs H Q _ => ∃ z : Str, vs = [.ref C, .str z] ∧ SgOk z ∧ TabsN T H ∧ OutP C T H z (fun _ _ => 0) 0 (fun _ => true) Q
abbrev nEvery : List Str := ["cls", "signs", "sign"]
theorem run_zero {d : Nat → Str → Nat} (h : ∀ c, d 0 c = 0) : ∀ w : List Str, run d 0 w = 0
  | [] => rfl
  | c :: w => by
    rw [run_cons, h]
    exact run_zero h w
section
variable {P : Program} {w : World} {K : PySem.W.Frag} {mg : Str → Option Value} {base : Heap}
theorem scEvery : FnScope nEvery ["cls", "signs"] (defScope sEvery) := ⟨rfl, rfl, rfl, by decide +kernel, rfl, by decide +kernel, by decide +kernel⟩
/-- what comes of a language made of a machine -/
theorem made_out {C : Addr} {T : List NTab} {H : Hp} {z : Str} {kb km : Bool} {st ms : Addr} {rows : List Addr} {mem : List Nat} {δ : Nat → Str → Nat} {m : Nat → Bool} {δ0 : Nat → Str → Nat} {first : Nat} {Q : VK} {E : XK} (sg : SgOk z)
    (hst : SqK K kb H st (rows.map V.ref)) (hr : RowsAt H rows (sgL z) δ) (hl : ∀ r ∈ rows, ∃ kvs, H r = some (.dK kvs) ∧ kvs.length = (sgL z).length) (hm : SqK K km H ms (mem.map fun n => V.int (n : Nat))) (nd : mem.Nodup) (lt : ∀ n ∈ mem, n < rows.length) (pos : 0 < rows.length) (six : rows.length ≤ 6)
    (dl : ∀ n, n < rows.length → ∀ c ∈ sgL z, δ n c < rows.length) (hT : TabsN T H) (same : ∀ w : List Str, (∀ c ∈ w, c ∈ sgL z) → (run δ 0 w ∈ mem ↔ m (run δ0 first w) = true)) (o : OutP C T H z δ0 first m Q) :
    ∀ x dx, H x = none → H dx = none → dx ≠ x → spLInit K C T [.ref x, .str z, .ref st, .ref ms] (upd (upd H dx (.own x)) x (.ins C dx [])) (fun v H2 => v = .non ∧ Q (.ref x) H2) E := by
  intro x dx nx ndx ne
  have e1 : Ext H (upd (upd H dx (.own x)) x (.ins C dx [])) := (Ext.new ndx).trans (Ext.new (by rw [upd_ne (Ne.symm ne)]; exact nx))
  have i1 : (upd (upd H dx (.own x)) x (.ins C dx [])) x = some (.ins C dx []) := upd_same
  generalize upd (upd H dx (.own x)) x (.ins C dx []) = H3 at e1 i1 ⊢
  refine ⟨x, dx, kb, km, z, st, ms, rows, mem, δ, rfl, i1, sg, hst.ext e1, hr.ext e1, fun r hr => ?_, hm.ext e1, nd, lt, pos, by omega, few_all six, dl, hT.ext e1, fun H' M' δ2 found2 live kn nn T' LN LO2 lv => ⟨rfl, ?_⟩⟩
  · obtain ⟨kvs, h1, h2⟩ := hl r hr
    exact ⟨kvs, e1 _ _ h1, h2⟩
  · exact o H' x M' δ2 found2 live (fun b u e n => kn b u (e1 _ _ e) n (ne_of_none e nx)) (fun b e => e1.free (nn b e)) T' nx LN.at_ ⟨Nat.le_trans LO2.le six, LO2.nd, LO2.fl, LO2.can, lv⟩ fun w hw => (LO2.acc w hw).trans (same w hw)
theorem ok_every {T : List NTab} {f C fK fI : Addr} {fd fdK fdI : FuncData} (Fn : Fun K "every" "Language.every" sEvery f fd)
    (aK : At K mg "_check_signs" fK fdK ["value"] []) (gK : FnOk P w K mg base CX0 3 fK fdK ["value"] spChkSg)
    (M : Mk K C fI) (gI : FnOk P w K mg base CX0 6 fI fdI ["self", "signs", "states", "member_states"] (spLInit K C T)) (bI : L2.Binds K fdI ["self", "signs", "states", "member_states"] []) :
    FnOk P w K mg base CX0 8 f fd ["cls", "signs"] (spEvery C T) := by
  refine Sl.Fun.okM Fn scEvery (fun vs H Q E h => ?_) (fun A0 outer s H vs Q E hr h => ?_)
  · obtain ⟨z, rfl, _⟩ := h
    rfl
  · obtain ⟨z, rfl, sg, hT, o⟩ := h
    have hr3 := hr.mono (show 3 ≤ 7 by omega)
    refine ⟨_, pss_cons (ps_expr (pe_call (E := fun _ _ _ => False) gK hr3 (by rfl) aK.g aK.kp aK.b .nil pass0 (pa_cons (pv 1) pa_nil)))
      (pss_one (ps_ret (pe_makeL (i := 0) (E := fun _ _ _ => False) M gI hr rfl (.inl rfl) bI .nil pass0 (pa_cons (pv 1) (pa_cons (pe_lst (pa_cons
        (pe_dc (own := [("sign", 2)]) (g := gName 2) (tt := tYes) (tk := tVar 2) (tv := tC (.int 0)) rfl scEvery.nd (pi_str (pv 1)) (blkOk_by (N := nEvery) (sc := defScope sEvery) (by decide +kernel))
              (fun _ _ _ _ _ => pg_name (i := 2) scEvery.nd rfl (Or.inl rfl)) (fun _ _ _ _ _ => pts_nil) (fun _ _ _ _ _ => pv 2) (fun _ _ _ _ _ => pe_int)) pa_nil)) (pa_cons (pe_lst (pa_cons pe_int pa_nil)) pa_nil)))))), ?_⟩
    refine ⟨_, rfl, z, rfl, sg, fun H1 x1 => ?_⟩
    refine ⟨rfl, _, rfl, _, rfl, z, rfl, fun D nD => ?_⟩
    refine dcW (walk_str (z := z)) (fun j H' => Ext H1 H' ∧ H' D = some (.dK (rowD ((sgL z).take j) fun _ => 0))) ⟨Ext.new nD, upd_same⟩ (fun _ _ _ _ => trivial) ?_ ?_
    · rintro j y G1 G2 hj ⟨y1, hR⟩ ⟨rfl, c', hc, rfl⟩
      have hsg := sgL_at hc
      refine ⟨rfl, ?_⟩
      dsimp only [tYes]
      rw [if_pos rfl]
      refine ⟨_, rfl, _, keyC ⟨#[c']⟩, rfl, hR, ?_, fun b u e => ?_, ?_⟩
      · unfold rowD
        rw [List.length_map, List.length_take, sizeLine_eq]
        have := sg.le
        rw [sgL_len]
        have h2 : z.length = z.cps.size := rfl
        omega
      · rw [upd_ne (ne_of_none e nD)]
        exact y1 _ _ e
      · rw [upd_same, ← rowD_put sg.nd hsg]
        rfl
    rintro H2 ⟨x2, hD⟩
    rw [← sgL_len, List.take_length] at hD
    refine ⟨by show 1 ≤ sizeLine; decide, fun L nL => ?_⟩
    have x3 := Ext.new nL (o := .lst [V.ref D])
    have hL : (upd H2 L (.lst [V.ref D])) L = some (.lst ([D].map V.ref)) := upd_same
    generalize upd H2 L (.lst [V.ref D]) = H3 at x3 hL ⊢
    refine ⟨by show 1 ≤ sizeLine; decide, fun F nF => ?_⟩
    have x4 := Ext.new nF (o := .lst [V.int 0])
    have hF : (upd H3 F (.lst [V.int 0])) F = some (.lst (([0] : List Nat).map fun n => V.int (n : Nat))) := upd_same
    generalize upd H3 F (.lst [V.int 0]) = H4 at x4 hF ⊢
    have x34 := x3.trans x4
    have x14 := (x1.trans x2).trans x34
    refine made_out (kb := true) (km := true) (rows := [D]) (mem := [0]) (δ := fun _ _ => 0) sg (SqK.l (x4 _ _ hL)) (fun i r e => ?_) (fun r hr => ?_) (SqK.l hF) (by simp) (by simp) (by simp) (by simp) (by simp) (hT.ext x14) (fun w hw => ?_) (o.weak (ExtN.of x14) fun b e => x14.free e)
    · match i, e with
      | 0, e =>
        cases e
        exact ⟨_, x34 _ _ hD, fun c hc => row_val hc⟩
      | n + 1, e => cases e
    · obtain rfl := List.mem_singleton.mp hr
      exact ⟨_, x34 _ _ hD, List.length_map ..⟩
    · rw [run_zero (fun _ => rfl) w]
      simp
end
end Sl
/-! ## W5 -/
set_option Elab.async false
set_option linter.all false
set_option maxRecDepth 100000
set_option maxHeartbeats 4000000
set_option pp.maxSteps 1500
set_option pp.deepTerms false
/-! machine_of without texts -/
namespace Sl
open PySem PySem.Spec PyProof.Rows L2 LamX NdefX
abbrev sMachOf : Stmt := top 20
def spMachOf0 (K : PySem.W.Frag) : Sp := fun vs H Q _ => ∃ (z : Str) (p : Addr), vs = [.str z, .ref p] ∧ H p = some (.tup []) ∧ (sgL z).Nodup ∧ z.cps.size ≤ 100 ∧
  ∀ (H' : Hp) (t L F r0 r1 : Addr), Ext H H' → H' t = some (.tup [.ref L, .ref F]) → H' L = some (.lst ([r0, r1].map V.ref)) → H' r0 = some (.dK (rowD (sgL z) fun _ => 1)) → H' r1 = some (.dK (rowD (sgL z) fun _ => 1)) → H' F = some (.lst []) → Q (.ref t) H'
abbrev nMachOf : List Str := ["signs", "texts", "states", "ends", "text", "state", "sign", "lost"]
def tupAt (i : Nat) : Expr → Expr
  | .Tuple es _ _ => es.getD i (.Constant .none 0 ⟨0, 0, 0, 0⟩)
  | e => e
abbrev scMRow : Scope := lamSc (tupAt 0 (asgVal (nth (defBody sMachOf) 5))) (defScope sMachOf)

section
variable {P : Program} {w : World} {K : PySem.W.Frag} {mg : Str → Option Value} {base : Heap}
theorem scMachOf : FnScope nMachOf ["signs", "texts"] (defScope sMachOf) := ⟨rfl, rfl, rfl, by decide +kernel, rfl, by decide +kernel, by decide +kernel⟩
theorem ok_machOf0 {f : Addr} {fd : FuncData} (Fn : Fun K "machine_of" "machine_of" sMachOf f fd) (zn : mg "len" = none) : FnOk P w K mg base CX0 1 f fd ["signs", "texts"] (spMachOf0 K) := by
  refine Sl.Fun.okM Fn scMachOf (fun vs H Q E h => ?_) (fun A0 outer s H vs Q E hr h => ?_)
  · obtain ⟨z, p, rfl, _⟩ := h
    rfl
  · obtain ⟨z, p, rfl, hp, nd, l100, o⟩ := h
    have hu := hu_of hr
    refine ⟨_, pss_cons (ps_set (i := 2) scMachOf.nd rfl (.inl rfl) (pe_lst (pa_cons pe_dnewK pa_nil)))
      (pss_cons (ps_set (i := 3) scMachOf.nd rfl (.inl rfl) (pe_lst pa_nil))
      (pss_cons (ps_for (passes_of rfl) rfl (pi_tup (pv 1)) (pg_name (i := 4) scMachOf.nd rfl (.inl rfl)) pss_dead)
      (pss_cons (ps_set (i := 7) scMachOf.nd rfl (.inr rfl) (pe_callB call_len_seq (by rfl) zn PySem.boot_len (pa_cons (pv 2) pa_nil)))
      (pss_cons (ps_expr (pe_bm PySem.F.plainAttrs_list PySem.F.slot_list_append PySem.F.type_list_append mt_append (pv 2) (pa_cons pe_dnewK pa_nil)))
      (pss_one (ps_ret (pe_tup (pa_cons (pe_lc (own := [("state", 5)]) (g := gName 5) (tt := tYes) (te := tDc (iStr (tVar 0)) (gName 6) tYes (tVar 6) (tDGet2 (tVar 5) (tVar 6) (tVar 7)) [6]) rfl scMachOf.nd (pi_list (pv 2)) (blkOk_by (N := nMachOf) (sc := defScope sMachOf) (by decide +kernel))
          (fun _ _ _ _ _ => pg_name (i := 5) scMachOf.nd rfl (Or.inr rfl)) (fun _ _ _ _ _ => pts_nil)
          (fun _ _ _ _ _ => pe_dc (own := [("sign", 6)]) (g := gName 6) (tt := tYes) (tk := tVar 6) rfl scMachOf.nd (pi_str (pe_var (i := 0) rfl (.inr (.inl rfl)))) (blkOk_by (N := nMachOf) (sc := relS scMRow (defScope sMachOf)) (by decide +kernel))
              (fun _ _ _ _ _ => pg_name (i := 6) scMachOf.nd rfl (Or.inl rfl)) (fun _ _ _ _ _ => pts_nil) (fun _ _ _ _ _ => pv 6)
              (fun _ _ _ _ _ => pe_dget2 hu (pe_var (i := 5) rfl (.inr (.inl rfl))) (pv 6) (pe_var (i := 7) rfl (.inr (.inl rfl))) ⟨rfl, rfl, rfl, rfl⟩))) (pa_cons (pv 3) pa_nil))))))))), ?_⟩
    refine fun d0 n0 => ?_
    have x0 := Ext.new n0 (o := .dK [])
    have h0 : (upd H d0 (.dK [])) d0 = some (.dK []) := upd_same
    generalize upd H d0 (.dK []) = G0 at x0 h0 ⊢
    refine ⟨by show 1 ≤ sizeLine; decide, fun S nS => ?_⟩
    have x1 := Ext.new nS (o := .lst [V.ref d0])
    have hS : (upd G0 S (.lst [V.ref d0])) S = some (.lst [V.ref d0]) := upd_same
    generalize upd G0 S (.lst [V.ref d0]) = G1 at x1 hS ⊢
    refine ⟨by show 0 ≤ sizeLine; decide, fun En nE => ?_⟩
    have x2 := Ext.new nE (o := .lst [])
    have hE : (upd G1 En (.lst [])) En = some (.lst []) := upd_same
    generalize upd G1 En (.lst []) = G2 at x2 hE ⊢
    have x02 := x0.trans (x1.trans x2)
    have hp2 : SqT K G2 p [] := SqT.of (x02 _ _ hp)
    refine ⟨_, rfl, p, rfl, ⟨_, hp2⟩, ?_⟩
    refine for_it (tb := fun _ _ _ => False) (walk_tup (xs := [])) (fun i σ H' => σ = [some (.str z), some (.ref p), some (.ref S), some (.ref En), none, none, none, none] ∧ H' = G2) ⟨rfl, rfl⟩ (fun i σ H' _ ⟨_, e⟩ => by rw [e]; exact hp2) (fun i x σ H3 H4 hi => absurd hi (Nat.not_lt_zero _)) ?_
    rintro σ H3 ⟨rfl, rfl⟩
    refine ⟨_, rfl, S, _, rfl, .inl (SqL.of (x2 _ _ hS)), ?_⟩
    have hS2 := x2 _ _ hS
    refine ⟨_, rfl, .inl ⟨rfl, _, SqL.of hS2⟩, fun d1 n1 => ?_⟩
    have x3 := Ext.new n1 (o := .dK [])
    have h1 : (upd H3 d1 (.dK [])) d1 = some (.dK []) := upd_same
    generalize upd H3 d1 (.dK []) = G3 at x3 h1 ⊢
    have hS3 := x3 _ _ hS2
    refine ⟨S, _, _, rfl, rfl, hS3, by show 1 < sizeLine; decide, ?_⟩
    -- two empty dicts
    have x4 : Ext G0 (upd G3 S (.lst [V.ref d0, V.ref d1])) := fun b o e => by
      rw [upd_ne (ne_of_none e nS)]
      exact x3 _ _ (x2 _ _ (x1 _ _ e))
    have hS4 : (upd G3 S (.lst [V.ref d0, V.ref d1])) S = some (.lst [V.ref d0, V.ref d1]) := upd_same
    have hd0 : (upd G3 S (.lst [V.ref d0, V.ref d1])) d0 = some (.dK []) := x4 _ _ h0
    have hd1 : (upd G3 S (.lst [V.ref d0, V.ref d1])) d1 = some (.dK []) := by
      rw [upd_ne (ne_of h1 hS3 (by intro z; cases z))]
      exact h1
    have hE4 : (upd G3 S (.lst [V.ref d0, V.ref d1])) En = some (.lst []) := by
      rw [upd_ne (ne_of_none hS nE).symm]
      exact x3 _ _ hE
    rw [show ([V.ref d0] ++ [V.ref d1]) = [V.ref d0, V.ref d1] from rfl]
    generalize upd G3 S (.lst [V.ref d0, V.ref d1]) = G4 at x4 hS4 hd0 hd1 hE4 ⊢
    have x04 := x0.trans x4
    have zl : z.cps.size = (sgL z).length := (sgL_len z).symm
    refine ⟨_, rfl, S, rfl, ⟨_, SqL.of hS4⟩, fun L nL => ?_⟩
    refine lc_it (walk_list (xs := [V.ref d0, V.ref d1])) (fun i H' => Ext G4 H' ∧ ∃ rs : List Addr, rs.length = i ∧ H' L = some (.lst (rs.map V.ref)) ∧ ∀ r ∈ rs, H' r = some (.dK (rowD (sgL z) fun _ => 1))) ⟨Ext.new nL, [], rfl, upd_same, fun r h => nomatch h⟩ (fun i H' _ h => SqL.of (h.1 _ _ hS4)) ?_ ?_
    · rintro i x H8 H9 hi ⟨x8, rs, lrs, hL8, hrs⟩ ⟨rfl, hx⟩
      obtain ⟨d, rfl, hd⟩ : ∃ d, x = V.ref d ∧ H9 d = some (.dK []) := by
        match i, hi with
        | 0, _ =>
          cases hx
          exact ⟨d0, rfl, x8 _ _ hd0⟩
        | 1, _ =>
          cases hx
          exact ⟨d1, rfl, x8 _ _ hd1⟩
      have hi : i < 2 := hi
      refine ⟨rfl, ?_⟩
      dsimp only [tYes]
      rw [if_pos rfl]
      refine ⟨_, rfl, z, rfl, fun R nR => ?_⟩
      refine dcW (walk_str (z := z)) (fun j H' => Ext H9 H' ∧ H' R = some (.dK (rowD ((sgL z).take j) fun _ => 1))) ⟨Ext.new nR, upd_same⟩ (fun _ _ _ _ => trivial) ?_ ?_
      · rintro j y G5 G6 hj ⟨y1, hR⟩ ⟨rfl, c', hc, rfl⟩
        have hsg := sgL_at hc
        refine ⟨rfl, ?_⟩
        dsimp only [tYes]
        rw [if_pos rfl]
        refine ⟨_, rfl, _, rfl, d, rfl, .inl ⟨_, .inl (y1 _ _ hd)⟩, _, rfl, _, rfl, none, ?_, ?_⟩
        · have := DGet.k (k := keyC ⟨#[c']⟩) (y1 _ _ hd)
          exact this
        · refine ⟨_, keyC ⟨#[c']⟩, rfl, hR, ?_, fun b u e => ?_, ?_⟩
          · unfold rowD
            rw [List.length_map, List.length_take]
            exact small1000 (by omega)
          · rw [upd_ne (ne_of_none e nR)]
            exact y1 _ _ e
          · rw [upd_same, ← rowD_put nd hsg]
            rfl
      rintro G5 ⟨y1, hR⟩
      rw [zl, List.take_length] at hR
      have hL9 := y1 _ _ hL8
      have keep : ∀ a kvs, G5 a = some (.dK kvs) → (upd G5 L (.lst (rs.map V.ref ++ [.ref R]))) a = some (.dK kvs) := fun a kvs h => by
        rw [upd_ne (ne_of h hL9 (by intro z; cases z))]
        exact h
      refine ⟨_, hL9, by rw [List.length_map]; exact small1000 (by omega), fun a o e => ?_, rs ++ [R], by rw [List.length_append, lrs]; rfl, ?_, fun r hr => ?_⟩
      · rw [upd_ne (ne_of_none e nL)]
        exact y1 _ _ (x8 _ _ e)
      · rw [upd_same, List.map_append]
        rfl
      · rcases List.mem_append.mp hr with h | h
        · exact keep _ _ (y1 _ _ (hrs r h))
        · rw [List.mem_singleton.mp h]
          exact keep _ _ hR
    rintro G5 ⟨x5, rs, lrs, hL5, hrs⟩
    have lrs : rs.length = 2 := lrs
    obtain ⟨r0, r1, rfl⟩ : ∃ r0 r1, rs = [r0, r1] := by
      match rs, lrs with
      | [a, b], _ => exact ⟨a, b, rfl⟩
    refine ⟨_, rfl, by show 2 ≤ sizeLine; decide, fun t nt => ?_⟩
    have x6 := Ext.new nt (o := .tup [V.ref L, V.ref En])
    have ht : (upd G5 t (.tup [V.ref L, V.ref En])) t = some (.tup [V.ref L, V.ref En]) := upd_same
    exact o _ t L En r0 r1 (x04.trans (x5.trans x6)) ht (x6 _ _ hL5) (x6 _ _ (hrs _ List.mem_cons_self)) (x6 _ _ (hrs _ (List.mem_cons_of_mem _ List.mem_cons_self))) (x6 _ _ (x5 _ _ hE4))
end
end Sl
/-! ## W6 -/
set_option Elab.async false
set_option linter.all false
set_option maxRecDepth 100000
set_option maxHeartbeats 4000000
set_option pp.maxSteps 1500
set_option pp.deepTerms false
/-! Language.of without texts -/
namespace Sl
open PySem PySem.Spec PyProof.Rows L2 LamX NdefX
abbrev sLOf : Stmt := inClass (top 37) 3
def spOfS (C : Addr) (T : List NTab) : Sp := fun vs H Q _ => ∃ (z : Str) (p : Addr), vs = [.ref C, .str z, .ref p] ∧ H p = some (.tup []) ∧ SgOk z ∧ TabsN T H ∧ OutP C T H z (fun _ _ => 0) 0 (fun _ => false) Q
def spOf0 (C : Addr) (T : List NTab) : Sp := fun vs H Q _ => ∃ z : Str, vs = [.ref C, .str z] ∧ SgOk z ∧ TabsN T H ∧ OutP C T H z (fun _ _ => 0) 0 (fun _ => false) Q
abbrev nLOf : List Str := ["cls", "signs", "texts", "text", "tree", "ends", "least", "found"]
section
variable {P : Program} {w : World} {K : PySem.W.Frag} {mg : Str → Option Value} {base : Heap}
theorem scLOf : FnScope nLOf (([("cls" : Str), "signs"] : List Str) ++ [("texts" : Str)]) (defScope sLOf) := ⟨rfl, rfl, rfl, by decide +kernel, rfl, by decide +kernel, by decide +kernel⟩
theorem ok_lof0 {T : List NTab} {f C fK fI fO fM : Addr} {fd fdK fdI fdO fdM : FuncData} {mc u6 : Value} (Fn : Fun K "of" "Language.of" sLOf f fd)
    (aK : At K mg "_check_signs" fK fdK ["value"] []) (gK : FnOk P w K mg base CX0 3 fK fdK ["value"] spChkSg)
    (aO : At K mg "machine_of" fO fdO ["signs", "texts"] []) (gO : FnOk P w K mg base CX0 1 fO fdO ["signs", "texts"] (spMachOf0 K))
    (aM : At K mg "least_machine" fM fdM ["signs", "states", "member_states", "limit"] []) (gM : FnOk P w K mg base CX0 5 fM fdM ["signs", "states", "member_states", "limit"] (spLeast P w K T))
    (M : Mk K C fI) (gI : FnOk P w K mg base CX0 6 fI fdI ["self", "signs", "states", "member_states"] (spLInit K C T)) (bI : L2.Binds K fdI ["self", "signs", "states", "member_states"] [])
    (cr : ClX.CRead K C mc) (c6 : ClX.CVal K C mc "MAX_STATES" (.int 6) u6) : FnR P w K mg base CX0 8 f (spOf0 C T) := by
  obtain ⟨oc, od, kV, doc, pm, an, cdv, ct, osl, rfl, lk, hcd⟩ := Fn.ex
  refine FnR.imp (StX.fn_star (k := 7) (ps := ["cls", "signs"]) (pv := "texts") (sp := spOfS C T) lk hcd scLOf StX.cxUp_none (StX.bind_star2 (B := fun us => bindArgs (PySem.W.fnOf "of" "Language.of" (defArgs sLOf) (defBody sLOf) (defScope sLOf) .none kV doc pm an cdv ct) ⟨us, []⟩) (fun _ _ => rfl) (fun _ _ _ _ => rfl)) fun A0 outer s H vs Q E hr h => ?_) fun vs H Q E h => ?_
  · obtain ⟨z, p, rfl, hp, sg, hT, o⟩ := h
    have hr3 := hr.mono (show 3 ≤ 7 by omega)
    have hr1 := hr.mono (show 1 ≤ 7 by omega)
    have hr5 := hr.mono (show 5 ≤ 7 by omega)
    refine ⟨_, pss_cons (ps_expr (pe_call (E := fun _ _ _ => False) gK hr3 (by rfl) aK.g aK.kp aK.b .nil pass0 (pa_cons (pv 1) pa_nil)))
      (pss_cons (ps_for (passes_of rfl) rfl (pi_tup (pv 2)) (pg_name (i := 3) scLOf.nd rfl (.inl rfl)) pss_dead)
      (pss_cons (ps_asg (pe_call (E := fun _ _ _ => False) gO hr1 (by rfl) aO.g aO.kp aO.b .nil pass0 (pa_cons (pv 1) (pa_cons (pv 2) pa_nil))) (pg_tup (by rfl) (pgs_cons (pg_name (i := 4) scLOf.nd rfl (.inl rfl)) (pgs_cons (pg_name (i := 5) scLOf.nd rfl (.inl rfl)) pgs_nil))))
      (pss_cons (ps_asg (pe_call (E := fun _ _ _ => False) gM hr5 (by rfl) aM.g aM.kp aM.b .nil pass0 (pa_cons (pv 1) (pa_cons (pv 4) (pa_cons (pv 5) (pa_cons (ClX.pe_cval (pv 0)) pa_nil))))) (pg_tup (by rfl) (pgs_cons (pg_name (i := 6) scLOf.nd rfl (.inl rfl)) (pgs_cons (pg_name (i := 7) scLOf.nd rfl (.inl rfl)) pgs_nil))))
      (pss_one (ps_ret (pe_makeL (i := 0) (E := fun _ _ _ => False) M gI hr rfl (.inl rfl) bI .nil pass0 (pa_cons (pv 1) (pa_cons (pv 6) (pa_cons (pv 7) pa_nil))))))))), ?_⟩
    have l4 := sg.le
    have zl : z.length = z.cps.size := rfl
    refine ⟨_, rfl, z, rfl, sg, fun H1 x1 => ?_⟩
    have hp1 := x1 _ _ hp
    refine ⟨_, rfl, p, rfl, ⟨_, SqT.of hp1⟩, ?_⟩
    refine for_it (tb := fun _ _ _ => False) (walk_tup (xs := [])) (fun i σ H' => σ = [some (.ref C), some (.str z), some (.ref p), none, none, none, none, none] ∧ H' = H1) ⟨rfl, rfl⟩ (fun i σ H' _ ⟨_, e⟩ => by rw [e]; exact SqT.of hp1) (fun i x σ H3 H4 hi => absurd hi (Nat.not_lt_zero _)) ?_
    rintro σ H3 ⟨rfl, rfl⟩
    refine ⟨_, rfl, _, rfl, z, p, rfl, hp1, sg.nd, by omega, fun H4 t L F r0 r1 x4 ht hL h0 h1 hF => ?_⟩
    refine ⟨t, _, rfl, SqT.of ht, rfl, _, _, rfl, _, _, rfl, rfl, ?_⟩
    have rd : RowsD H4 [r0, r1] (sgL z) fun _ _ => 1 := fun i r e => by
      match i, e with
      | 0, e =>
        cases e
        exact h0
      | 1, e =>
        cases e
        exact h1
    have T4 := hT.ext (x1.trans x4)
    refine ⟨_, rfl, _, rfl, _, rfl, _, rfl, C, mc, .int 6, u6, rfl, cr, c6, true, true, z, L, F, 6, [r0, r1], [], fun _ _ => 1, rfl, SqK.l hL, rowsD_at rd, SqK.l hF, by simp, by simp, few_all (by simp), by simp, by omega, sg.nd, fun n hn c hc => by simp, T4, fun H5 t2 La Fa rs2 M' δ' found x5 nn5 T5 nt2 nL2 nF2 ht2 hL2 lrs2 hrn2 hrs2 hF2 LO ml => ?_⟩
    refine ⟨t2, _, rfl, SqT.of ht2, rfl, _, _, rfl, _, _, rfl, rfl, ?_⟩
    refine ⟨rfl, _, rfl, _, rfl, _, rfl, ?_⟩
    refine made_out (kb := true) (km := true) (rows := rs2) (mem := found) (δ := δ') sg (SqK.l hL2) (rowsD_at hrs2) (rowsD_len hrs2) (SqK.l hF2) LO.nd (by rw [lrs2]; exact LO.fl) (by rw [lrs2]; exact LO.pos) (by omega) (by rw [lrs2]; exact LO.lt) T5 (fun w hw => ?_) (o.weak ((ExtN.of (x1.trans x4)).trans x5) fun b e => x1.free (x4.free (nn5 _ e)))
    rw [LO.acc w hw]
    simp
  · obtain ⟨z, rfl, sg, hT, o⟩ := h
    refine ⟨[.ref C, .str z], [], rfl, rfl, by simp, fun p np => ⟨z, p, rfl, upd_same, sg, hT.ext (Ext.new np), o.weak (ExtN.of (Ext.new np)) fun b e => (Ext.new np).free e⟩⟩
end
end Sl
/-! ## M5 -/
set_option Elab.async false
set_option linter.all false
set_option maxRecDepth 100000
set_option maxHeartbeats 4000000
/-! the pairs of states of two least machines: how many are reached, which texts they take -/
namespace Sl
open PySem PySem.Spec PyProof.Rows L2
theorem run_eq {sg : List Str} {M : Nat} {d e : Nat → Str → Nat} (lt : ∀ b, b < M → ∀ c ∈ sg, d b c < M) (h : ∀ b, b < M → ∀ c ∈ sg, d b c = e b c) : ∀ (w : List Str) (n : Nat), n < M → (∀ c ∈ w, c ∈ sg) → run d n w = run e n w
  | [], _, _, _ => rfl
  | c :: w, n, hn, hw => by
    have hc := hw c List.mem_cons_self
    rw [run_cons, run_cons, ← h n hn c hc]
    exact run_eq lt h w _ (lt n hn c hc) fun c' h' => hw c' (List.mem_cons_of_mem _ h')
theorem run_pr {sg : List Str} {W : Nat} {d1 d2 : Nat → Str → Nat} (lt2 : ∀ b, b < W → ∀ c ∈ sg, d2 b c < W) : ∀ (w : List Str) (a b : Nat), b < W → (∀ c ∈ w, c ∈ sg) → run (prD W d1 d2) (a * W + b) w = run d1 a w * W + run d2 b w
  | [], _, _, _, _ => rfl
  | c :: w, a, b, hb, hw => by
    have hc := hw c List.mem_cons_self
    rw [run_cons, run_cons, run_cons]
    show run (prD W d1 d2) (d1 ((a * W + b) / W) c * W + d2 ((a * W + b) % W) c) w = _
    rw [(pr_code hb).1, (pr_code hb).2]
    exact run_pr lt2 w _ _ (lt2 b hb c hc) fun c' h' => hw c' (List.mem_cons_of_mem _ h')
/-- few pairs: by their number, or since both machines tell the same -/
def SmallP (sg : List Str) (N1 N2 : Nat) (δ1 δ2 : Nat → Str → Nat) (m1 m2 : List Nat) : Prop := N1 * N2 ≤ 6 ∨ (N1 ≤ 6 ∧ N2 ≤ 6 ∧ ∀ w : List Str, (∀ c ∈ w, c ∈ sg) → (run δ1 0 w ∈ m1 ↔ run δ2 0 w ∈ m2))
section
variable {sg : List Str} {N1 N2 M1 M2 : Nat} {δ1 δ2 d1 d2 : Nat → Str → Nat} {m1 m2 f1 f2 : List Nat}
theorem pairs_lt (L1 : LeastOf sg δ1 m1 N1 M1 d1 f1) (L2 : LeastOf sg δ2 m2 N2 M2 d2 f2) : ∀ n, n < M1 * M2 → ∀ e ∈ gOf sg (prD M2 d1 d2) n, e.2 < M1 * M2 := fun n hn e he => by
  obtain ⟨c, hc, rfl⟩ := List.mem_map.mp he
  obtain ⟨h1, h2⟩ := pr_lt hn
  have q1 := L1.lt _ h1 c hc
  have q2 := L2.lt _ h2 c hc
  have q3 : (d1 (n / M2) c + 1) * M2 ≤ M1 * M2 := Nat.mul_le_mul_right _ q1
  rw [Nat.add_mul, Nat.one_mul] at q3
  show prD M2 d1 d2 n c < _
  unfold prD
  omega
theorem pairs_six (L1 : LeastOf sg δ1 m1 N1 M1 d1 f1) (L2 : LeastOf sg δ2 m2 N2 M2 d2 f2) (s : SmallP sg N1 N2 δ1 δ2 m1 m2) : (reachedL (gOf sg (prD M2 d1 d2)) (M1 * M2) 0).length ≤ 6 ∧ M1 * M2 ≤ 36 := by
  have p1 := L1.pos
  have p2 := L2.pos
  have FO := reachedL_found (first := 0) (pairs_lt L1 L2) (Nat.mul_pos p1 p2)
  have len := nodup_len FO.nd FO.lt
  have mul : M1 * M2 ≤ N1 * N2 := Nat.mul_le_mul L1.le L2.le
  rcases s with h | ⟨h1, h2, h⟩
  · exact ⟨by omega, by omega⟩
  · have a1 : M1 ≤ 6 := Nat.le_trans L1.le h1
    have a2 : M2 ≤ 6 := Nat.le_trans L2.le h2
    refine ⟨?_, Nat.mul_le_mul a1 a2⟩
    have same : ∀ w : List Str, (∀ c ∈ w, c ∈ sg) → (run d1 0 w ∈ f1 ↔ run d2 0 w ∈ f2) := fun w hw => by rw [L1.acc w hw, L2.acc w hw, h w hw]
    obtain ⟨eM, eD, _⟩ := can_uniq L1.can L2.can same
    -- all reached pairs lie on the diagonal
    have diag : ∀ n ∈ reachedL (gOf sg (prD M2 d1 d2)) (M1 * M2) 0, ∃ a, a < M1 ∧ n = a * M2 + a := fun n hn => by
      obtain ⟨w, hw, e⟩ := reach_run (FO.re n hn)
      have q := run_pr (d1 := d1) L2.lt w 0 0 p2 hw
      rw [Nat.zero_mul, Nat.zero_add] at q
      refine ⟨run d1 0 w, run_lt L1.lt w 0 p1 hw, ?_⟩
      rw [← e, q, ← run_eq L1.lt eD w 0 p1 hw]
    have nd : ((reachedL (gOf sg (prD M2 d1 d2)) (M1 * M2) 0).map fun n => n / M2).Nodup := by
      have := FO.nd
      unfold List.Nodup at this ⊢
      rw [List.pairwise_map]
      refine this.imp_of_mem fun {a b} ha hb ne e => ne ?_
      obtain ⟨x, hx, rfl⟩ := diag a ha
      obtain ⟨y, hy, rfl⟩ := diag b hb
      have e : (x * M2 + x) / M2 = (y * M2 + y) / M2 := e
      rw [(pr_code (by omega : x < M2)).1, (pr_code (by omega : y < M2)).1] at e
      rw [e]
    have := nodup_len (N := M1) nd fun y hy => by
      obtain ⟨n, hn, rfl⟩ := List.mem_map.mp hy
      exact (pr_lt (FO.lt n hn)).1
    rw [List.length_map] at this
    omega
/-- what the pair that a text leads to tells -/
theorem pairs_tell {β : Bool → Bool → Bool} (L1 : LeastOf sg δ1 m1 N1 M1 d1 f1) (L2 : LeastOf sg δ2 m2 N2 M2 d2 f2) {w : List Str} (hw : ∀ c ∈ w, c ∈ sg) :
    β (decide (run (prD M2 d1 d2) 0 w / M2 ∈ f1)) (decide (run (prD M2 d1 d2) 0 w % M2 ∈ f2)) = β (decide (run δ1 0 w ∈ m1)) (decide (run δ2 0 w ∈ m2)) := by
  have q := run_pr (d1 := d1) L2.lt w 0 0 L2.pos hw
  rw [Nat.zero_mul, Nat.zero_add] at q
  have b2 := run_lt L2.lt w 0 L2.pos hw
  rw [q, (pr_code b2).1, (pr_code b2).2, decide_eq_decide.mpr (L1.acc w hw), decide_eq_decide.mpr (L2.acc w hw)]
end
end Sl
/-! ## T19 -/
set_option Elab.async false
set_option linter.all false
set_option maxRecDepth 100000
set_option maxHeartbeats 4000000
set_option pp.maxSteps 700
set_option pp.deepTerms false
/-! explored with a goal, its nodes pairs; the words on the way -/
namespace Sl
open PySem PySem.Spec PyProof.Rows L2 LamX NdefX
/-- nodes met, with the words that led there -/
abbrev Wd := List (Nat × List Str)
def addW (q : Wd) (w : List Str) (l : List (Str × Nat)) : Wd := l.foldl (fun q e => if e.2 ∈ q.map (·.1) then q else q ++ [(e.2, w ++ [e.1])]) q
def bfsW (g : Gr) (m : Nat → Bool) : Nat → Wd → Nat → Wd × Option (Nat × List Str)
  | 0, q, _ => (q, none)
  | n + 1, q, i => match q[i]? with
    | none => (q, none)
    | some x => if m x.1 = true then (q, some x) else bfsW g m n (addW q x.2 (g x.1)) (i + 1)
def searchW (g : Gr) (m : Nat → Bool) (N first : Nat) : Wd × Option (Nat × List Str) := bfsW g m (N + 1) [(first, [])] 0
theorem addW_append (q : Wd) (w : List Str) (l k : List (Str × Nat)) : addW q w (l ++ k) = addW (addW q w l) w k := List.foldl_append
theorem addW_one (q : Wd) (w : List Str) (e : Str × Nat) : addW q w [e] = if e.2 ∈ q.map (·.1) then q else q ++ [(e.2, w ++ [e.1])] := rfl
theorem bfsW_end {g : Gr} {m : Nat → Bool} {q : Wd} {i : Nat} (h : q.length ≤ i) : ∀ n, bfsW g m n q i = (q, none)
  | 0 => rfl
  | n + 1 => by
    unfold bfsW
    rw [List.getElem?_eq_none h]
theorem bfsW_go {g : Gr} {m : Nat → Bool} {q : Wd} {i n : Nat} {x : Nat × List Str} (h : q[i]? = some x) : bfsW g m (n + 1) q i = if m x.1 = true then (q, some x) else bfsW g m n (addW q x.2 (g x.1)) (i + 1) := by
  rw [bfsW, h]
theorem addW_ok {N : Nat} {w : List Str} : ∀ {l : List (Str × Nat)} {q : Wd}, (q.map (·.1)).Nodup → (∀ x ∈ q, x.1 < N) → (∀ e ∈ l, e.2 < N) → ((addW q w l).map (·.1)).Nodup ∧ (∀ x ∈ addW q w l, x.1 < N) ∧ q.length ≤ (addW q w l).length
  | [], q, nd, h, _ => ⟨nd, h, Nat.le_refl _⟩
  | e :: l, q, nd, h, hl => by
    have hl' := fun e' he => hl e' (List.mem_cons_of_mem _ he)
    show ((addW (if e.2 ∈ q.map (·.1) then q else q ++ [(e.2, w ++ [e.1])]) w l).map (·.1)).Nodup ∧ _
    by_cases c : e.2 ∈ q.map (·.1)
    · rw [if_pos c]
      have z := addW_ok (w := w) nd h hl'
      refine ⟨z.1, ?_, ?_⟩
      · show ∀ x ∈ addW (if e.2 ∈ q.map (·.1) then q else _) w l, x.1 < N
        rw [if_pos c]
        exact z.2.1
      · show q.length ≤ (addW (if e.2 ∈ q.map (·.1) then q else _) w l).length
        rw [if_pos c]
        exact z.2.2
    · rw [if_neg c]
      have z := addW_ok (w := w) (l := l) (q := q ++ [(e.2, w ++ [e.1])]) (by
        rw [List.map_append]
        exact List.nodup_append.mpr ⟨nd, by simp, fun a ha b hb q => c (by
          rw [List.map_cons, List.map_nil, List.mem_singleton] at hb
          have hb : b = e.2 := hb
          rw [← hb, ← q]
          exact ha)⟩) (fun x hx => (List.mem_append.mp hx).elim (h x) fun hx => by
          rw [List.mem_singleton.mp hx]
          exact hl e List.mem_cons_self) hl'
      refine ⟨z.1, ?_, ?_⟩
      · show ∀ x ∈ addW (if e.2 ∈ q.map (·.1) then q else _) w l, x.1 < N
        rw [if_neg c]
        exact z.2.1
      · show q.length ≤ (addW (if e.2 ∈ q.map (·.1) then q else _) w l).length
        rw [if_neg c]
        have := z.2.2
        rw [List.length_append] at this
        omega
/-- what the dict tells of a node: none at the first, else the node before and the sign -/
def PredAt (W : Nat) (H : Hp) (q : Wd) (w : List Str) (v : V) : Prop := (w = [] ∧ v = .non) ∨ ∃ (T tx : Addr) (x : Nat) (sg : Str) (u : List Str), w = u ++ [sg] ∧ (x, u) ∈ q ∧ v = .ref T ∧ H T = some (.tup [.ref tx, .str sg]) ∧ PrAt W H tx x
structure TraceAt (W : Nat) (H : Hp) (q : Wd) (kvs : List (List Key × V)) : Prop where
  keys : kvs.map (·.1) = q.map fun x => keyT W x.1
  pred : ∀ x ∈ q, ∃ v, valV kvs (keyT W x.1) = some v ∧ PredAt W H q x.2 v
theorem PredAt.ext {W : Nat} {H H' : Hp} {q q' : Wd} {w : List Str} {v : V} (x : ∀ t xs, H t = some (.tup xs) → H' t = some (.tup xs)) (s : ∀ y ∈ q, y ∈ q') (h : PredAt W H q w v) : PredAt W H' q' w v := by
  rcases h with h | ⟨T, tx, n, sg, u, h1, h2, h3, h4, h5⟩
  · exact .inl h
  · exact .inr ⟨T, tx, n, sg, u, h1, s _ h2, h3, x _ _ h4, x _ _ h5⟩
theorem TraceAt.ext {W : Nat} {H H' : Hp} {q : Wd} {kvs : List (List Key × V)} (x : ∀ t xs, H t = some (.tup xs) → H' t = some (.tup xs)) (h : TraceAt W H q kvs) : TraceAt W H' q kvs :=
  ⟨h.keys, fun y hy => let ⟨v, h1, h2⟩ := h.pred y hy; ⟨v, h1, h2.ext x fun _ z => z⟩⟩
def spExploredG (P : Program) (w : World) (K : PySem.W.Frag) (mg : Str → Option Value) (base : Heap) (k : Nat) : List (Str × Addr) → List Str → List (Option V) → Sp := fun cl fr ws vs H Q _ => ∃ (t0 f f2 : Addr) (F : LF) (F2 : NF) (fr1 : List Str) (ws1 : List (Option V)) (W first N : Nat) (G : Hp → Prop) (g : Gr) (m : Nat → Bool), vs = [.ref t0, .ref f, .ref f2] ∧ PrAt W H t0 first ∧
  H f = some (LamO f F) ∧ H F.c = some (CodeO F.c F.qual) ∧ SubC F.cl fr1 ws1 cl fr ws ∧ LeadLT P w K mg base k W G g N F fr1 ws1 ∧ H f2 = some (FnO f2 F2) ∧ H F2.c = some (CodeO F2.c F2.qual) ∧ F2.cl = cl ∧ IsInT P w K mg base k W G m N f2 F2 fr ws ∧ G H ∧ GrOk G g N ∧ first < N ∧
  ∀ (H' : Hp) (t b : Addr) (kvs : List (List Key × V)) (v : V), Ext H H' → H t = none → H' t = some (.tup [.ref b, v]) → H b = none → H' b = some (.dT kvs) → TraceAt W H' (searchW g m N first).1 kvs →
    (match (searchW g m N first).2 with | none => v = .non | some x => x ∈ (searchW g m N first).1 ∧ ∃ tx, v = .ref tx ∧ PrAt W H' tx x.1) → Q (.ref t) H'
/-- where the search stands -/
def ExpWG (H : Hp) (t0 fl f2 b q : Addr) (W first N : Nat) (g : Gr) (m : Nat → Bool) : Nat → L2.St → Hp → Prop := fun n σ H' => ∃ (v6 v7 v8 : Option V) (i : Nat) (Lq : Wd) (qs : List Addr) (kvs : List (List Key × V)), n = N + 1 - i ∧
  σ = [some (.ref t0), some (.ref fl), some (.ref f2), some (.ref b), some (.ref q), some (.int i), v6, v7, v8] ∧ Ext H H' ∧ H' q = some (.lst (qs.map V.ref)) ∧ Paired (fun a x => PrAt W H' a x.1) qs Lq ∧ H' b = some (.dT kvs) ∧ TraceAt W H' Lq kvs ∧
  (Lq.map (·.1)).Nodup ∧ (∀ x ∈ Lq, x.1 < N) ∧ i ≤ Lq.length ∧ bfsW g m (N + 1 - i) Lq i = searchW g m N first
theorem keyW_mem {W a : Nat} {l : Wd} : keyT W a ∈ (l.map fun x => keyT W x.1) ↔ a ∈ l.map (·.1) := by
  have e : (l.map fun x => keyT W x.1) = (l.map (·.1)).map (keyT W) := by rw [List.map_map]; rfl
  rw [e, keyT_mem]
theorem val_keyW {W : Nat} {H : Hp} {kvs : List (List Key × V)} {l : Wd} (h : TraceAt W H l kvs) (a : Nat) : (valV kvs (keyT W a)).isSome = decide (a ∈ l.map (·.1)) :=
  val_keyT (l := l.map (·.1)) (by rw [h.keys, List.map_map]; rfl) a
section
variable {P : Program} {w : World} {K : PySem.W.Frag} {mg : Str → Option Value} {base : Heap}
theorem ok_exploredG {k : Nat} {f : Addr} {fd : FuncData} (Fn : Fun K "explored" "explored" sExplored f fd) (zn : mg "len" = none) : FnV P w K mg base CX0 (k + 1) f fd ["first", "leads", "is_goal"] (spExploredG P w K mg base k) := by
  refine Sl.Fun.okV Fn scExplored (fun cl fr ws vs H Q E h => ?_) (fun A0 outer s H vs cl fr ws Q E hr C h => ?_)
  · obtain ⟨t0, f, f2, F, F2, fr1, ws1, W, first, N, G, g, m, rfl, _⟩ := h
    rfl
  · obtain ⟨t0, fl, f2, F, F2, fr1, ws1, W, first, N, G, g, m, rfl, ht0, hf, hc, sub, LL, hf2, hc2, ecl2, LI, hG, gk, fN, kk⟩ := h
    obtain ⟨y, spF, LF, imp⟩ := LL.ok
    obtain ⟨y2, spF2, LF2, imp2⟩ := LI.ok
    have hu := hu_of hr
    have hu64 := hr.units
    have C1 := (C.part sub).at_
    have C2 : CellsAt F2.cl fr ws (cxOf CX0 P w K mg base nExplored "explored" (defScope sExplored) f fd.code A0 outer s H E).s_0.heap (cxOf CX0 P w K mg base nExplored "explored" (defScope sExplored) f fd.code A0 outer s H E).H_0 := by
      rw [ecl2]
      exact C.at_
    refine ⟨_, pss_cons (ps_set (i := 3) scExplored.nd rfl (.inl rfl) (pe_dispT hu64 (pps_cons (pv 0) pe_non pps_nil) (by rfl) (by rfl) (fun z => by cases z) (by decide)))
      (pss_cons (ps_set (i := 4) scExplored.nd rfl (.inl rfl) (pe_lst (pa_cons (pv 0) pa_nil)))
      (pss_cons (ps_set (i := 5) scExplored.nd rfl (.inl rfl) pe_int)
      (pss_cons (ps_while (passes_of rfl) (pt_cmpR op_lt (pv 5) (pe_callB call_len_seq (by rfl) zn PySem.boot_len (pa_cons (pv 4) pa_nil)) (nomark _))
        (pss_cons (ps_set (i := 6) scExplored.nd rfl (.inl rfl) (pe_ix ix_list (pv 4) (pv 5) (fun _ _ => rfl)))
        (pss_cons (ps_if (pt_val (pe_callD (E := fun _ _ _ => False) (i := 2) LF2 (fun pins σ H s I => cells_later C2 rfl I) hr (Nat.le_refl _) pass0 rfl (.inl rfl) (pa_cons (pv 6) pa_nil))) (pss_one (ps_ret (pe_tup (pa_cons (pv 3) (pa_cons (pv 6) pa_nil))))) pss_nil)
        (pss_cons (ps_for (passes_of rfl) rfl (pi_list (pe_callL (E := fun _ _ _ => False) (i := 1) LF (fun pins σ H s I => cells_later C1 rfl I) hr (Nat.le_refl _) pass0 rfl (.inl rfl) (pa_cons (pv 6) pa_nil))) (pg_tup (by rfl) (pgs_cons (pg_name (i := 7) scExplored.nd rfl (.inl rfl)) (pgs_cons (pg_name (i := 8) scExplored.nd rfl (.inl rfl)) pgs_nil)))
          (pss_one (ps_if (pt_cmp (pc_dnotin hu (pv 8) (pv 3))) (pss_cons (ps_dput hu (pv 3) (pv 8) (pe_tup (pa_cons (pv 6) (pa_cons (pv 7) pa_nil))) rfl) (pss_one (ps_expr (pe_bm PySem.F.plainAttrs_list PySem.F.slot_list_append PySem.F.type_list_append mt_append (pv 4) (pa_cons (pv 8) pa_nil))))) pss_nil)))
        (pss_one (ps_aug (i := 5) scExplored.nd rfl (.inl rfl) pe_int ip_add))))))
      (pss_one (ps_ret (pe_tup (pa_cons (pv 3) (pa_cons pe_non pa_nil)))))))), ?_⟩
    have sz1 : (1 : Nat) ≤ sizeLine := by decide
    have sz2 : (2 : Nat) ≤ sizeLine := by decide
    refine fun b nb => ⟨_, rfl, upd_same, keyT W first, t0, V.non, rfl, (Ext.new nb _ _ ht0), ?_⟩
    have x1 : Ext H (upd (upd H b (.dT [])) b (.dT [(keyT W first, V.non)])) := fun a o e => by
      rw [upd_ne (ne_of_none e nb), upd_ne (ne_of_none e nb)]
      exact e
    have h1 : (upd (upd H b (.dT [])) b (.dT [(keyT W first, V.non)])) b = some (.dT [(keyT W first, V.non)]) := upd_same
    generalize upd (upd H b (.dT [])) b (.dT [(keyT W first, V.non)]) = H1 at x1 h1 ⊢
    refine ⟨_, rfl, sz1, fun q nq => ?_⟩
    have x2 := Ext.new nq (o := .lst [V.ref t0])
    have h2 : (upd H1 q (.lst [V.ref t0])) q = some (.lst (([t0] : List Addr).map V.ref)) := upd_same
    have nqH := x1.free nq
    have nbq : b ≠ q := ne_of_none h1 nq
    have hb2 := x2 _ _ h1
    have x02 := x1.trans x2
    generalize upd H1 q (.lst [V.ref t0]) = H2 at x02 h2 hb2 ⊢
    have tr0 : TraceAt W H2 [(first, [])] [(keyT W first, V.non)] := ⟨rfl, fun x hx => by
      rw [List.mem_singleton.mp hx]
      exact ⟨_, valV_pos rfl, .inl ⟨rfl, rfl⟩⟩⟩
    refine ⟨ExpWG H t0 fl f2 b q W first N g m, ⟨_, none, none, none, 0, [(first, [])], [t0], _, rfl, rfl, x02, h2, .cons (x02 _ _ ht0) .nil, hb2, tr0, by simp, by simpa using fN, by simp, rfl⟩, ?_⟩
    rintro n σ H3 ⟨v6, v7, v8, i, Lq, qs, kvs, rfl, rfl, x3, hq, hqs, hb, tr, nd, lt, le, run⟩
    have lN : Lq.length ≤ N := by
      have := nodup_len (N := N) nd fun x hx => by
        obtain ⟨y, hy, rfl⟩ := List.mem_map.mp hx
        exact lt y hy
      rwa [List.length_map] at this
    have lqs : qs.length = Lq.length := Paired.length hqs
    have n100 := gk.n
    refine ⟨_, rfl, _, rfl, q, _, rfl, .inl (SqL.of hq), _, _, rfl, rfl, _, rfl, ?_⟩
    rw [List.length_map, lqs]
    refine ite2 (fun c => ?_) (fun c => ?_)
    · have c : i < Lq.length := by have := of_decide_eq_true c; omega
      obtain ⟨x, hx⟩ : ∃ x, Lq[i]? = some x := ⟨Lq[i], List.getElem?_eq_getElem c⟩
      have hxm := List.mem_of_getElem? hx
      have xN := lt x hxm
      obtain ⟨tx, htx, hprx⟩ := paired_at hqs hx
      rw [show N + 1 - i = (N - i) + 1 by omega, bfsW_go hx] at run
      refine ⟨ExpWG H t0 fl f2 b q W first N g m (N - i), fun σ' H' h => ⟨_, by omega, h⟩, ?_⟩
      refine ⟨_, rfl, _, rfl, q, _, _, .ref tx, rfl, rfl, SqL.of hq, atI_nat (by rw [List.getElem?_map, htx]; rfl), ?_⟩
      refine ⟨rfl, x3 _ _ hf2, _, rfl, x3 _ _ hf2, x3 _ _ hc2, imp2 _ _ _ _ ⟨tx, x.1, rfl, hprx, xN, gk.st _ _ (ExtN.of x3) hG, m x.1, rfl, ?_⟩⟩
      cases hm : m x.1 with
      | true =>
        rw [hm, if_pos rfl] at run
        refine iteT ⟨_, rfl, _, rfl, sz2, fun t nt => ?_⟩
        have y := Ext.new nt (o := .tup [V.ref b, V.ref tx])
        refine kk _ t b kvs (.ref tx) (x3.trans y) (x3.free nt) upd_same nb (y _ _ hb) ?_ ?_
        · rw [← run]
          exact tr.ext fun t xs h => y _ _ h
        · rw [← run]
          exact ⟨hxm, tx, rfl, y _ _ hprx⟩
      | false =>
        rw [hm, if_neg Bool.false_ne_true] at run
        refine iteF ?_
        refine ⟨fl, rfl, x3 _ _ hf, _, rfl, x3 _ _ hf, x3 _ _ hc, imp _ _ _ _ ⟨tx, x.1, rfl, hprx, xN, gk.st _ _ (ExtN.of x3) hG, fun H4 p ts x4 np hp hts => ?_⟩⟩
        have x04 := x3.trans x4
        have gl := gk.lt x.1 xN
        have g100 := gk.le x.1
        refine ⟨p, rfl, ⟨_, SqL.of hp⟩, ?_⟩
        refine for_it (walk_list (xs := ts.map V.ref)) (fun j σ H' => ∃ v7 v8 qs kvs, σ = [some (.ref t0), some (.ref fl), some (.ref f2), some (.ref b), some (.ref q), some (.int i), some (.ref tx), v7, v8] ∧ Ext H H' ∧ H' p = some (.lst (ts.map V.ref)) ∧ LeadsT W H' ts (g x.1) ∧ H' tx = some (.tup (prT W x.1)) ∧
            H' q = some (.lst (qs.map V.ref)) ∧ Paired (fun a y => PrAt W H' a y.1) qs (addW Lq x.2 ((g x.1).take j)) ∧ H' b = some (.dT kvs) ∧ TraceAt W H' (addW Lq x.2 ((g x.1).take j)) kvs ∧ x ∈ addW Lq x.2 ((g x.1).take j))
          ⟨v7, v8, qs, kvs, rfl, x04, hp, hts, x4 _ _ hprx, x4 _ _ hq, Paired.mapP hqs fun a n h => x4 _ _ h, x4 _ _ hb, tr.ext fun t xs h => x4 _ _ h, hxm⟩ (fun j σ H' _ ⟨_, _, _, _, _, _, h, _⟩ => SqL.of h) ?_ ?_
        · rintro j y σ H5 H6 hj ⟨v7, v8, qs5, kvs, rfl, x5, hp5, ht5, htx5, hq5, hqs5, hb5, tr5, xm5⟩ ⟨rfl, hy⟩
          obtain ⟨t, htj, rfl⟩ := at_map hy
          obtain ⟨e, ea, he, hte, hpe⟩ := ht5.at_ htj
          have ha := gl e (List.mem_of_getElem? he)
          have ok5 := addW_ok (N := N) (w := x.2) nd lt (l := (g x.1).take j) fun e he => gl e (List.mem_of_mem_take he)
          have l5 : (addW Lq x.2 ((g x.1).take j)).length ≤ N := by
            have := nodup_len (N := N) ok5.1 fun z hz => by
              obtain ⟨y, hy, rfl⟩ := List.mem_map.mp hz
              exact ok5.2.1 y hy
            rwa [List.length_map] at this
          have lk5 : kvs.length = (addW Lq x.2 ((g x.1).take j)).length := by
            have := congrArg List.length tr5.keys
            rwa [List.length_map, List.length_map] at this
          have lq5 : qs5.length = (addW Lq x.2 ((g x.1).take j)).length := Paired.length hqs5
          refine ⟨t, _, rfl, SqT.of hte, rfl, _, _, rfl, _, _, rfl, rfl, ?_⟩
          refine ⟨_, rfl, _, rfl, b, _, rfl, DGet.t (k := keyT W e.2) hb5 hpe, _, rfl, ?_⟩
          rw [val_keyW tr5]
          have en : addW Lq x.2 ((g x.1).take (j + 1)) = if e.2 ∈ (addW Lq x.2 ((g x.1).take j)).map (·.1) then addW Lq x.2 ((g x.1).take j) else addW Lq x.2 ((g x.1).take j) ++ [(e.2, x.2 ++ [e.1])] := by
            rw [take_more he, addW_append, addW_one]
          by_cases ce : e.2 ∈ (addW Lq x.2 ((g x.1).take j)).map (·.1)
          · rw [decide_eq_true ce]
            rw [if_pos ce] at en
            refine iteF ⟨_, _, qs5, kvs, rfl, x5, hp5, ht5, htx5, hq5, ?_, hb5, ?_, ?_⟩
            · rw [en]
              exact hqs5
            · rw [en]
              exact tr5
            · rw [en]
              exact xm5
          · rw [decide_eq_false ce]
            rw [if_neg ce] at en
            refine iteT ⟨_, rfl, _, rfl, sz2, fun T nT => ⟨_, rfl, _, rfl, b, _, rfl, DPut.t (k := keyT W e.2) (Ext.new nT _ _ hb5) (Ext.new nT _ _ hpe) (small_l (by omega)), ?_⟩⟩
            have nv : valV kvs (keyT W e.2) = none := by
              have := val_keyW tr5 e.2
              rw [decide_eq_false ce] at this
              cases z : valV kvs (keyT W e.2) with
              | none => rfl
              | some v =>
                rw [z] at this
                cases this
            have bT : b ≠ T := ne_of_none hb5 nT
            have keep : ∀ c o, H6 c = some o → c ≠ b → (upd (upd H6 T (.tup [.ref tx, .str e.1])) b (.dT (putK kvs (keyT W e.2) (.ref T)))) c = some o := fun c o h n => by
              rw [upd_ne n]
              exact Ext.new nT _ _ h
            have tk : ∀ t xs, H6 t = some (.tup xs) → (upd (upd H6 T (.tup [.ref tx, .str e.1])) b (.dT (putK kvs (keyT W e.2) (.ref T)))) t = some (.tup xs) := fun t xs h => keep t _ h (ne_of h hb5 (by intro z; cases z))
            have hb7 : (upd (upd H6 T (.tup [.ref tx, .str e.1])) b (.dT (putK kvs (keyT W e.2) (.ref T)))) b = some (.dT (putK kvs (keyT W e.2) (.ref T))) := upd_same
            have hT7 : (upd (upd H6 T (.tup [.ref tx, .str e.1])) b (.dT (putK kvs (keyT W e.2) (.ref T)))) T = some (.tup [.ref tx, .str e.1]) := by
              rw [upd_ne bT.symm]
              exact upd_same
            have hq7 := keep _ _ hq5 nbq.symm
            have hp7 := keep _ _ hp5 (ne_of hp5 hb5 (by intro z; cases z))
            have x7 : Ext H (upd (upd H6 T (.tup [.ref tx, .str e.1])) b (.dT (putK kvs (keyT W e.2) (.ref T)))) := fun c o h => keep _ _ (x5 _ _ h) (ne_of_none h nb)
            have t7 := ht5.ext tk
            have tx7 := tk _ _ htx5
            have pe7 := tk _ _ hpe
            have qs7 := Paired.mapP hqs5 fun a n h => tk _ _ h
            have tr7 := tr5.ext tk
            generalize upd (upd H6 T (.tup [.ref tx, .str e.1])) b (.dT (putK kvs (keyT W e.2) (.ref T))) = H7 at hb7 hT7 hq7 hp7 x7 t7 tx7 pe7 qs7 tr7 ⊢
            refine ⟨_, rfl, .inl ⟨rfl, _, SqL.of hq7⟩, _, rfl, q, _, _, rfl, rfl, hq7, by rw [List.length_map]; exact small_l (by omega), ?_⟩
            have npq : p ≠ q := fun z => by
              rw [z, hq] at np
              cases np
            have tq : ∀ t xs, H7 t = some (.tup xs) → (upd H7 q (.lst (qs5.map V.ref ++ [V.ref ea]))) t = some (.tup xs) := fun t xs h => by
              rw [upd_ne (ne_of h hq7 (by intro z; cases z))]
              exact h
            refine ⟨_, _, qs5 ++ [ea], putK kvs (keyT W e.2) (.ref T), rfl, fun c o h => ?_, ?_, t7.ext tq, tq _ _ tx7, ?_, ?_, ?_, ?_, ?_⟩
            · rw [upd_ne (ne_of_none h nqH)]
              exact x7 _ _ h
            · rw [upd_ne npq]
              exact hp7
            · rw [upd_same, List.map_append]
              rfl
            · rw [en]
              exact Paired.snoc (Paired.mapP qs7 fun a n h => tq _ _ h) (tq _ _ pe7)
            · rw [upd_ne nbq]
              exact hb7
            · rw [en]
              have tr8 := tr7.ext tq
              refine ⟨?_, fun z hz => ?_⟩
              · rw [putK_new _ nv, List.map_append, List.map_append, tr5.keys]
                rfl
              · rw [valV_put]
                rcases List.mem_append.mp hz with hz | hz
                · have ne : ¬ keyT W z.1 = keyT W e.2 := fun h => ce (by
                    rw [← keyT_inj h]
                    exact List.mem_map.mpr ⟨z, hz, rfl⟩)
                  rw [if_neg ne]
                  obtain ⟨v, e1, e2⟩ := tr8.pred z hz
                  exact ⟨v, e1, e2.ext (fun _ _ h => h) fun y hy => List.mem_append.mpr (.inl hy)⟩
                · rw [List.mem_singleton.mp hz, if_pos rfl]
                  exact ⟨_, rfl, .inr ⟨T, tx, x.1, e.1, x.2, rfl, List.mem_append.mpr (.inl xm5), rfl, tq _ _ hT7, tq _ _ tx7⟩⟩
            · rw [en]
              exact List.mem_append.mpr (.inl xm5)
        · rintro σ H5 ⟨v7, v8, qs5, kvs, rfl, x5, hp5, ht5, htx5, hq5, hqs5, hb5, tr5, xm5⟩
          rw [List.length_map, hts.len, List.take_length] at hqs5 tr5 xm5
          have ok5 := addW_ok (N := N) (w := x.2) nd lt (l := g x.1) gl
          refine ⟨_, rfl, _, _, rfl, rfl, ?_⟩
          refine ⟨some (.ref tx), v7, v8, i + 1, addW Lq x.2 (g x.1), qs5, kvs, by omega, ?_, x5, hq5, hqs5, hb5, tr5, ok5.1, ok5.2.1, by have := ok5.2.2; omega, ?_⟩
          · rfl
          · rw [show N + 1 - (i + 1) = N - i by omega]
            exact run
    · have c : Lq.length ≤ i := by
        have := of_decide_eq_false (Bool.not_eq_true _ ▸ c)
        omega
      rw [bfsW_end c] at run
      refine ⟨_, rfl, sz2, fun t nt => ?_⟩
      have y := Ext.new nt (o := .tup [V.ref b, V.non])
      refine kk _ t b kvs .non (x3.trans y) (x3.free nt) upd_same nb (y _ _ hb) ?_ ?_
      · rw [← run]
        exact tr.ext fun t xs h => y _ _ h
      · rw [← run]
end
end Sl
/-! ## M7 -/
set_option Elab.async false
set_option linter.all false
set_option maxRecDepth 100000
set_option maxHeartbeats 4000000
/-! what the search with a goal finds -/
namespace Sl
open PySem PySem.Spec PyProof.Rows L2
theorem addW_cons (q : Wd) (w : List Str) (e : Str × Nat) (l : List (Str × Nat)) : addW q w (e :: l) = addW (if e.2 ∈ q.map (·.1) then q else q ++ [(e.2, w ++ [e.1])]) w l := rfl
theorem addW_pre (w : List Str) : ∀ (l : List (Str × Nat)) (q : Wd), q <+: addW q w l
  | [], q => List.prefix_refl _
  | e :: l, q => by
    rw [addW_cons]
    by_cases c : e.2 ∈ q.map (·.1)
    · rw [if_pos c]
      exact addW_pre w l q
    · rw [if_neg c]
      exact (List.prefix_append _ _).trans (addW_pre w l _)
theorem addW_has (w : List Str) : ∀ (l : List (Str × Nat)) (q : Wd), ∀ e ∈ l, e.2 ∈ (addW q w l).map (·.1)
  | [], _, e, h => nomatch h
  | a :: l, q, e, h => by
    rw [addW_cons]
    rcases List.mem_cons.mp h with rfl | h
    · by_cases c : e.2 ∈ q.map (·.1)
      · rw [if_pos c]
        exact ((addW_pre w l q).map (·.1)).subset c
      · rw [if_neg c]
        refine ((addW_pre w l _).map (·.1)).subset ?_
        rw [List.map_append]
        exact List.mem_append.mpr (.inr (by simp))
    · exact addW_has w l _ e h
theorem addW_new (w : List Str) : ∀ (l : List (Str × Nat)) (q : Wd), ∀ x ∈ addW q w l, x ∈ q ∨ ∃ e ∈ l, x = (e.2, w ++ [e.1])
  | [], _, x, h => .inl h
  | a :: l, q, x, h => by
    rw [addW_cons] at h
    rcases addW_new w l _ x h with h | ⟨e, he, rfl⟩
    · by_cases c : a.2 ∈ q.map (·.1)
      · rw [if_pos c] at h
        exact .inl h
      · rw [if_neg c] at h
        rcases List.mem_append.mp h with h | h
        · exact .inl h
        · exact .inr ⟨a, List.mem_cons_self, List.mem_singleton.mp h⟩
    · exact .inr ⟨e, List.mem_cons_of_mem _ he, rfl⟩
/-- every word leads to its node -/
def WInv (sg : List Str) (δ : Nat → Str → Nat) (first : Nat) (q : Wd) : Prop := ∀ x ∈ q, run δ first x.2 = x.1 ∧ ∀ c ∈ x.2, c ∈ sg
section
variable {sg : List Str} {δ : Nat → Str → Nat} {m : Nat → Bool} {N first : Nat}
theorem WInv.add {q : Wd} {x : Nat × List Str} (h : WInv sg δ first q) (hx : x ∈ q) : WInv sg δ first (addW q x.2 (gOf sg δ x.1)) := fun y hy => by
  rcases addW_new _ _ _ y hy with hy | ⟨e, he, rfl⟩
  · exact h y hy
  · obtain ⟨c, hc, rfl⟩ := List.mem_map.mp he
    obtain ⟨h1, h2⟩ := h x hx
    refine ⟨?_, fun d hd => ?_⟩
    · rw [run_app, h1]
      rfl
    · rcases List.mem_append.mp hd with h | h
      · exact h2 d h
      · rw [List.mem_singleton.mp h]
        exact hc
theorem bfsW_inv (hlt : ∀ n, n < N → ∀ e ∈ gOf sg δ n, e.2 < N) : ∀ (n i : Nat) (q : Wd), WInv sg δ first q → (q.map (·.1)).Nodup → (∀ x ∈ q, x.1 < N) → i ≤ q.length → N + 1 ≤ n + i → (∀ j x, j < i → q[j]? = some x → m x.1 = false ∧ ∀ e ∈ gOf sg δ x.1, e.2 ∈ q.map (·.1)) →
    WInv sg δ first (bfsW (gOf sg δ) m n q i).1 ∧ (∀ x ∈ q, x ∈ (bfsW (gOf sg δ) m n q i).1) ∧ (∀ y, (bfsW (gOf sg δ) m n q i).2 = some y → m y.1 = true ∧ y ∈ (bfsW (gOf sg δ) m n q i).1) ∧
    ((bfsW (gOf sg δ) m n q i).2 = none → ∀ x ∈ (bfsW (gOf sg δ) m n q i).1, m x.1 = false ∧ ∀ e ∈ gOf sg δ x.1, e.2 ∈ (bfsW (gOf sg δ) m n q i).1.map (·.1))
  | 0, i, q, _, nd, lt, le, hn, _ => by
    have := nodup_len (N := N) nd fun y hy => by
      obtain ⟨x, hx, rfl⟩ := List.mem_map.mp hy
      exact lt x hx
    rw [List.length_map] at this
    omega
  | n + 1, i, q, wi, nd, lt, le, hn, cl => by
    by_cases c : i < q.length
    · obtain ⟨x, hx⟩ : ∃ x, q[i]? = some x := ⟨_, List.getElem?_eq_getElem c⟩
      have hxm := List.mem_of_getElem? hx
      rw [bfsW_go hx]
      cases hm : m x.1 with
      | true =>
        rw [if_pos rfl]
        refine ⟨wi, fun _ h => h, fun y hy => ?_, fun h => nomatch h⟩
        obtain rfl := Option.some.inj hy
        exact ⟨hm, hxm⟩
      | false =>
        rw [if_neg Bool.false_ne_true]
        have ok := addW_ok (w := x.2) nd lt (hlt x.1 (lt x hxm))
        have pre := addW_pre x.2 (gOf sg δ x.1) q
        have r := bfsW_inv hlt n (i + 1) (addW q x.2 (gOf sg δ x.1)) (wi.add hxm) ok.1 ok.2.1 (by have := ok.2.2; omega) (by omega) fun j y hj hy => by
          have hq : q[j]? = some y := by
            obtain ⟨t, ht⟩ := pre
            rw [← ht, List.getElem?_append_left (by omega)] at hy
            exact hy
          by_cases e : j = i
          · subst e
            rw [hx] at hq
            obtain rfl := Option.some.inj hq
            exact ⟨hm, addW_has _ _ _⟩
          · obtain ⟨h1, h2⟩ := cl j y (by omega) hq
            exact ⟨h1, fun e he => (pre.map (·.1)).subset (h2 e he)⟩
        exact ⟨r.1, fun y hy => r.2.1 y (pre.subset hy), r.2.2.1, r.2.2.2⟩
    · have c : q.length ≤ i := by omega
      rw [bfsW_end c]
      refine ⟨wi, fun _ h => h, fun y hy => (nomatch hy), fun _ x hx => ?_⟩
      have hx : x ∈ q := hx
      obtain ⟨j, hj⟩ := List.getElem?_of_mem hx
      exact cl j x (by have := (List.getElem?_eq_some_iff.mp hj).1; omega) hj
theorem search_inv (hlt : ∀ n, n < N → ∀ e ∈ gOf sg δ n, e.2 < N) (fN : first < N) : WInv sg δ first (searchW (gOf sg δ) m N first).1 ∧ (∀ x ∈ ([(first, [])] : Wd), x ∈ (searchW (gOf sg δ) m N first).1) ∧ (∀ y, (searchW (gOf sg δ) m N first).2 = some y → m y.1 = true ∧ y ∈ (searchW (gOf sg δ) m N first).1) ∧
    ((searchW (gOf sg δ) m N first).2 = none → ∀ x ∈ (searchW (gOf sg δ) m N first).1, m x.1 = false ∧ ∀ e ∈ gOf sg δ x.1, e.2 ∈ (searchW (gOf sg δ) m N first).1.map (·.1)) := bfsW_inv (m := m) (first := first) hlt (N + 1) 0 [(first, [])] (fun x hx => by rw [List.mem_singleton.mp hx]; exact ⟨rfl, fun _ h => nomatch h⟩) (by simp) (by simpa using fN) (Nat.zero_le _) (by omega) (fun _ _ h => absurd h (Nat.not_lt_zero _))
/-- a goal that is found is one, and its word leads there -/
theorem search_some (hlt : ∀ n, n < N → ∀ e ∈ gOf sg δ n, e.2 < N) (fN : first < N) {y : Nat × List Str} (h : (searchW (gOf sg δ) m N first).2 = some y) : m (run δ first y.2) = true ∧ (∀ c ∈ y.2, c ∈ sg) ∧ run δ first y.2 = y.1 := by
  obtain ⟨i1, _, i3, _⟩ := search_inv (m := m) hlt fN
  obtain ⟨h1, h2⟩ := i3 y h
  obtain ⟨h3, h4⟩ := i1 y h2
  exact ⟨by rw [h3]; exact h1, h4, h3⟩
/-- none is found: no word leads to a goal -/
theorem search_none (hlt : ∀ n, n < N → ∀ e ∈ gOf sg δ n, e.2 < N) (fN : first < N) (h : (searchW (gOf sg δ) m N first).2 = none) (w : List Str) (hw : ∀ c ∈ w, c ∈ sg) : m (run δ first w) = false := by
  obtain ⟨_, i2, _, i4⟩ := search_inv (m := m) hlt fN
  have cl := i4 h
  have all : ∀ (w : List Str) (n : Nat), n ∈ (searchW (gOf sg δ) m N first).1.map (·.1) → (∀ c ∈ w, c ∈ sg) → run δ n w ∈ (searchW (gOf sg δ) m N first).1.map (·.1) := fun w => by
    induction w with
    | nil => exact fun n hn _ => hn
    | cons c w ih =>
      intro n hn hw
      rw [run_cons]
      obtain ⟨x, hx, rfl⟩ := List.mem_map.mp hn
      exact ih _ ((cl x hx).2 (c, δ x.1 c) (List.mem_map.mpr ⟨c, hw c List.mem_cons_self, rfl⟩)) fun c' h' => hw c' (List.mem_cons_of_mem _ h')
  have f0 : first ∈ (searchW (gOf sg δ) m N first).1.map (·.1) := List.mem_map.mpr ⟨_, i2 (first, []) List.mem_cons_self, rfl⟩
  obtain ⟨x, hx, e⟩ := List.mem_map.mp (all w first f0 hw)
  rw [← e]
  exact (cl x hx).1
end
end Sl
namespace Sl
open PySem PySem.Spec PyProof.Rows L2
/-- a word is no longer than the place of its node -/
def WLen (q : Wd) : Prop := ∀ (j : Nat) (y : Nat × List Str), q[j]? = some y → y.2.length ≤ j
theorem addW_len {w : List Str} : ∀ (l : List (Str × Nat)) (q : Wd), WLen q → w.length + 1 ≤ q.length → WLen (addW q w l)
  | [], q, h, _ => h
  | e :: l, q, h, hw => by
    rw [addW_cons]
    by_cases c : e.2 ∈ q.map (·.1)
    · rw [if_pos c]
      exact addW_len l q h hw
    · rw [if_neg c]
      refine addW_len l _ (fun j y hy => ?_) (by rw [List.length_append]; omega)
      by_cases cj : j < q.length
      · rw [List.getElem?_append_left cj] at hy
        exact h j y hy
      · have hl := (List.getElem?_eq_some_iff.mp hy).1
        rw [List.length_append] at hl
        have hl : j < q.length + 1 := hl
        obtain rfl : j = q.length := by omega
        rw [List.getElem?_append_right (Nat.le_refl _), Nat.sub_self] at hy
        obtain rfl := Option.some.inj hy
        show (w ++ [e.1]).length ≤ _
        rw [List.length_append]
        exact hw
theorem bfsW_len {g : Gr} {m : Nat → Bool} : ∀ (n i : Nat) (q : Wd), WLen q → WLen (bfsW g m n q i).1
  | 0, _, _, h => h
  | n + 1, i, q, h => by
    by_cases c : i < q.length
    · obtain ⟨x, hx⟩ : ∃ x, q[i]? = some x := ⟨_, List.getElem?_eq_getElem c⟩
      rw [bfsW_go hx]
      cases hm : m x.1 with
      | true =>
        rw [if_pos rfl]
        exact h
      | false =>
        rw [if_neg Bool.false_ne_true]
        exact bfsW_len n (i + 1) _ (addW_len _ _ h (by have := h i x hx; omega))
    · rw [bfsW_end (by omega)]
      exact h
theorem bfsW_nd {g : Gr} {m : Nat → Bool} {N : Nat} (hlt : ∀ n, n < N → ∀ e ∈ g n, e.2 < N) : ∀ (n i : Nat) (q : Wd), (q.map (·.1)).Nodup → (∀ x ∈ q, x.1 < N) → ((bfsW g m n q i).1.map (·.1)).Nodup ∧ ∀ x ∈ (bfsW g m n q i).1, x.1 < N
  | 0, _, _, h1, h2 => ⟨h1, h2⟩
  | n + 1, i, q, h1, h2 => by
    by_cases c : i < q.length
    · obtain ⟨x, hx⟩ : ∃ x, q[i]? = some x := ⟨_, List.getElem?_eq_getElem c⟩
      rw [bfsW_go hx]
      cases hm : m x.1 with
      | true =>
        rw [if_pos rfl]
        exact ⟨h1, h2⟩
      | false =>
        rw [if_neg Bool.false_ne_true]
        have ok := addW_ok (w := x.2) h1 h2 (hlt x.1 (h2 x (List.mem_of_getElem? hx)))
        exact bfsW_nd hlt n (i + 1) _ ok.1 ok.2.1
    · rw [bfsW_end (by omega)]
      exact ⟨h1, h2⟩
/-- the nodes are different, the words short -/
theorem search_nd {g : Gr} {m : Nat → Bool} {N first : Nat} (hlt : ∀ n, n < N → ∀ e ∈ g n, e.2 < N) (fN : first < N) : ((searchW g m N first).1.map (·.1)).Nodup ∧ ∀ x ∈ (searchW g m N first).1, x.2.length < N := by
  obtain ⟨h1, h2⟩ := bfsW_nd (m := m) hlt (N + 1) 0 [(first, [])] (by simp) (by simpa using fN)
  have h3 : WLen (searchW g m N first).1 := bfsW_len (N + 1) 0 [(first, [])] fun j y hy => by
    cases j with
    | zero =>
      obtain rfl := Option.some.inj hy
      exact Nat.le_refl _
    | succ j => cases j <;> cases hy
  have len := nodup_len (N := N) h1 fun y hy => by
    obtain ⟨x, hx, rfl⟩ := List.mem_map.mp hy
    exact h2 x hx
  rw [List.length_map] at len
  refine ⟨h1, fun x hx => ?_⟩
  obtain ⟨j, hj⟩ := List.getElem?_of_mem hx
  have a := h3 j x hj
  have b := (List.getElem?_eq_some_iff.mp hj).1
  have len : (searchW g m N first).1.length ≤ N := len
  omega
end Sl
/-! ## N1 -/
set_option Elab.async false
set_option linter.all false
set_option maxRecDepth 100000
set_option maxHeartbeats 4000000
/-! texts of up to four signs tell five states apart; the law's own least machine -/
namespace Sl
open PySem PySem.Spec PyProof.Rows L2
section
variable {sg : List Str} {δ : Nat → Str → Nat} {mem : List Nat} {N : Nat}
/-- the words of at most k signs tell n and m not apart -/
def EqvK (sg : List Str) (δ : Nat → Str → Nat) (mem : List Nat) (k n m : Nat) : Prop := ∀ w : List Str, w.length ≤ k → (∀ c ∈ w, c ∈ sg) → (run δ n w ∈ mem ↔ run δ m w ∈ mem)
def EqvA (sg : List Str) (δ : Nat → Str → Nat) (mem : List Nat) (n m : Nat) : Prop := ∀ w : List Str, (∀ c ∈ w, c ∈ sg) → (run δ n w ∈ mem ↔ run δ m w ∈ mem)
theorem EqvK.symm {k n m : Nat} (h : EqvK sg δ mem k n m) : EqvK sg δ mem k m n := fun w l hw => (h w l hw).symm
theorem EqvK.trans {k n m o : Nat} (h : EqvK sg δ mem k n m) (i : EqvK sg δ mem k m o) : EqvK sg δ mem k n o := fun w l hw => (h w l hw).trans (i w l hw)
theorem EqvK.le {k j n m : Nat} (h : EqvK sg δ mem k n m) (i : j ≤ k) : EqvK sg δ mem j n m := fun w l hw => h w (Nat.le_trans l i) hw
theorem EqvK.step {k n m : Nat} {c : Str} (h : EqvK sg δ mem (k + 1) n m) (hc : c ∈ sg) : EqvK sg δ mem k (δ n c) (δ m c) := fun w l hw => by
  have := h (c :: w) (Nat.succ_le_succ l) fun c' h' => (List.mem_cons.mp h').elim (fun e => e ▸ hc) (hw c')
  rwa [run_cons, run_cons] at this
def StableK (sg : List Str) (δ : Nat → Str → Nat) (mem : List Nat) (N k : Nat) : Prop := ∀ n, n < N → ∀ m, m < N → EqvK sg δ mem k n m → EqvK sg δ mem (k + 1) n m
theorem StableK.next {k : Nat} (lt : ∀ n, n < N → ∀ c ∈ sg, δ n c < N) (h : StableK sg δ mem N k) : StableK sg δ mem N (k + 1) := fun n hn m hm e w l hw => by
  cases w with
  | nil => exact e [] (Nat.zero_le _) hw
  | cons c w =>
    have hc := hw c List.mem_cons_self
    rw [run_cons, run_cons]
    exact h _ (lt n hn c hc) _ (lt m hm c hc) (e.step hc) w (Nat.le_of_succ_le_succ l) fun c' h' => hw c' (List.mem_cons_of_mem _ h')
theorem StableK.all {k : Nat} (lt : ∀ n, n < N → ∀ c ∈ sg, δ n c < N) (h : StableK sg δ mem N k) {n m : Nat} (hn : n < N) (hm : m < N) (e : EqvK sg δ mem k n m) : EqvA sg δ mem n m := by
  have st : ∀ j, StableK sg δ mem N (k + j) := fun j => by
    induction j with
    | zero => exact h
    | succ j ih => exact ih.next lt
  have eq : ∀ j, EqvK sg δ mem (k + j) n m := fun j => by
    induction j with
    | zero => exact e
    | succ j ih => exact st j n hn m hm ih
  exact fun w hw => eq w.length w (by omega) hw
/-- as many as the length of the words, and one more, or they tell no more -/
theorem reps (N0 : 0 < N) : ∀ k, (∃ j, j < k ∧ StableK sg δ mem N j) ∨ ∃ l : List Nat, k + 1 ≤ l.length ∧ (∀ n ∈ l, n < N) ∧ l.Pairwise fun a b => ¬ EqvK sg δ mem k a b
  | 0 => .inr ⟨[0], Nat.le_refl _, fun n hn => by rw [List.mem_singleton.mp hn]; exact N0, List.pairwise_singleton _ _⟩
  | k + 1 => by
    rcases reps N0 k with ⟨j, hj, s⟩ | ⟨l, hl, lt, pw⟩
    · exact .inl ⟨j, by omega, s⟩
    · by_cases c : StableK sg δ mem N k
      · exact .inl ⟨k, by omega, c⟩
      · refine .inr ?_
        have : ∃ n m, n < N ∧ m < N ∧ EqvK sg δ mem k n m ∧ ¬ EqvK sg δ mem (k + 1) n m := Classical.byContradiction fun z => c fun n hn m hm e => Classical.byContradiction fun q => z ⟨n, m, hn, hm, e, q⟩
        obtain ⟨n, m, hn, hm, e, ne⟩ := this
        have pw1 : l.Pairwise fun a b => ¬ EqvK sg δ mem (k + 1) a b := pw.imp fun h q => h (q.le (Nat.le_succ _))
        have add : ∀ y, y < N → (∀ z ∈ l, ¬ EqvK sg δ mem (k + 1) y z) → ∃ l : List Nat, k + 1 + 1 ≤ l.length ∧ (∀ n ∈ l, n < N) ∧ l.Pairwise fun a b => ¬ EqvK sg δ mem (k + 1) a b := fun y hy hz =>
          ⟨y :: l, Nat.succ_le_succ hl, fun x hx => (List.mem_cons.mp hx).elim (fun e => e ▸ hy) (lt x), List.pairwise_cons.mpr ⟨hz, pw1⟩⟩
        by_cases q : ∃ x ∈ l, EqvK sg δ mem k x n
        · obtain ⟨x, hx, ex⟩ := q
          have other : ∀ z ∈ l, z ≠ x → ¬ EqvK sg δ mem k x z := fun z hz nz ee => by
            obtain ⟨i, hi⟩ := List.getElem?_of_mem hx
            obtain ⟨j, hj⟩ := List.getElem?_of_mem hz
            have li := (List.getElem?_eq_some_iff.mp hi)
            have lj := (List.getElem?_eq_some_iff.mp hj)
            obtain ⟨hi1, hi2⟩ := li
            obtain ⟨hj1, hj2⟩ := lj
            rcases Nat.lt_trichotomy i j with c | c | c
            · have := List.pairwise_iff_getElem.mp pw i j hi1 hj1 c
              rw [hi2, hj2] at this
              exact this ee
            · subst c
              exact nz (hj2.symm.trans hi2)
            · have := List.pairwise_iff_getElem.mp pw j i hj1 hi1 c
              rw [hi2, hj2] at this
              exact this ee.symm
          by_cases r : EqvK sg δ mem (k + 1) n x
          · refine add m hm fun z hz ez => ?_
            by_cases d : z = x
            · subst d
              exact ne (r.trans ez.symm)
            · exact other z hz d (ex.trans (e.trans (ez.le (Nat.le_succ _))))
          · refine add n hn fun z hz ez => ?_
            by_cases d : z = x
            · subst d
              exact r ez
            · exact other z hz d (ex.trans (ez.le (Nat.le_succ _)))
        · exact add n hn fun z hz ez => q ⟨z, hz, (ez.le (Nat.le_succ _)).symm⟩
theorem moore {k : Nat} (N0 : 0 < N) (N5 : N ≤ k + 1) (lt : ∀ n, n < N → ∀ c ∈ sg, δ n c < N) {n m : Nat} (hn : n < N) (hm : m < N) (e : EqvK sg δ mem k n m) : EqvA sg δ mem n m := by
  rcases reps (sg := sg) (δ := δ) (mem := mem) N0 k with ⟨j, hj, s⟩ | ⟨l, hl, lt', pw⟩
  · exact s.all lt hn hm (e.le (by omega))
  · have nd : l.Nodup := pw.imp fun h q => h (by subst q; exact fun _ _ _ => Iff.rfl)
    have all : ∀ x, x < N → x ∈ l := fun x hx => by
      refine Classical.byContradiction fun z => ?_
      have h1 := nodup_len (N := N) (q := x :: l) (List.nodup_cons.mpr ⟨z, nd⟩) fun y hy => (List.mem_cons.mp hy).elim (fun e => e ▸ hx) (lt' y)
      rw [List.length_cons] at h1
      omega
    by_cases d : n = m
    · subst d
      exact fun _ _ => Iff.rfl
    · exfalso
      obtain ⟨i, hi⟩ := List.getElem?_of_mem (all n hn)
      obtain ⟨j, hj⟩ := List.getElem?_of_mem (all m hm)
      obtain ⟨hi1, hi2⟩ := List.getElem?_eq_some_iff.mp hi
      obtain ⟨hj1, hj2⟩ := List.getElem?_eq_some_iff.mp hj
      rcases Nat.lt_trichotomy i j with c | c | c
      · have := List.pairwise_iff_getElem.mp pw i j hi1 hj1 c
        rw [hi2, hj2] at this
        exact this e
      · subst c
        exact d (hi2.symm.trans hj2)
      · have := List.pairwise_iff_getElem.mp pw j i hj1 hi1 c
        rw [hi2, hj2] at this
        exact this e.symm
/-- what the words of up to four signs tell of a state -/
def trL (sg : List Str) (δ : Nat → Str → Nat) (mem : List Nat) (n : Nat) : List Bool := (allW sg 4).map fun w => decide (run δ n w ∈ mem)
theorem tr_eqv {n m : Nat} : trL sg δ mem n = trL sg δ mem m ↔ EqvK sg δ mem 4 n m := by
  unfold trL
  rw [List.map_inj_left]
  constructor
  · exact fun h w l hw => decide_eq_decide.mp (h w (allW_mem.mpr ⟨l, hw⟩))
  · intro h w hw
    obtain ⟨l, q⟩ := allW_mem.mp hw
    exact decide_eq_decide.mpr (h w l q)
/-- where the law's search for the least machine stands: firsts F, the first k of them are done -/
structure LawSt (sg : List Str) (δ : Nat → Str → Nat) (mem : List Nat) (N : Nat) (F : List Nat) (k : Nat) : Prop where
  met : F.map (trL sg δ mem) = metL (trL sg δ mem 0 :: (F.take k).flatMap fun n => sg.map fun c => trL sg δ mem (δ n c))
  hd : ∃ t, F = 0 :: t
  lt : ∀ n ∈ F, n < N
  par : ∀ i n, F[i]? = some n → 0 < i → ∃ j m, j < i ∧ F[j]? = some m ∧ ∃ c ∈ sg, n = δ m c
def dLaw (sg : List Str) (δ : Nat → Str → Nat) (mem : List Nat) (F : List Nat) : Nat → Str → Nat := fun b c => ixL (F.map (trL sg δ mem)) (trL sg δ mem (δ (F.getD b 0) c))
def fLaw (mem F : List Nat) : List Nat := (List.range F.length).filter fun b => decide (F.getD b 0 ∈ mem)
theorem LawSt.len {F : List Nat} {k : Nat} (L : LawSt sg δ mem N F k) : F.length ≤ N := by
  have nd : F.Nodup := by
    have := metL_nodup (trL sg δ mem 0 :: (F.take k).flatMap fun n => sg.map fun c => trL sg δ mem (δ n c))
    rw [← L.met] at this
    unfold List.Nodup at this ⊢
    rw [List.pairwise_map] at this
    exact this.imp fun h e => h (by rw [e])
  exact nodup_len nd L.lt
theorem law_can {F : List Nat} (N0 : 0 < N) (N5 : N ≤ 5) (lt : ∀ n, n < N → ∀ c ∈ sg, δ n c < N) (L : LawSt sg δ mem N F F.length) :
    Can sg F.length (dLaw sg δ mem F) (fLaw mem F) ∧ ∀ w : List Str, (∀ c ∈ w, c ∈ sg) → (run (dLaw sg δ mem F) 0 w ∈ fLaw mem F ↔ run δ 0 w ∈ mem) := by
  have met := L.met
  rw [List.take_length] at met
  have ndT : (F.map (trL sg δ mem)).Nodup := by
    rw [met]
    exact metL_nodup _
  have inT : ∀ {n : Nat} {c : Str}, n ∈ F → c ∈ sg → trL sg δ mem (δ n c) ∈ F.map (trL sg δ mem) := fun {n c} hn hc => by
    rw [met]
    exact (metL_mem _).mpr (List.mem_cons_of_mem _ (List.mem_flatMap.mpr ⟨n, hn, List.mem_map.mpr ⟨c, hc, rfl⟩⟩))
  have getF : ∀ {b : Nat}, b < F.length → F.getD b 0 ∈ F ∧ F[b]? = some (F.getD b 0) := fun {b} hb => by
    rw [List.getD_eq_getElem?_getD, List.getElem?_eq_getElem hb]
    exact ⟨List.getElem_mem hb, rfl⟩
  have atT : ∀ {b : Nat}, b < F.length → (F.map (trL sg δ mem))[b]? = some (trL sg δ mem (F.getD b 0)) := fun {b} hb => by
    rw [List.getElem?_map, (getF hb).2]
    rfl
  have same : ∀ {n m : Nat}, n < N → m < N → trL sg δ mem n = trL sg δ mem m → EqvA sg δ mem n m := fun {n m} hn hm e => moore N0 (by omega) lt hn hm (tr_eqv.mp e)
  have ltF : ∀ b, b < F.length → ∀ c ∈ sg, dLaw sg δ mem F b c < F.length := fun b hb c hc => by
    have := ixL_lt (inT (getF hb).1 hc)
    rwa [List.length_map] at this
  have stp : ∀ {b : Nat} {c : Str}, b < F.length → c ∈ sg → trL sg δ mem (F.getD (dLaw sg δ mem F b c) 0) = trL sg δ mem (δ (F.getD b 0) c) := fun {b c} hb hc => by
    have h1 := ixL_at (inT (getF hb).1 hc)
    have h2 := atT (ltF b hb c hc)
    exact Option.some.inj (h2.symm.trans h1)
  have walk : ∀ (w : List Str) (b n : Nat), b < F.length → n < N → trL sg δ mem (F.getD b 0) = trL sg δ mem n → (∀ c ∈ w, c ∈ sg) → trL sg δ mem (F.getD (run (dLaw sg δ mem F) b w) 0) = trL sg δ mem (run δ n w) ∧ run (dLaw sg δ mem F) b w < F.length ∧ run δ n w < N := fun w => by
    induction w with
    | nil => exact fun b n hb hn e _ => ⟨e, hb, hn⟩
    | cons c w ih =>
      intro b n hb hn e hw
      have hc := hw c List.mem_cons_self
      rw [run_cons, run_cons]
      refine ih _ _ (ltF b hb c hc) (lt n hn c hc) ?_ fun c' h' => hw c' (List.mem_cons_of_mem _ h')
      rw [stp hb hc, tr_eqv]
      have ea := same (L.lt _ (getF hb).1) hn e
      exact fun v _ hv => by
        have := ea (c :: v) fun c' h' => (List.mem_cons.mp h').elim (fun e => e ▸ hc) (hv c')
        rwa [run_cons, run_cons] at this
  have inM : ∀ {b : Nat}, b < F.length → (b ∈ fLaw mem F ↔ F.getD b 0 ∈ mem) := fun {b} hb => by
    unfold fLaw
    rw [List.mem_filter, List.mem_range, decide_eq_true_eq]
    exact ⟨fun h => h.2, fun h => ⟨hb, h⟩⟩
  have trM : ∀ {n m : Nat}, trL sg δ mem n = trL sg δ mem m → (n ∈ mem ↔ m ∈ mem) := fun {n m} e => tr_eqv.mp e [] (Nat.zero_le _) (by simp)
  obtain ⟨t, eF⟩ := L.hd
  have pos : 0 < F.length := by
    rw [eF]
    exact Nat.succ_pos _
  have z0 : F.getD 0 0 = 0 := by
    rw [eF]
    rfl
  refine ⟨⟨pos, ltF, fun a ha b hb h => ?_, fun b => ?_, ?_, ?_⟩, fun w hw => ?_⟩
  · have e : trL sg δ mem (F.getD a 0) = trL sg δ mem (F.getD b 0) := tr_eqv.mpr fun w _ hw => by
      obtain ⟨a1, a2, _⟩ := walk w a _ ha (L.lt _ (getF ha).1) rfl hw
      obtain ⟨b1, b2, _⟩ := walk w b _ hb (L.lt _ (getF hb).1) rfl hw
      rw [← trM a1, ← trM b1, ← inM a2, ← inM b2]
      exact h w hw
    have h1 := ixL_nodup ndT (atT ha)
    rw [e, ixL_nodup ndT (atT hb)] at h1
    exact h1.symm
  · induction b using Nat.strongRecOn with
    | ind b ih =>
      intro hb
      by_cases c : b = 0
      · subst c
        exact ⟨[], by simp, rfl⟩
      · obtain ⟨j, m, hj, hm, x, hx, e⟩ := L.par b _ (getF hb).2 (by omega)
        obtain ⟨w, hw, q⟩ := ih j hj (by omega)
        refine ⟨w ++ [x], fun c' h' => ?_, ?_⟩
        · rcases List.mem_append.mp h' with h | h
          · exact hw c' h
          · rw [List.mem_singleton.mp h]
            exact hx
        · rw [run_app, q]
          show dLaw sg δ mem F j x = b
          unfold dLaw
          rw [List.getD_eq_getElem?_getD (l := F) (i := j), hm]
          show ixL _ (trL sg δ mem (δ m x)) = b
          rw [← e]
          exact ixL_nodup ndT (atT hb)
  · have e0 : ixL (F.map (trL sg δ mem)) (trL sg δ mem 0) = 0 := by
      have := ixL_nodup ndT (atT pos)
      rwa [z0] at this
    have ids : (F.map (trL sg δ mem)).map (ixL (F.map (trL sg δ mem))) = List.range F.length := by
      refine List.ext_getElem? fun i => ?_
      rw [List.getElem?_map]
      by_cases c : i < F.length
      · rw [atT c, List.getElem?_range c]
        exact congrArg some (ixL_nodup ndT (atT c))
      · rw [List.getElem?_eq_none (by rw [List.length_map]; omega), List.getElem?_eq_none (by rw [List.length_range]; omega)]
        rfl
    have h1 : metL ((metL (trL sg δ mem 0 :: F.flatMap fun n => sg.map fun c => trL sg δ mem (δ n c))).map (ixL (F.map (trL sg δ mem)))) = List.range F.length := by
      rw [← met, ids, metL_of_nodup _ List.nodup_range]
    rw [metL_map, List.map_cons, e0] at h1
    have h2 : (F.flatMap fun n => sg.map fun c => trL sg δ mem (δ n c)).map (ixL (F.map (trL sg δ mem))) = (List.range F.length).flatMap fun b => sg.map (dLaw sg δ mem F b) := by
      rw [List.map_flatMap, List.flatMap_def, List.flatMap_def]
      refine congrArg List.flatten (List.ext_getElem? fun i => ?_)
      rw [List.getElem?_map, List.getElem?_map]
      by_cases c : i < F.length
      · rw [(getF c).2, List.getElem?_range c]
        refine congrArg some ?_
        show List.map (ixL (F.map (trL sg δ mem))) (List.map (fun c => trL sg δ mem (δ (F.getD i 0) c)) sg) = List.map (dLaw sg δ mem F i) sg
        rw [List.map_map]
        rfl
      · rw [List.getElem?_eq_none (by omega), List.getElem?_eq_none (by rw [List.length_range]; omega)]
        rfl
    rw [h2] at h1
    exact h1
  · unfold fLaw
    refine List.filter_congr fun b hb => ?_
    rw [decide_eq_decide, List.mem_filter, decide_eq_true_eq]
    exact ⟨fun h => ⟨hb, h⟩, fun h => h.2⟩
  · obtain ⟨a1, a2, _⟩ := walk w 0 0 pos N0 (by rw [z0]) hw
    rw [inM a2]
    exact trM a1
/-- a member that is led to is led to by few signs -/
theorem short_leads {M : Nat} (lt : ∀ n, n < M → ∀ c ∈ sg, δ n c < M) {n : Nat} (hn : n < M) : ∀ (w : List Str), (∀ c ∈ w, c ∈ sg) → run δ n w ∈ mem → ∃ v : List Str, v.length + 1 ≤ M ∧ (∀ c ∈ v, c ∈ sg) ∧ run δ n v ∈ mem := fun w => by
  induction hl : w.length using Nat.strongRecOn generalizing w with
  | ind l ih =>
    intro hw hm
    by_cases c : l + 1 ≤ M
    · exact ⟨w, by omega, hw, hm⟩
    · have ex : ∃ i j, i < j ∧ j ≤ w.length ∧ run δ n (w.take i) = run δ n (w.take j) := Classical.byContradiction fun z => by
        have nd : ((List.range (w.length + 1)).map fun i => run δ n (w.take i)).Nodup := by
          rw [List.nodup_iff_pairwise_ne, List.pairwise_iff_getElem]
          intro i j hi hj hij e
          rw [List.length_map, List.length_range] at hi hj
          rw [List.getElem_map, List.getElem_map, List.getElem_range, List.getElem_range] at e
          exact z ⟨i, j, hij, by omega, e⟩
        have := nodup_len (N := M) nd fun x hx => by
          obtain ⟨i, _, rfl⟩ := List.mem_map.mp hx
          exact run_lt lt _ n hn fun c hc => hw c (List.mem_of_mem_take hc)
        rw [List.length_map, List.length_range] at this
        omega
      obtain ⟨i, j, hij, hj, e⟩ := ex
      refine ih (w.take i ++ w.drop j).length ?_ (w.take i ++ w.drop j) rfl (fun c hc => ?_) ?_
      · rw [List.length_append, List.length_take, List.length_drop]
        omega
      · rcases List.mem_append.mp hc with h | h
        · exact hw c (List.mem_of_mem_take h)
        · exact hw c (List.mem_of_mem_drop h)
      · rw [run_app, e, ← run_app, List.take_append_drop]
        exact hm
/-- every state stands twice -/
theorem twice_run {N : Nat} {ε : Nat → Str → Nat} (lt : ∀ n, n < N → ∀ c ∈ sg, δ n c < N) (h : ∀ n, n < 2 * N → ∀ c ∈ sg, ε n c % N = δ (n % N) c ∧ ε n c < 2 * N) : ∀ (w : List Str) (n : Nat), n < 2 * N → (∀ c ∈ w, c ∈ sg) → run ε n w % N = run δ (n % N) w ∧ run ε n w < 2 * N
  | [], n, hn, _ => ⟨rfl, hn⟩
  | c :: w, n, hn, hw => by
    obtain ⟨h1, h2⟩ := h n hn c (hw c List.mem_cons_self)
    rw [run_cons, run_cons, ← h1]
    exact twice_run lt h w _ h2 fun c' h' => hw c' (List.mem_cons_of_mem _ h')
end
end Sl
/-! ## M4 -/
set_option Elab.async false
set_option linter.all false
set_option maxRecDepth 100000
set_option maxHeartbeats 4000000
/-! the states from which a member is reached, round by round -/
namespace Sl
open PySem PySem.Spec PyProof.Rows L2
def hitG (g : Gr) (found : List Nat) (n : Nat) : Bool := (g n).any fun e => decide (e.2 ∈ found)
def stepL (g : Gr) (found : List Nat) (n : Nat) : List Nat := if n ∈ found then found else if hitG g found n = true then found ++ [n] else found
def roundL (g : Gr) (N : Nat) (found : List Nat) : List Nat := (List.range N).foldl (stepL g) found
def liveL (g : Gr) (N : Nat) (mem : List Nat) : Nat → List Nat
  | 0 => mem
  | k + 1 => roundL g N (liveL g N mem k)
theorem step_pre (g : Gr) (found : List Nat) (n : Nat) : found <+: stepL g found n := by
  unfold stepL
  by_cases c : n ∈ found
  · rw [if_pos c]
    exact List.prefix_refl _
  · rw [if_neg c]
    by_cases h : hitG g found n = true
    · rw [if_pos h]
      exact List.prefix_append _ _
    · rw [if_neg h]
      exact List.prefix_refl _
theorem fold_pre (g : Gr) : ∀ (l : List Nat) (found : List Nat), found <+: l.foldl (stepL g) found
  | [], _ => List.prefix_refl _
  | n :: l, found => (step_pre g found n).trans (fold_pre g l _)
theorem pre_eq {l m : List Nat} (h : l <+: m) (e : m.length ≤ l.length) : l = m := h.eq_of_length (Nat.le_antisymm h.length_le e)
theorem hit_iff {g : Gr} {found : List Nat} {n : Nat} : hitG g found n = true ↔ ∃ e ∈ g n, e.2 ∈ found := by
  unfold hitG
  rw [List.any_eq_true]
  exact ⟨fun ⟨e, he, h⟩ => ⟨e, he, of_decide_eq_true h⟩, fun ⟨e, he, h⟩ => ⟨e, he, decide_eq_true h⟩⟩
/-- nothing is added: nothing is missing -/
theorem fold_closed {g : Gr} : ∀ {l : List Nat} {found : List Nat}, (l.foldl (stepL g) found).length ≤ found.length → ∀ n ∈ l, (∃ e ∈ g n, e.2 ∈ found) → n ∈ found
  | [], _, _, _, h, _ => nomatch h
  | m :: l, found, hl, n, hn, hh => by
    have p1 := step_pre g found m
    have p2 := fold_pre g l (stepL g found m)
    have hl : (l.foldl (stepL g) (stepL g found m)).length ≤ found.length := hl
    have e1 : found = stepL g found m := pre_eq p1 (Nat.le_trans p2.length_le hl)
    rcases List.mem_cons.mp hn with rfl | hn
    · by_cases c : n ∈ found
      · exact c
      · exfalso
        unfold stepL at e1
        rw [if_neg c, if_pos (hit_iff.mpr hh)] at e1
        have := congrArg List.length e1
        rw [List.length_append] at this
        simp at this
    · rw [← e1] at hl
      exact fold_closed hl n hn hh
structure LiveOk (g : Gr) (N : Nat) (mem found : List Nat) : Prop where
  nd : found.Nodup
  lt : ∀ n ∈ found, n < N
  sub : ∀ n ∈ mem, n ∈ found
  le : ∀ n ∈ found, Leads g mem n
theorem step_ok {g : Gr} {N n : Nat} {mem found : List Nat} (L : LiveOk g N mem found) (hn : n < N) : LiveOk g N mem (stepL g found n) := by
  unfold stepL
  by_cases c : n ∈ found
  · rwa [if_pos c]
  · rw [if_neg c]
    by_cases h : hitG g found n = true
    · rw [if_pos h]
      obtain ⟨e, he, hf⟩ := hit_iff.mp h
      refine ⟨List.nodup_append.mpr ⟨L.nd, by simp, fun x hx y hy z => c (by rw [← List.mem_singleton.mp hy, ← z]; exact hx)⟩, fun x hx => ?_, fun x hx => List.mem_append.mpr (.inl (L.sub x hx)), fun x hx => ?_⟩
      · rcases List.mem_append.mp hx with h | h
        · exact L.lt x h
        · rw [List.mem_singleton.mp h]
          exact hn
      · rcases List.mem_append.mp hx with h | h
        · exact L.le x h
        · rw [List.mem_singleton.mp h]
          exact .step he (L.le _ hf)
    · rwa [if_neg h]
theorem fold_ok {g : Gr} {N : Nat} {mem : List Nat} : ∀ {l : List Nat} {found : List Nat}, (∀ n ∈ l, n < N) → LiveOk g N mem found → LiveOk g N mem (l.foldl (stepL g) found)
  | [], _, _, L => L
  | n :: l, found, h, L => fold_ok (l := l) (fun m hm => h m (List.mem_cons_of_mem _ hm)) (step_ok L (h n List.mem_cons_self))
theorem live_ok {g : Gr} {N : Nat} {mem : List Nat} (nd : mem.Nodup) (lt : ∀ n ∈ mem, n < N) : ∀ k, LiveOk g N mem (liveL g N mem k)
  | 0 => ⟨nd, lt, fun _ h => h, fun _ h => .base h⟩
  | k + 1 => fold_ok (fun n hn => List.mem_range.mp hn) (live_ok nd lt k)
/-- closed, or longer each round -/
theorem live_long {g : Gr} {N : Nat} {mem : List Nat} : ∀ k, (∀ n, n < N → (∃ e ∈ g n, e.2 ∈ liveL g N mem k) → n ∈ liveL g N mem k) ∨ k ≤ (liveL g N mem k).length
  | 0 => .inr (Nat.zero_le _)
  | k + 1 => by
    have pre : liveL g N mem k <+: liveL g N mem (k + 1) := fold_pre g (List.range N) _
    by_cases c : (liveL g N mem (k + 1)).length ≤ (liveL g N mem k).length
    · have e := pre_eq pre c
      have cl := fold_closed (g := g) (l := List.range N) (found := liveL g N mem k) c
      rw [← e]
      exact .inl fun n hn h => cl n (List.mem_range.mpr hn) h
    · rcases live_long (g := g) (N := N) (mem := mem) k with h | h
      · -- closed already: nothing is added
        exfalso
        apply c
        have : ∀ l : List Nat, (∀ n ∈ l, n < N) → l.foldl (stepL g) (liveL g N mem k) = liveL g N mem k := fun l => by
          induction l with
          | nil => exact fun _ => rfl
          | cons n l ih =>
            intro hl
            have e1 : stepL g (liveL g N mem k) n = liveL g N mem k := by
              unfold stepL
              by_cases c : n ∈ liveL g N mem k
              · rw [if_pos c]
              · rw [if_neg c, if_neg fun hh => c (h n (hl n List.mem_cons_self) (hit_iff.mp hh))]
            rw [List.foldl_cons, e1]
            exact ih fun m hm => hl m (List.mem_cons_of_mem _ hm)
        show (roundL g N (liveL g N mem k)).length ≤ _
        unfold roundL
        rw [this _ fun n hn => List.mem_range.mp hn]
        exact Nat.le_refl _
      · exact .inr (by omega)
theorem full_all {l : List Nat} {N : Nat} (nd : l.Nodup) (lt : ∀ n ∈ l, n < N) (hl : N ≤ l.length) : ∀ n, n < N → n ∈ l := fun n hn => by
  by_cases c : n ∈ l
  · exact c
  · exfalso
    have : (n :: l).length ≤ N := nodup_len (List.nodup_cons.mpr ⟨c, nd⟩) fun x hx => by
      rcases List.mem_cons.mp hx with rfl | h
      · exact hn
      · exact lt x h
    rw [List.length_cons] at this
    omega
theorem liveL_iff {g : Gr} {N : Nat} {mem : List Nat} (nd : mem.Nodup) (lt : ∀ n ∈ mem, n < N) (glt : ∀ n, n < N → ∀ e ∈ g n, e.2 < N) {n : Nat} (hn : n < N) : n ∈ liveL g N mem N ↔ Leads g mem n := by
  have L := live_ok (g := g) nd lt N
  refine ⟨L.le n, fun h => ?_⟩
  have cl : ∀ n, n < N → (∃ e ∈ g n, e.2 ∈ liveL g N mem N) → n ∈ liveL g N mem N := by
    rcases live_long (g := g) (N := N) (mem := mem) N with h | h
    · exact h
    · exact fun n hn _ => full_all L.nd L.lt h n hn
  induction h with
  | base m => exact L.sub _ m
  | step m _ ih => exact cl _ hn ⟨_, m, ih (glt _ hn _ m)⟩
/-- leading to a member is a text that leads to one -/
theorem leads_run {sg : List Str} {δ : Nat → Str → Nat} {mem : List Nat} {n : Nat} : Leads (gOf sg δ) mem n ↔ ∃ w : List Str, (∀ c ∈ w, c ∈ sg) ∧ run δ n w ∈ mem := by
  constructor
  · intro h
    induction h with
    | base m => exact ⟨[], fun _ h => (nomatch h), m⟩
    | @step x e m _ ih =>
      obtain ⟨c, hc, rfl⟩ := List.mem_map.mp m
      obtain ⟨w, h1, h2⟩ := ih
      refine ⟨c :: w, fun c' hc' => ?_, h2⟩
      rcases List.mem_cons.mp hc' with rfl | h
      · exact hc
      · exact h1 _ h
  · rintro ⟨w, h1, h2⟩
    induction w generalizing n with
    | nil => exact .base h2
    | cons c w ih => exact .step (List.mem_map.mpr ⟨c, h1 c List.mem_cons_self, rfl⟩) (ih (fun c' h => h1 c' (List.mem_cons_of_mem _ h)) h2)
end Sl
/-! ## W1 -/
set_option Elab.async false
set_option linter.all false
set_option maxRecDepth 100000
set_option maxHeartbeats 4000000
/-! a language's rows compared by == -/
namespace Sl
open PySem PySem.Spec PyProof.Rows L2
theorem rowD_inj {f g : Str → Nat} : ∀ {sg : List Str}, rowD sg f = rowD sg g → ∀ c ∈ sg, f c = g c
  | [], _, _, h => nomatch h
  | a :: sg, e, c, h => by
    unfold rowD at e
    rw [List.map_cons, List.map_cons] at e
    injection e with e1 e2
    injection e1 with _ e3
    injection e3 with e3
    rcases List.mem_cons.mp h with rfl | h
    · exact Int.ofNat.inj e3
    · exact rowD_inj (f := f) (g := g) e2 c h
def rowIF (f g : Str → Nat) : Key → Bool
  | .inr c => decide (f c = g c)
  | .inl _ => false
theorem rowI_all {sg0 : List Str} {f g : Str → Nat} {vb : List (Key × Value)} (rb : KV (rowD sg0 g) vb) : ∀ {sg : List Str} {va : List (Key × Value)}, (∀ c ∈ sg, c ∈ sg0) → KV (rowD sg f) va → (va.all fun p => (valueAt vb p.1).isSome && rowIF f g p.1) = sg.all fun c => decide (f c = g c)
  | [], va, _, h => by
    cases h
    rfl
  | c :: sg, va, hs, h => by
    cases h with
    | @cons _ w _ vs h1 h2 =>
      obtain ⟨k, v⟩ := w
      obtain ⟨k1, _⟩ := h1
      have k1 : keyC c = k := k1
      subst k1
      rw [List.all_cons, List.all_cons, rowI_all rb (fun y hy => hs y (List.mem_cons_of_mem _ hy)) h2]
      congr 1
      have rr := rb.val (keyC c : Key)
      rw [row_val (d := g) (hs c List.mem_cons_self)] at rr
      obtain ⟨u, e2, _⟩ := rr.some_of
      rw [e2]
      show (true && rowIF f g (keyC c)) = _
      rw [Bool.true_and]
      rfl
section
variable {X : Cx} {pins : List (Addr × Obj)} {σ : L2.St} {H : Hp} {s : Shared}
theorem rowI_tree (I : Inv X pins σ H s) {d d' : Addr} {sg : List Str} {f g : Str → Nat} (n : Nat) (a : H d = some (.dK (rowD sg f))) (b : H d' = some (.dK (rowD sg g))) : PySem.W.EqTree X.prog X.w s (n + 1) (.ref d) (.ref d') (sg.all fun c => decide (f c = g c)) := by
  by_cases c : d = d'
  · subst c
    rw [a] at b
    injection b with b
    injection b with b
    have e : (sg.all fun c => decide (f c = g c)) = true := List.all_eq_true.mpr fun c hc => decide_eq_true (rowD_inj b c hc)
    rw [e]
    exact .same
  · obtain ⟨_, ya, va, ra, da⟩ := (show ObjOk X.prog X.w H s.heap d (.dK (rowD sg f)) from I.hok d _ a)
    obtain ⟨_, yb, vb, rb, db⟩ := (show ObjOk X.prog X.w H s.heap d' (.dK (rowD sg g)) from I.hok d' _ b)
    have q := PySem.W.EqTree.dicts (prog := X.prog) (w := X.w) (n := n) (e := rowIF f g) c ya yb da db fun k v y hm hv => ?_
    · have l1 : va.length = sg.length := by rw [← ra.length]; exact List.length_map ..
      have l2 : vb.length = sg.length := by rw [← rb.length]; exact List.length_map ..
      rw [l1, l2, beq_self_eq_true, Bool.true_and, rowI_all rb (fun _ h => h) ra] at q
      exact q
    · obtain ⟨i, hi⟩ := List.mem_iff_getElem?.mp hm
      obtain ⟨x, hx, rx⟩ := KV.at' ra hi
      unfold rowD at hx
      rw [List.getElem?_map] at hx
      cases h1 : sg[i]? with
      | none => rw [h1] at hx; cases hx
      | some t =>
        rw [h1] at hx
        injection hx with hx
        injection hx with h2 h3
        subst h2
        subst h3
        have rr := rb.val (keyC t : Key)
        rw [hv, row_val (d := g) (List.mem_of_getElem? h1)] at rr
        refine .leaf fun A hu => ?_
        have q := eqAt_V (A := A) (s := s) rx (show RelV (.int (g t : Nat)) y from rr) rfl rfl
        have e : eqV (.int (f t : Nat)) (.int (g t : Nat)) = rowIF f g (keyC t) := by
          show ((f t : Int) == (g t : Int)) = decide (f t = g t)
          by_cases z : f t = g t
          · rw [z]
            simp
          · rw [decide_eq_false z]
            exact beq_eq_false_iff_ne.mpr fun q => z (Int.ofNat.inj q)
        rw [← e]
        exact q
end
/-- the rows of two machines are the same -/
def rowsE (sg : List Str) (M M' : Nat) (δ δ' : Nat → Str → Nat) : Bool := decide (M = M') && (List.range M).all fun i => sg.all fun c => decide (δ i c = δ' i c)
section
variable {X : Cx}
def rEqRowsI : R2 := fun x y H Q => ∃ (a b : Addr) (ds ds' : List Addr) (sg : List Str) (δ δ' : Nat → Str → Nat), x = .ref a ∧ y = .ref b ∧ H a = some (.lst (ds.map V.ref)) ∧ H b = some (.lst (ds'.map V.ref)) ∧ RowsD H ds sg δ ∧ RowsD H ds' sg δ' ∧ Q (.bl (rowsE sg ds.length ds'.length δ δ')) H
theorem vals_ref {ds : List Addr} {us : List Value} (r : Vals (ds.map V.ref) us) : us = ds.map Value.ref := by
  induction ds generalizing us with
  | nil => cases r; rfl
  | cons d ds ih =>
    cases r with
    | cons h t =>
      cases h
      rw [ih t]
      rfl
theorem op_eqRowsI (hu : X.A.units + 64 < cLine) : OpR X (compareOp .Eq) rEqRowsI := by
  intro pins s σ H x y v u Q I rx ry h
  obtain ⟨a, b, ds, ds', sg, δ, δ', rfl, rfl, ha, hb, p, p', q⟩ := h
  cases (show v = Value.ref a from rx)
  cases (show u = Value.ref b from ry)
  obtain ⟨us, r1, p1, _⟩ := I.list (SqL.of (K := X.K) ha)
  obtain ⟨ws, r2, p2, _⟩ := I.list (SqL.of (K := X.K) hb)
  have k1 := vals_ref r1
  have k2 := vals_ref r2
  subst k1
  subst k2
  have l1 : (ds.map Value.ref).toArray.size = ds.length := by rw [List.size_toArray, List.length_map]
  have l2 : (ds'.map Value.ref).toArray.size = ds'.length := by rw [List.size_toArray, List.length_map]
  by_cases c : ds.length = ds'.length
  · refine PySem.W.eq_listsT (prog := X.prog) (w := X.w) (n := 1) (e := fun i => sg.all fun c => decide (δ i c = δ' i c)) p1.isList p2.isList (l1.trans (c.trans l2.symm)) (fun j h1 h2 => ?_) (by omega) ?_
    · have j1 : j < ds.length := by rw [← l1]; exact h1
      have j2 : j < ds'.length := by rw [← l2]; exact h2
      have e1 : (ds.map Value.ref).toArray[j] = Value.ref ds[j] := by simp
      have e2 : (ds'.map Value.ref).toArray[j] = Value.ref ds'[j] := by simp
      rw [e1, e2]
      exact rowI_tree I 0 (p j _ (List.getElem?_eq_getElem j1)) (p' j _ (List.getElem?_eq_getElem j2))
    · rw [l1]
      unfold rowsE at q
      rw [decide_eq_true c, Bool.true_and] at q
      exact ⟨.bl _, H, I, rfl, q⟩
  · have k := SeqAt.RcAt.lists_lengths (A := X.A) p1.isList p2.isList (by rw [l1, l2]; simpa using c) (by omega)
    refine k X.prog X.w _ _ ?_
    unfold rowsE at q
    rw [decide_eq_false c, Bool.false_and] at q
    exact ⟨.bl _, H, I, rfl, q⟩
end
end Sl
/-! ## W2 -/
set_option Elab.async false
set_option linter.all false
set_option maxRecDepth 100000
set_option maxHeartbeats 4000000
set_option pp.maxSteps 1500
set_option pp.deepTerms false
/-! a language's own ==, whatever it answers; is_empty -/
namespace Sl
open PySem PySem.Spec PyProof.Rows L2
theorem nats_eqvD : ∀ a b : List Nat, PyData.eqvAll (a.map fun n => PyData.int (n : Nat)) (b.map fun n => PyData.int (n : Nat)) = decide (a = b)
  | [], [] => by simp [PyData.eqvAll]
  | [], _ :: _ => by simp [PyData.eqvAll]
  | _ :: _, [] => by simp [PyData.eqvAll]
  | x :: a, y :: b => by
    have ih := nats_eqvD a b
    rw [List.map_cons, List.map_cons, PyData.eqvAll, ih, PyData.eqv]
    by_cases c : x = y
    · subst c
      simp
    · have c' : ((x : Int) == (y : Int)) = false := beq_eq_false_iff_ne.mpr fun e => c (Int.ofNat.inj e)
      rw [c']
      simp [c]
/-- what == of two languages answers -/
def lgEq (z z' : Str) (M M' : Nat) (δ δ' : Nat → Str → Nat) (f f' : List Nat) : Bool := decide (z = z') && (rowsE (sgL z) M M' δ δ' && decide (f = f'))
def spEqG (K : PySem.W.Frag) (C : Addr) : Sp := fun vs H Q _ => ∃ (p : Addr) (x : V) (z : Str) (M : Nat) (δ : Nat → Str → Nat) (found live : List Nat), vs = [.ref p, x] ∧ LangAt C H p z M δ found live ∧
  ((∃ (q : Addr) (z' : Str) (M' : Nat) (δ' : Nat → Str → Nat) (found' live' : List Nat), x = .ref q ∧ LangAt C H q z' M' δ' found' live' ∧ Q (.bl (lgEq z z' M M' δ δ' found found')) H) ∨
    ∃ t, TyX K H x t ∧ PySem.W.kitOne K t (.ref C) = some false ∧ Q (.bl false) H)
section
variable {P : Program} {w : World} {K : PySem.W.Frag} {mg : Str → Option Value} {base : Heap}
theorem scEmpty : FnScope ["self"] ["self"] (defScope sEmpty) := ⟨rfl, rfl, rfl, by decide +kernel, rfl, by decide +kernel, by decide +kernel⟩
theorem ok_empty {f C : Addr} {fd : FuncData} (F : Fun K "is_empty" "Language.is_empty" sEmpty f fd) (T : LgC K C) : FnOk P w K mg base CX0 1 f fd ["self"] (spEmpty C) := by
  refine F.ok scEmpty (fun vs H Q E h => ?_) (fun cdv A0 outer s H vs Q E hr h => ?_)
  · obtain ⟨p, z, M, δ, found, live, rfl, _⟩ := h
    rfl
  · obtain ⟨p, z, M, δ, found, live, rfl, LA, k⟩ := h
    obtain ⟨dx, fs, L, rs, Me, Li, hp, _, _, _, _, _, _, _, h1, h2, _⟩ := LA.ex
    refine ⟨_, pss_one (ps_ret (pe_cmpR op_notIn_seq pe_int (pe_fld (pv 0) rfl) (by rfl))), ?_⟩
    refine ⟨_, rfl, p, C, dx, _, _, rfl, hp, T.cl, T.nL, h1, Li, _, rfl, .inl (SqL.of h2), rfl, flat_nats _, ?_⟩
    have e := inV_nat 0 live
    rw [if_pos rfl]
    show Q (.bl (!inV (.int 0) _)) H
    rw [show (V.int 0) = V.int ((0 : Nat) : Int) from rfl, e]
    exact k
theorem ok_eqLG {f C : Addr} {fd : FuncData} (F : Fun K "__eq__" "Language.__eq__" sEqL f fd) (T : LgC K C) (iC : C8.InsC K C) (gC : mg "Language" = some (.ref C)) (zz : mg "isinstance" = none) :
    FnOk P w K mg base CX0 1 f fd ["self", "other"] (spEqG K C) := by
  refine F.ok scEqL (fun vs H Q E h => ?_) (fun cdv A0 outer s H vs Q E hr h => ?_)
  · obtain ⟨p, x, z, M, δ, found, live, rfl, _⟩ := h
    rfl
  · obtain ⟨p, x, z, M, δ, found, live, rfl, LA, k⟩ := h
    have hu0 := hr.units
    obtain ⟨dx, fs, L, rs, Me, Li, hp, f1, f2, hL, lrs, hrs, f3, hMe, _⟩ := LA.ex
    refine ⟨_, pss_cons (ps_if (pt_not (pt_val (pe_callB call_isi (by rfl) zz (by decide +kernel) (pa_cons (pv 1) (pa_cons (pe_glob (v := .ref C) (by rfl) gC (show RelV (V.ref C) (Value.ref C) from rfl)) pa_nil))))) (pss_one (ps_ret pe_bl)) pss_nil)
      (pss_one (ps_ret (pe_and (pe_cmpR op_eq (pe_fld (pv 0) rfl) (pe_fld (pv 1) rfl) (nomark _))
        (pe_and (pe_cmpR (op_eqRowsI hu0) (pe_fld (pv 0) rfl) (pe_fld (pv 1) rfl) (nomark _))
        (pe_one (pe_cmpR (op_eqD hu0) (pe_fld (pv 0) rfl) (pe_fld (pv 1) rfl) (nomark _))))))), ?_⟩
    rcases k with ⟨q, z', M', δ', found', live', rfl, LB, k⟩ | ⟨t, ty, kt, k⟩
    · obtain ⟨dy, gs, L', rs', Me', Li', hq, g1, g2, hL', lrs', hrs', g3, hMe', _⟩ := LB.ex
      refine ⟨_, rfl, .ref q, .ref C, .ref C, .ref C, true, rfl, .own C, .base (TyOf.ins hq iC.cl iC.ha iC.hn iC.htk iC.hm), iC.me, true, rfl, iteF ?_⟩
      refine ⟨_, rfl, p, C, dx, fs, _, rfl, hp, T.cl, T.nG, f1, _, rfl, q, C, dy, gs, _, rfl, hq, T.cl, T.nG, g1, rfl, ?_⟩
      unfold lgEq at k
      have e0 : decide (V.str z = V.str z') = decide (z = z') := by
        by_cases c : z = z'
        · rw [c]
          simp
        · rw [decide_eq_false c, decide_eq_false (fun e => c (by injection e))]
      rw [e0]
      refine ⟨_, rfl, ?_⟩
      by_cases c : z = z'
      · subst c
        have e1 : decide (z = z) = true := decide_eq_true rfl
        rw [e1] at k ⊢
        refine iteT ?_
        refine ⟨_, rfl, p, C, dx, fs, _, rfl, hp, T.cl, T.nS, f2, _, rfl, q, C, dy, gs, _, rfl, hq, T.cl, T.nS, g2, L, L', rs, rs', sgL z, δ, δ', rfl, rfl, hL, hL', hrs, hrs', ?_⟩
        rw [lrs, lrs']
        refine ⟨_, rfl, ?_⟩
        cases e2 : rowsE (sgL z) M M' δ δ' with
        | false =>
          rw [e2] at k
          exact iteF k
        | true =>
          rw [e2] at k
          refine iteT ⟨_, rfl, p, C, dx, fs, _, rfl, hp, T.cl, T.nM, f3, _, rfl, q, C, dy, gs, _, rfl, hq, T.cl, T.nM, g3, .tuple _, .tuple _, .tup (SqT.of hMe) (nats_dp found), .tup (SqT.of hMe') (nats_dp found'), nats_shaped found, nats_shaped found', ?_⟩
          have e3 : PyData.eqv (.tuple (found.map fun n => PyData.int (n : Nat))) (.tuple (found'.map fun n => PyData.int (n : Nat))) = decide (found = found') := by
            rw [PyData.eqv]
            exact nats_eqvD found found'
          rw [e3]
          exact k
      · rw [decide_eq_false c] at k ⊢
        exact iteF k
    · refine ⟨_, rfl, x, .ref C, t, .ref C, false, rfl, .own C, ty, kt, false, rfl, iteT ?_⟩
      exact k
end
end Sl
/-! ## R5 -/
set_option Elab.async false
set_option linter.all false
set_option maxRecDepth 100000
set_option maxHeartbeats 4000000
/-! list(reversed(list)) -/
namespace RT
open PySem PySem.Spec PyProof.Rows
section
variable {prog : Program} {w : World} {A : Around} {E : Value → Shared → Prop} {s : Shared}
/-- a list's items, from the last, are put behind those of a list that is empty -/
theorem extend_rev {R : Result → Shared → Prop} {it l S : Addr} {items : Array Value} {c₀ : Nat} {res : Value} (hh : A.handled = none) (hit : s.heap.IsRevIter it l ((items.size : Int) - 1)) (hl : s.heap.IsList l items) (ne1 : l ≠ it) (ne2 : S ≠ it) (ne3 : S ≠ l) (hn : items.size ≤ sizeLine)
    (hS : s.heap.get? S = some { cls := .type "list", data := .seq #[] c₀ })
    (hR : ∀ h' tk acc c', (∀ b o, b ≠ S → b ≠ it → s.heap.get? b = some o → h'.get? b = some o) → h'.get? S = some { cls := .type "list", dict := none, data := .seq acc c', slots := #[] } → ItemsOf (fun i v => items[items.size - 1 - i]? = some v) acc items.size → R (.ok (.ret res)) { s with heap := h', toks := tk }) :
    wpAny (model prog w) A.in1 (Builtin.List.listExtendWith (.ref S) (.ref it) res)
      (fun fin s' => match fin with | .done f => R (.ok f) s' | .again c' => c'.quiet = true ∧ codeAny (model prog w) A c' R s') (fun e s' => R (.error e) s') s := by
  have W := (Walks.listRev (prog := prog) (w := w) (A := A.in1) hh it l ne1 items).toS
  have out : S ∉ [it, l] := by simp only [List.mem_cons, List.not_mem_nil, or_false, not_or]; exact ⟨ne2, ne3⟩
  have ty := Heap.IsRevIter.typeIs (s := s) hit
  have diff : Builtin.List.listSameRef (.ref S) (.ref it) = false := by simp [Builtin.List.listSameRef, ne2]
  unfold Builtin.List.listExtendWith
  refine wpAny_bind (wpAny_typeOf ty ?_)
  rw [if_neg (by rw [diff]; decide)]
  refine wpAny_bind (wpAny_pyIter_revIter hit (wpAny_bind (wpAny_holding ?_)))
  unfold Builtin.List.listLengthHint
  refine wpAny_bind (wpAny_specialOf ty nolen_lri ?_)
  show wpAny _ A.in1 (specialOf (Value.ref it) (Str.ofString "__length_hint__") >>= _) _ _ _
  refine wpAny_bind (wpAny_specialOf ty hint_lri ?_)
  generalize hid : ("list_reverseiterator.__length_hint__" : String) = id0
  wp_delta
  rw [show splitId id0 = some ("list_reverseiterator", "__length_hint__") from by subst hid; decide +kernel]
  subst hid
  refine wpAny_bind (wpAny_isInstance (b := true) ty (by rw [isSubtype_type]; kernel_rfl) (wpAny_pure ?_))
  rw [if_neg (by decide)]
  have e0 : ((items.size : Nat) : Int) - 1 - ((0 : Nat) : Int) = (items.size : Int) - 1 := by omega
  refine wpAny_pure ⟨plainId_quiet F.plain_extend_loop _, codeAny_extend_loopS W hn _ out _ items.size 0 _ _ _ rfl (Nat.zero_le _) ⟨Nat.zero_le _, by rw [e0]; exact hit, hl⟩ hS (ItemsOf.nil _) fun s' acc c' hm got it' => ?_⟩
  rw [Moved.eq_with hm]
  refine hR s'.heap s'.toks acc c' (fun b o n1 n2 e => hm.heap b o (fun q => ?_) e) got it'
  rcases List.mem_cons.mp q with q | q
  · exact n1 q
  · exact n2 (List.mem_singleton.mp q)
theorem call_list_rev {it l : Addr} {items : Array Value} {Q : Value → Shared → Prop} (hh : A.handled = none) (hit : s.heap.IsRevIter it l ((items.size : Int) - 1)) (hl : s.heap.IsList l items) (ne : l ≠ it) (hn : items.size ≤ sizeLine)
    (hQ : ∀ h' tk acc c', (∀ b o, b ≠ it → s.heap.get? b = some o → h'.get? b = some o) → h'.get? s.heap.objs.size = some { cls := .type "list", dict := none, data := .seq acc c', slots := #[] } → ItemsOf (fun i v => items[items.size - 1 - i]? = some v) acc items.size → Q (.ref s.heap.objs.size) { s with heap := h', toks := tk }) :
    wpAny (model prog w) A (call (.type "list") [.ref it]) Q E s := by
  obtain ⟨oi, hoi, _⟩ := id hit
  obtain ⟨ol, hol, _⟩ := id hl
  have n2 : s.heap.objs.size ≠ it := Nat.ne_of_gt (Heap.lt_size hoi)
  have n3 : s.heap.objs.size ≠ l := Nat.ne_of_gt (Heap.lt_size hol)
  refine callType_codes (Q₁ := fun obj s₁ => obj = .ref s.heap.objs.size ∧ s₁ = { s with heap := s.heap.push { cls := .type "list", data := .seq #[] } }) F.called_list (F.typeCall_list_1 _) F.entry_list_init (code_list_new _ ⟨rfl, rfl⟩) fun obj s₁ h₁ => ?_
  obtain ⟨rfl, rfl⟩ := h₁
  have got : (s.heap.push { cls := .type "list", data := .seq #[] }).get? s.heap.objs.size = some { cls := .type "list", data := .seq #[] } := Heap.get?_push_size _ rfl
  refine ⟨⟨_, got, rfl⟩, F.args_list_init_2 _ _, ?_⟩
  show wpAny _ A.in1.in1 (do let old ← Builtin.List.listItems (.ref s.heap.objs.size); Builtin.List.listUpdate (.ref s.heap.objs.size) (fun _ => #[]); letGo old.toList.reverse; Builtin.List.listExtendWith (.ref s.heap.objs.size) (.ref it) .none) _ _ _
  refine wpAny_bind ?_
  unfold Builtin.List.listItems
  refine wpAny_bind (wpAny_seqItems got rfl (wpAny_pure ?_))
  show wpAny _ A.in1.in1 (updateSeq s.heap.objs.size (fun _ => #[]) >>= fun _ => letGo (#[] : Array Value).toList.reverse >>= fun _ => Builtin.List.listExtendWith (.ref s.heap.objs.size) (.ref it) .none) _ _ _
  refine wpAny_bind (wpAny_updateSeq got rfl ?_)
  have got2 := Heap.get?_update_self (Obj.mapSeq (fun _ => (#[] : Array Value))) got rfl
  have oth : ∀ b o, b ≠ s.heap.objs.size → s.heap.get? b = some o → ((s.heap.push { cls := .type "list", data := .seq #[] }).update s.heap.objs.size (Obj.mapSeq (fun _ => (#[] : Array Value)))).get? b = some o :=
    fun b o hb e => (Heap.get?_update_other _ _ (Ne.symm hb)).trans (Heap.get?_push_of_some _ e)
  refine wpAny_bind (wpAny_letGo ?_)
  refine extend_rev (A := A.in1) (it := it) (l := l) (items := items) hh (hit.at fun o e => oth it o n2.symm e) ?_ ne n2 n3 hn got2 fun h' tk acc c' k g i => ?_
  · obtain ⟨o, e, r⟩ := hl
    exact ⟨o, oth l o n3.symm e, r⟩
  · exact ⟨rfl, hQ h' tk acc c' (fun b o nb e => k b o (Nat.ne_of_lt (Heap.lt_size e)) nb (oth b o (Nat.ne_of_lt (Heap.lt_size e)) e)) g i⟩
end
end RT
namespace Sl
open PySem PySem.Spec PyProof.Rows L2 RT
/-- list(reversed(x)), x a list: a new list -/
def tListRev (K : PySem.W.Frag) (te : TE) : TE := fun σ H Q => te σ H fun v H1 => ∃ (a : Addr) (xs : List V), v = .ref a ∧ SqL K H1 a xs ∧ ∀ q, H1 q = none → Q (.ref q) (upd H1 q (.lst xs.reverse))
section
variable {X : Cx}
theorem pe_listRev {e : Expr} {te : TE} {p p2 pos pos2 : Pos} (hc : X.calm = true) (hg : Gl X "list") (hm : X.mg "list" = none) (bl : bootBuiltins "list" = some (.type "list")) (hg2 : Gl X "reversed") (hm2 : X.mg "reversed" = none) (he : PE X e te)
    (hs : starEach [e] X.env = (false, eval e X.env) :: starEach [] X.env := by rfl)
    (hs2 : starEach [.Call (.Name "reversed" p2) [e] [] pos2] X.env = (false, eval (.Call (.Name "reversed" p2) [e] [] pos2) X.env) :: starEach [] X.env := by rfl) :
    PE X (.Call (.Name "list" p) [.Call (.Name "reversed" p2) [e] [] pos2] [] pos) (tListRev X.K te) := by
  refine ⟨fun pins s σ G R J q => ?_⟩
  refine Call_ (ld_blt J hg hm bl (PyProof.Rows.callWith_type1 (args_cons (Call_ (ld_blt J hg2 hm2 PyProof.Rows.boot_reversed (PyProof.Rows.callWith_type1 (args_cons (thn (he.run pins s σ G _ J q) fun u s1 ⟨v, G1, J1, r1, q1⟩ => args_nil ?_) hs) hs rfl))) hs2) hs2 rfl))
  obtain ⟨a, xs, ev, hq, q⟩ := q1
  subst ev
  cases (show u = Value.ref a from r1)
  obtain ⟨its, rv, pl, sz⟩ := J1.list hq
  refine call_reversed_list pl.isList (args_nil ?_)
  have J2 : Inv X pins σ G1 { s1 with heap := s1.heap.push (revObj a ((its.toArray.size : Int) - 1)) } := J1.kept (t' := s1.toks) fun b o e => Heap.get?_push_of_some _ e
  obtain ⟨z0, z1, z2, z3, z4, z5⟩ := J1.fpOk (H' := G1) (b := s1.heap.objs.size) (Nat.le_refl _) (J1.hok.fresh (Nat.le_refl _))
  have hl := pl.isList
  obtain ⟨ol, hol, _⟩ := id hl
  have apart : a ≠ s1.heap.objs.size := Nat.ne_of_lt (Heap.lt_size hol)
  have few : its.toArray.size ≤ sizeLine := by rw [List.size_toArray, ← rv.length]; exact sz
  refine call_list_rev (s := { s1 with heap := s1.heap.push (revObj a ((its.toArray.size : Int) - 1)) }) (J1.ok.hd hc) ⟨_, Heap.get?_push_size _ rfl, rfl, rfl⟩ (hl.push _) apart few fun h' tk acc c' k got items => ?_
  have szl : (s1.heap.push (revObj a ((its.toArray.size : Int) - 1))).objs.size = s1.heap.objs.size + 1 := Heap.size_push ..
  have up : s1.heap.objs.size ≤ (s1.heap.push (revObj a ((its.toArray.size : Int) - 1))).objs.size := by rw [szl]; exact Nat.le_succ _
  refine ⟨.ref _, _, J1.laid (t' := tk) (a := (s1.heap.push (revObj a ((its.toArray.size : Int) - 1))).objs.size) (h' := h') (o := .lst xs.reverse) (fun b o e => k b o (Nat.ne_of_lt (Heap.lt_size e)) (Heap.get?_push_of_some _ e)) up ⟨by rw [List.length_reverse]; exact sz, acc.toList, c', RT.vals_rev rv items, by rw [Array.toArray_toList]; exact got⟩, rfl, q _ (J1.hok.fresh up)⟩
end
end Sl
/-! ## T20 -/
set_option Elab.async false
set_option linter.all false
set_option maxRecDepth 100000
set_option maxHeartbeats 4000000
set_option pp.maxSteps 900
set_option pp.deepTerms false
/-! retraced, least_way -/
namespace Sl
open PySem PySem.Spec PyProof.Rows L2 LamX NdefX
abbrev sRetr : Stmt := top 12
abbrev sWay : Stmt := top 11
abbrev nRetr : List Str := ["before", "node", "signs", "step", "sign"]
def spRetr : Sp := fun vs H Q _ => ∃ (b tn : Addr) (W : Nat) (q : Wd) (kvs : List (List Key × V)) (x : Nat × List Str), vs = [.ref b, .ref tn] ∧ H b = some (.dT kvs) ∧ TraceAt W H q kvs ∧ PrAt W H tn x.1 ∧ x ∈ q ∧ x.2.length ≤ 1000 ∧ (q.map (·.1)).Nodup ∧
  ∀ (H' : Hp) (L : Addr), Ext H H' → H L = none → H' L = some (.lst (x.2.map V.str)) → Q (.ref L) H'
theorem iteTx {b : Bool} {P Q : Prop} (h : b = true) (x : P) : if b = true then P else Q := by rw [if_pos h]; exact x
theorem iteFx {b : Bool} {P Q : Prop} (h : b = false) (x : Q) : if b = true then P else Q := by rw [h, if_neg Bool.false_ne_true]; exact x
theorem wd_uniq {q : Wd} (nd : (q.map (·.1)).Nodup) {n : Nat} {u v : List Str} (h1 : (n, u) ∈ q) (h2 : (n, v) ∈ q) : u = v := by
  induction q with
  | nil => cases h1
  | cons a q ih =>
    rw [List.map_cons] at nd
    obtain ⟨n1, n2⟩ := List.nodup_cons.mp nd
    rcases List.mem_cons.mp h1 with e1 | h1 <;> rcases List.mem_cons.mp h2 with e2 | h2
    · rw [← e1] at e2
      injection e2 with _ e2
      exact e2.symm
    · exact absurd (List.mem_map.mpr ⟨_, h2, by rw [← e1]⟩) n1
    · exact absurd (List.mem_map.mpr ⟨_, h1, by rw [← e2]⟩) n1
    · exact ih n2 h1 h2
section
variable {P : Program} {w : World} {K : PySem.W.Frag} {mg : Str → Option Value} {base : Heap}
theorem scRetr : FnScope nRetr ["before", "node"] (defScope sRetr) := ⟨rfl, rfl, rfl, by decide +kernel, rfl, by decide +kernel, by decide +kernel⟩
theorem ok_retr {f : Addr} {fd : FuncData} (F : Fun K "retraced" "retraced" sRetr f fd) (zl : mg "list" = none) (zv : mg "reversed" = none) : FnOk P w K mg base CX0 1 f fd ["before", "node"] spRetr := by
  refine F.ok scRetr (fun vs H Q E h => ?_) (fun cdv A0 outer s H vs Q E hr h => ?_)
  · obtain ⟨b, tn, W, q, kvs, x, rfl, _⟩ := h
    rfl
  · obtain ⟨b, tn, W, q, kvs, x, rfl, hb, tr, hpr, hx, l1000, nd, kk⟩ := h
    have hu := hu_of hr
    refine ⟨_, pss_cons (ps_set (i := 2) scRetr.nd rfl (.inl rfl) (pe_lst pa_nil))
      (pss_cons (ps_set (i := 3) scRetr.nd rfl (.inl rfl) (pe_dget hu (pv 0) (pv 1) (fun _ _ => rfl)))
      (pss_cons (ps_while PassesOwn.never (pt_cmp (pc_notN (pv 3)))
        (pss_cons (ps_asg (pv 3) (pg_tup (by rfl) (pgs_cons (pg_name (i := 1) scRetr.nd rfl (.inl rfl)) (pgs_cons (pg_name (i := 4) scRetr.nd rfl (.inl rfl)) pgs_nil))))
        (pss_cons (ps_expr (pe_bm PySem.F.plainAttrs_list PySem.F.slot_list_append PySem.F.type_list_append mt_append (pv 2) (pa_cons (pv 4) pa_nil)))
        (pss_one (ps_set (i := 3) scRetr.nd rfl (.inl rfl) (pe_dget hu (pv 0) (pv 1) (fun _ _ => rfl)))))))
      (pss_one (ps_ret (pe_listRev rfl (by rfl) zl (by decide +kernel) (by rfl) zv (pv 2)))))), ?_⟩
    refine ⟨by show 0 ≤ sizeLine; decide, fun S nS => ?_⟩
    have x1 := Ext.new nS (o := .lst [])
    have hS : (upd H S (.lst [])) S = some (.lst (([] : List Str).map V.str)) := upd_same
    generalize upd H S (.lst []) = H1 at x1 hS ⊢
    obtain ⟨v0, hv0, pd0⟩ := tr.pred x hx
    have nbS : b ≠ S := ne_of_none hb nS
    refine ⟨_, rfl, _, rfl, b, v0, rfl, by rw [← hv0]; exact DGet.t (k := keyT W x.1) (x1 _ _ hb) (x1 _ _ hpr), ?_⟩
    refine ⟨fun n σ H' => ∃ (tn' : Addr) (y : Nat × List Str) (r : List Str) (v : V) (v4 : Option V), n = y.2.length ∧ σ = [some (.ref b), some (.ref tn'), some (.ref S), some v, v4] ∧ Ext H H' ∧ H' S = some (.lst (r.map V.str)) ∧ y ∈ q ∧ x.2 = y.2 ++ r.reverse ∧ valV kvs (keyT W y.1) = some v ∧ PredAt W H q y.2 v,
      ⟨_, tn, x, [], v0, none, rfl, rfl, x1, hS, hx, by simp, hv0, pd0⟩, ?_⟩
    rintro n σ H2 ⟨tn', y, r, v, v4, rfl, rfl, x2, hS2, hy, ew, hv, pd⟩
    have hb2 := x2 _ _ hb
    refine ⟨_, rfl, _, rfl, ?_⟩
    rcases pd with ⟨e, rfl⟩ | ⟨T, tx, n, sg, u, e1, e2, rfl, hT, hp⟩
    · refine iteFx rfl ?_
      refine ⟨_, rfl, S, _, rfl, SqL.of hS2, fun L nL => ?_⟩
      refine kk _ L (x2.trans (Ext.new nL)) (x2.free nL) ?_
      rw [upd_same, ← List.map_reverse, ew, e, List.nil_append]
    · refine iteTx rfl ?_
      have ln : y.2.length = u.length + 1 := by rw [e1, List.length_append]; rfl
      refine ⟨_, fun σ' H' h => ⟨u.length, by omega, h⟩, ?_⟩
      have lr : r.length ≤ 1000 := by
        have := congrArg List.length ew
        rw [List.length_append, List.length_reverse] at this
        omega
      refine ⟨_, rfl, T, _, rfl, SqT.of (x2 _ _ hT), rfl, _, _, rfl, _, _, rfl, rfl, ?_⟩
      refine ⟨_, rfl, .inl ⟨rfl, _, SqL.of hS2⟩, _, rfl, S, _, _, rfl, rfl, hS2, by rw [List.length_map]; exact small_l (by omega), ?_⟩
      have nbS2 : b ≠ S := nbS
      have keep : ∀ c o, H c = some o → (upd H2 S (.lst (r.map V.str ++ [V.str sg]))) c = some o := fun c o h => by
        rw [upd_ne (ne_of_none h nS)]
        exact x2 _ _ h
      obtain ⟨v', hv', pd'⟩ := tr.pred (n, u) e2
      refine ⟨_, rfl, _, rfl, b, v', rfl, by rw [← hv']; exact DGet.t (k := keyT W n) (keep _ _ hb) (keep _ _ hp), ?_⟩
      refine ⟨tx, (n, u), r ++ [sg], v', _, rfl, rfl, keep, ?_, e2, ?_, hv', pd'⟩
      · rw [upd_same, List.map_append]
        rfl
      · rw [List.reverse_append, ew, e1]
        simp
end
end Sl
/-! ## T21 -/
set_option Elab.async false
set_option linter.all false
set_option maxRecDepth 100000
set_option maxHeartbeats 4000000
set_option pp.maxSteps 900
set_option pp.deepTerms false
/-! least_way -/
namespace Sl
open PySem PySem.Spec PyProof.Rows L2 LamX NdefX
abbrev nWay : List Str := ["first", "leads", "is_goal", "before", "goal"]
def spWay (P : Program) (w : World) (K : PySem.W.Frag) (mg : Str → Option Value) (base : Heap) (k : Nat) : List (Str × Addr) → List Str → List (Option V) → Sp := fun cl fr ws vs H Q _ => ∃ (t0 f f2 : Addr) (F : LF) (F2 : NF) (fr1 : List Str) (ws1 : List (Option V)) (W first N : Nat) (G : Hp → Prop) (sg : List Str) (δ : Nat → Str → Nat) (m : Nat → Bool), vs = [.ref t0, .ref f, .ref f2] ∧ PrAt W H t0 first ∧
  H f = some (LamO f F) ∧ H F.c = some (CodeO F.c F.qual) ∧ SubC F.cl fr1 ws1 cl fr ws ∧ LeadLT P w K mg base k W G (gOf sg δ) N F fr1 ws1 ∧ H f2 = some (FnO f2 F2) ∧ H F2.c = some (CodeO F2.c F2.qual) ∧ F2.cl = cl ∧ IsInT P w K mg base k W G m N f2 F2 fr ws ∧ G H ∧ GrOk G (gOf sg δ) N ∧ first < N ∧ (∀ c ∈ sg, c.length = 1) ∧
  ∀ (H' : Hp), Ext H H' → (match (searchW (gOf sg δ) m N first).2 with | none => Q .non H' | some x => Q (.str (Txt.join "" x.2)) H')
theorem sum_ones : ∀ {ys : List Str}, (∀ z ∈ ys, z.length = 1) → (ys.map fun x => x.length).sum = ys.length
  | [], _ => rfl
  | y :: ys, h => by
    rw [List.map_cons, List.sum_cons, sum_ones fun z hz => h z (List.mem_cons_of_mem _ hz), h y List.mem_cons_self, List.length_cons]
    omega
section
variable {P : Program} {w : World} {K : PySem.W.Frag} {mg : Str → Option Value} {base : Heap}
theorem scWay : FnScope nWay ["first", "leads", "is_goal"] (defScope sWay) := ⟨rfl, rfl, rfl, by decide +kernel, rfl, by decide +kernel, by decide +kernel⟩
theorem ok_way {k : Nat} {f fE fR : Addr} {fd fdE fdR : FuncData} (Fn : Fun K "least_way" "least_way" sWay f fd) (aE : At K mg "explored" fE fdE ["first", "leads", "is_goal"] []) (gE : FnV P w K mg base CX0 (k + 2) fE fdE ["first", "leads", "is_goal"] (spExploredG P w K mg base (k + 1)))
    (aR : At K mg "retraced" fR fdR ["before", "node"] []) (gR : FnOk P w K mg base CX0 1 fR fdR ["before", "node"] spRetr) : FnV P w K mg base CX0 (k + 3) f fd ["first", "leads", "is_goal"] (spWay P w K mg base (k + 1)) := by
  refine Sl.Fun.okV Fn scWay (fun cl fr ws vs H Q E h => ?_) (fun A0 outer s H vs cl fr ws Q E hr C h => ?_)
  · obtain ⟨t0, f, f2, F, F2, fr1, ws1, W, first, N, G, sg, δ, m, rfl, _⟩ := h
    rfl
  · obtain ⟨t0, fl, f2, F, F2, fr1, ws1, W, first, N, G, sg, δ, m, rfl, ht0, hf, hc, sub, LL, hf2, hc2, ecl2, LI, hG, gk, fN, one, kk⟩ := h
    have hr1 := hr.mono (show 1 ≤ k + 2 by omega)
    refine ⟨_, pss_cons (ps_asg (pe_callV (cl := fun _ => cl) (fr := fr) (ws := fun _ => ws) (E := fun _ _ _ => False) gE (fun pins σ H s I => cellsF_later C rfl rfl rfl I) hr (by rfl) aE.g aE.kp aE.b pass0 (pa_cons (pv 0) (pa_cons (pv 1) (pa_cons (pv 2) pa_nil)))) (pg_tup (by rfl) (pgs_cons (pg_name (i := 3) scWay.nd rfl (.inl rfl)) (pgs_cons (pg_name (i := 4) scWay.nd rfl (.inl rfl)) pgs_nil))))
      (pss_one (ps_ret (pe_ifExp (pt_cmp (pc_isN (pv 4))) pe_non (pe_join pe_str (pe_call (E := fun _ _ _ => False) gR hr1 (by rfl) aR.g aR.kp aR.b .nil pass0 (pa_cons (pv 3) (pa_cons (pv 4) pa_nil))))))), ?_⟩
    refine ⟨_, rfl, _, rfl, _, rfl, t0, fl, f2, F, F2, fr1, ws1, W, first, N, G, gOf sg δ, m, rfl, ht0, hf, hc, sub, LL, hf2, hc2, ecl2, LI, hG, gk, fN, fun H1 t b kvs v x1 nt ht nb hb tr hv => ?_⟩
    obtain ⟨nd, sh⟩ := search_nd (m := m) gk.lt fN
    have si := search_inv (sg := sg) (δ := δ) (m := m) gk.lt fN
    have kk := kk
    generalize searchW (gOf sg δ) m N first = r at tr hv nd sh kk si
    obtain ⟨q, o⟩ := r
    refine ⟨t, _, rfl, SqT.of ht, rfl, _, _, rfl, _, _, rfl, rfl, ?_⟩
    refine ⟨_, rfl, _, rfl, ?_⟩
    cases o with
    | none =>
      obtain rfl : v = .non := hv
      exact iteTx rfl (kk H1 x1)
    | some x =>
      obtain ⟨hx, tx, rfl, hp⟩ := hv
      refine iteFx rfl ⟨⟨_, rfl⟩, _, rfl, _, rfl, b, tx, W, q, kvs, x, rfl, hb, tr, hp, hx, by have := sh x hx; have := gk.n; omega, nd, fun H2 L x2 nL hL => ?_⟩
      have so := sum_ones (ys := x.2) fun c hc => one c ((si.1 x hx).2 c hc)
      have e0 : (Str.ofString "").length = 0 := rfl
      refine ⟨Str.ofString "", L, x.2, rfl, rfl, .inl (SqL.of hL), by rw [so, e0]; have := sh x hx; have := gk.n; omega, kk H2 (x1.trans x2)⟩
end
end Sl
/-! ## T10 -/
set_option Elab.async false
set_option linter.all false
set_option maxRecDepth 100000
set_option maxHeartbeats 4000000
set_option pp.maxSteps 1500
set_option pp.deepTerms false
/-! both, either, without -/
namespace Sl
open PySem PySem.Spec PyProof.Rows L2 LamX NdefX
abbrev sBoth : Stmt := top 38
abbrev sEither : Stmt := top 39
abbrev sWithout : Stmt := top 40
abbrev eBoth : Expr := argAt 2 (asgVal (nth (defBody sBoth) 0))
abbrev eEither : Expr := argAt 2 (asgVal (nth (defBody sEither) 0))
abbrev eWithout : Expr := argAt 2 (asgVal (nth (defBody sWithout) 0))
def noPar : Arguments := ⟨[], [], none, [], [], none, []⟩
theorem nsBoth : NScope ["first", "second"] ["first", "second"] [] (lamSc eBoth (defScope sBoth)) := nscope_by (by decide +kernel)
theorem nsEither : NScope ["first", "second"] ["first", "second"] [] (lamSc eEither (defScope sEither)) := nscope_by (by decide +kernel)
theorem nsWithout : NScope ["first", "second"] ["first", "second"] [] (lamSc eWithout (defScope sWithout)) := nscope_by (by decide +kernel)
/-- the language of two -/
def spOp (C : Addr) (T : List NTab) (β : Bool → Bool → Bool) : Sp := fun vs H Q _ => ∃ (p1 p2 : Addr) (z : Str) (M1 M2 : Nat) (δ1 δ2 : Nat → Str → Nat) (f1 f2 l1 l2 : List Nat), vs = [.ref p1, .ref p2] ∧
  TwoAt C p1 p2 z M1 M2 δ1 δ2 f1 f2 l1 l2 H ∧ TwoLt z M1 M2 δ1 δ2 ∧ SgOk z ∧ TabsN T H ∧ (reachedL (gOf (sgL z) (prD M2 δ1 δ2)) (M1 * M2) 0).length ≤ 6 ∧
  OutP C T H z (prD M2 δ1 δ2) 0 (fun n => β (decide (n / M2 ∈ f1)) (decide (n % M2 ∈ f2))) Q
section
variable {P : Program} {w : World} {K : PySem.W.Frag} {mg : Str → Option Value} {base : Heap}
theorem scBoth : FnScope ["one", "other"] ["one", "other"] (defScope sBoth) := ⟨rfl, rfl, rfl, by decide +kernel, rfl, by decide +kernel, by decide +kernel⟩
theorem scEither : FnScope ["one", "other"] ["one", "other"] (defScope sEither) := ⟨rfl, rfl, rfl, by decide +kernel, rfl, by decide +kernel, by decide +kernel⟩
theorem scWithout : FnScope ["one", "other"] ["one", "other"] (defScope sWithout) := ⟨rfl, rfl, rfl, by decide +kernel, rfl, by decide +kernel, by decide +kernel⟩
/-- such a lambda's promise by its body -/
theorem bel_of {F : LF} {β : Bool → Bool → Bool} (S : NScope ["first", "second"] ["first", "second"] [] F.scope) (hb : ∀ (pm ctv : Value) (us : List Value), us.length = 2 → bindArgs (F.fd pm ctv) ⟨us, []⟩ = pure ((["first", "second"] : List Str).zip us))
    (body : ∀ (X : Cx), X.N = (["first", "second"] : List Str) → Vis X.env.scope "first" → Vis X.env.scope "second" → ∃ t, PE X F.body t ∧ ∀ (a b : Bool) (H : Hp) (Q : VK), Q (.bl (β a b)) H → t [some (.bl a), some (.bl b)] H Q) : BelOk P w K mg base F β := by
  refine ⟨("first" : Str), ("second" : Str), fun ws vs H Q _ => ∃ a b : Bool, vs = [.bl a, .bl b] ∧ ws = [] ∧ Q (.bl (β a b)) H, lok_of S hb (fun ws vs H Q E h => ?_) (fun f A outer s H vs ws Q E hr hf hc hl h => ?_), fun a b H Q E h => ⟨a, b, rfl, rfl, h⟩⟩
  · obtain ⟨a, b, rfl, _⟩ := h
    rfl
  · obtain ⟨a, b, rfl, rfl, q⟩ := h
    obtain ⟨t, ht, k⟩ := body (ncx CX0 P w K mg base ["first", "second"] F.nf f A outer s H E) rfl (.inl (S.par _ List.mem_cons_self)) (.inl (S.par _ (List.mem_cons_of_mem _ List.mem_cons_self)))
    exact ⟨t, ht, k a b H Q q⟩
theorem ok_both {T : List NTab} {f C fC : Addr} {fd fdC : FuncData} (Fn : Fun K "both" "both" sBoth f fd) (LM : Lams base mg T fd "both.<locals>.<lambda>")
    (aC : At K mg "_combined" fC fdC ["one", "other", "belongs"] []) (gC : FnOk P w K mg base CX0 13 fC fdC ["one", "other", "belongs"] (spComb C P w K mg T base)) : FnOk P w K mg base CX0 14 f fd ["one", "other"] (spOp C T fun a b => a && b) := by
  obtain ⟨c, Tb, hcode, TB, hmT, hu⟩ := LM.ex
  refine Sl.Fun.okM Fn scBoth (fun vs H Q E h => ?_) (fun A0 outer s H vs Q E hr h => ?_)
  · obtain ⟨p1, p2, z, M1, M2, δ1, δ2, f1, f2, l1, l2, rfl, _⟩ := h
    rfl
  · obtain ⟨p1, p2, z, M1, M2, δ1, δ2, f1, f2, l1, l2, rfl, TA, tl, sg, hT, l6, o⟩ := h
    refine ⟨_, pss_one (ps_ret (pe_call (E := fun _ _ _ => False) gC hr (by rfl) aC.g aC.kp aC.b .nil pass0 (pa_cons (pv 0) (pa_cons (pv 1) (pa_cons (pe_lamV (T := T) TB hcode hmT hu rfl (fun y hy e => by
          rcases List.mem_cons.mp hy with rfl | hy
          · cases e
          · rcases List.mem_singleton.mp hy with rfl
            cases e)) pa_nil))))), ?_⟩
    refine ⟨_, rfl, _, rfl, hT, fun fb cb H1 x1 nn1 T1 nfb hfb hcb => ?_⟩
    refine ⟨p1, p2, fb, _, fun a b => a && b, z, M1, M2, δ1, δ2, f1, f2, l1, l2, rfl, ⟨TA.extN x1, hfb, hcb⟩, rfl, fun b => bel_of nsBoth (fun pm ctv us hl => match us, hl with | [_, _], _ => rfl) (fun X hN v1 v2 => ⟨_, pe_and (pe_var (i := 0) (by rw [hN]; rfl) v1) (pe_one (pe_var (i := 1) (by rw [hN]; rfl) v2)), fun a b H Q q => ⟨_, rfl, a, rfl, by
      cases a with
      | true => exact ⟨_, rfl, q⟩
      | false => exact q⟩⟩), tl, sg, T1, l6, o.weak x1 nn1⟩
theorem ok_either {T : List NTab} {f C fC : Addr} {fd fdC : FuncData} (Fn : Fun K "either" "either" sEither f fd) (LM : Lams base mg T fd "either.<locals>.<lambda>")
    (aC : At K mg "_combined" fC fdC ["one", "other", "belongs"] []) (gC : FnOk P w K mg base CX0 13 fC fdC ["one", "other", "belongs"] (spComb C P w K mg T base)) : FnOk P w K mg base CX0 14 f fd ["one", "other"] (spOp C T fun a b => a || b) := by
  obtain ⟨c, Tb, hcode, TB, hmT, hu⟩ := LM.ex
  refine Sl.Fun.okM Fn scEither (fun vs H Q E h => ?_) (fun A0 outer s H vs Q E hr h => ?_)
  · obtain ⟨p1, p2, z, M1, M2, δ1, δ2, f1, f2, l1, l2, rfl, _⟩ := h
    rfl
  · obtain ⟨p1, p2, z, M1, M2, δ1, δ2, f1, f2, l1, l2, rfl, TA, tl, sg, hT, l6, o⟩ := h
    refine ⟨_, pss_one (ps_ret (pe_call (E := fun _ _ _ => False) gC hr (by rfl) aC.g aC.kp aC.b .nil pass0 (pa_cons (pv 0) (pa_cons (pv 1) (pa_cons (pe_lamV (T := T) TB hcode hmT hu rfl (fun y hy e => by
          rcases List.mem_cons.mp hy with rfl | hy
          · cases e
          · rcases List.mem_singleton.mp hy with rfl
            cases e)) pa_nil))))), ?_⟩
    refine ⟨_, rfl, _, rfl, hT, fun fb cb H1 x1 nn1 T1 nfb hfb hcb => ?_⟩
    refine ⟨p1, p2, fb, _, fun a b => a || b, z, M1, M2, δ1, δ2, f1, f2, l1, l2, rfl, ⟨TA.extN x1, hfb, hcb⟩, rfl, fun b => bel_of nsEither (fun pm ctv us hl => match us, hl with | [_, _], _ => rfl) (fun X hN v1 v2 => ⟨_, pe_or (pe_var (i := 0) (by rw [hN]; rfl) v1) (pe_one (pe_var (i := 1) (by rw [hN]; rfl) v2)), fun a b H Q q => ⟨_, rfl, a, rfl, by
      cases a with
      | true => exact q
      | false => exact ⟨_, rfl, q⟩⟩⟩), tl, sg, T1, l6, o.weak x1 nn1⟩
theorem ok_without {T : List NTab} {f C fC : Addr} {fd fdC : FuncData} (Fn : Fun K "without" "without" sWithout f fd) (LM : Lams base mg T fd "without.<locals>.<lambda>")
    (aC : At K mg "_combined" fC fdC ["one", "other", "belongs"] []) (gC : FnOk P w K mg base CX0 13 fC fdC ["one", "other", "belongs"] (spComb C P w K mg T base)) : FnOk P w K mg base CX0 14 f fd ["one", "other"] (spOp C T fun a b => a && !b) := by
  obtain ⟨c, Tb, hcode, TB, hmT, hu⟩ := LM.ex
  refine Sl.Fun.okM Fn scWithout (fun vs H Q E h => ?_) (fun A0 outer s H vs Q E hr h => ?_)
  · obtain ⟨p1, p2, z, M1, M2, δ1, δ2, f1, f2, l1, l2, rfl, _⟩ := h
    rfl
  · obtain ⟨p1, p2, z, M1, M2, δ1, δ2, f1, f2, l1, l2, rfl, TA, tl, sg, hT, l6, o⟩ := h
    refine ⟨_, pss_one (ps_ret (pe_call (E := fun _ _ _ => False) gC hr (by rfl) aC.g aC.kp aC.b .nil pass0 (pa_cons (pv 0) (pa_cons (pv 1) (pa_cons (pe_lamV (T := T) TB hcode hmT hu rfl (fun y hy e => by
          rcases List.mem_cons.mp hy with rfl | hy
          · cases e
          · rcases List.mem_singleton.mp hy with rfl
            cases e)) pa_nil))))), ?_⟩
    refine ⟨_, rfl, _, rfl, hT, fun fb cb H1 x1 nn1 T1 nfb hfb hcb => ?_⟩
    refine ⟨p1, p2, fb, _, fun a b => a && !b, z, M1, M2, δ1, δ2, f1, f2, l1, l2, rfl, ⟨TA.extN x1, hfb, hcb⟩, rfl, fun b => bel_of nsWithout (fun pm ctv us hl => match us, hl with | [_, _], _ => rfl) (fun X hN v1 v2 => ⟨_, pe_and (pe_var (i := 0) (by rw [hN]; rfl) v1) (pe_one (pe_not (pe_var (i := 1) (by rw [hN]; rfl) v2))), fun a b H Q q => ⟨_, rfl, a, rfl, by
      cases a with
      | true => exact ⟨_, rfl, _, rfl, q⟩
      | false => exact q⟩⟩), tl, sg, T1, l6, o.weak x1 nn1⟩
end
end Sl
/-! ## T22 -/
set_option Elab.async false
set_option linter.all false
set_option maxRecDepth 100000
set_option maxHeartbeats 4000000
set_option pp.maxSteps 900
set_option pp.deepTerms false
/-! first_outside, is_within -/
namespace Sl
open PySem PySem.Spec PyProof.Rows L2 LamX NdefX
abbrev sOutsideG : Stmt := top 45
abbrev sWithinG : Stmt := top 46
abbrev stGoal : Stmt := nth (defBody sOutsideG) 1
abbrev eOut : Expr := argAt 1 (asgVal (nth (defBody sOutsideG) 2))
abbrev scOutL : Scope := lamSc eOut (defScope sOutsideG)
abbrev scGoalD : Scope := C8.fnScope stGoal
def nmOut : Nat → Nat → Str := fun _ c => if c = 4 then "first_outside.<locals>.is_goal" else "first_outside.<locals>.<lambda>"
theorem nsOutL : NScope ["pair", "one", "other"] ["pair"] ["one", "other"] scOutL := nscope_by (by decide +kernel)
theorem nsGoalD : NScope ["pair", "one", "other", "first", "second"] ["pair"] ["one", "other"] scGoalD := nscope_by (by decide +kernel)
theorem two_gr {C p1 p2 : Addr} {z : Str} {M1 M2 : Nat} {δ1 δ2 : Nat → Str → Nat} {f1 f2 l1 l2 : List Nat} (t : TwoLt z M1 M2 δ1 δ2) : GrOk (TwoAt C p1 p2 z M1 M2 δ1 δ2 f1 f2 l1 l2) (gOf (sgL z) (prD M2 δ1 δ2)) (M1 * M2) :=
  ⟨fun _ _ x h => h.extN x, t.n, fun n hn e he => (by
    obtain ⟨c, hc, rfl⟩ := List.mem_map.mp he
    exact t.lt n hn c hc), fun n => by
    unfold gOf
    rw [List.length_map, sgL_len]
    exact t.sg⟩
/-- a pair of which the first one is a member, the second one not -/
def outM (W : Nat) (f1 f2 : List Nat) : Nat → Bool := fun n => decide (n / W ∈ f1) && !decide (n % W ∈ f2)
def spOutG (C : Addr) (T : List NTab) : Sp := fun vs H Q _ => ∃ (p1 p2 : Addr) (z : Str) (M1 M2 : Nat) (δ1 δ2 : Nat → Str → Nat) (f1 f2 l1 l2 : List Nat), vs = [.ref p1, .ref p2] ∧ TwoAt C p1 p2 z M1 M2 δ1 δ2 f1 f2 l1 l2 H ∧ TwoLt z M1 M2 δ1 δ2 ∧ TabsN T H ∧
  ∀ (H' : Hp), StayN H H' → (∀ b, H' b = none → H b = none) → TabsN T H' → (match (searchW (gOf (sgL z) (prD M2 δ1 δ2)) (outM M2 f1 f2) (M1 * M2) 0).2 with | none => Q .non H' | some x => Q (.str (Txt.join "" x.2)) H')
def spWithG (C : Addr) (T : List NTab) : Sp := fun vs H Q _ => ∃ (p1 p2 : Addr) (z : Str) (M1 M2 : Nat) (δ1 δ2 : Nat → Str → Nat) (f1 f2 l1 l2 : List Nat), vs = [.ref p1, .ref p2] ∧ TwoAt C p1 p2 z M1 M2 δ1 δ2 f1 f2 l1 l2 H ∧ TwoLt z M1 M2 δ1 δ2 ∧ TabsN T H ∧
  ∀ (H' : Hp), StayN H H' → (∀ b, H' b = none → H b = none) → TabsN T H' → Q (.bl (searchW (gOf (sgL z) (prD M2 δ1 δ2)) (outM M2 f1 f2) (M1 * M2) 0).2.isNone) H'
section
variable {P : Program} {w : World} {K : PySem.W.Frag} {mg : Str → Option Value} {base : Heap}
theorem lead_out {C p1 p2 fN : Addr} {z : Str} {M1 M2 : Nat} {δ1 δ2 : Nat → Str → Nat} {f1 f2 l1 l2 : List Nat} {c' : Addr} {cl : List (Str × Addr)} {fdN : FuncData} (t : TwoLt z M1 M2 δ1 δ2)
    (aN : At K mg "_next_pairs" fN fdN ["one", "other", "pair"] []) (gN : FnOk P w K mg base CX0 5 fN fdN ["one", "other", "pair"] (spNext C)) :
    LeadLT P w K mg base 6 M2 (TwoAt C p1 p2 z M1 M2 δ1 δ2 f1 f2 l1 l2) (gOf (sgL z) (prD M2 δ1 δ2)) (M1 * M2) ⟨"first_outside.<locals>.<lambda>", lamPar eOut noPar, lamBody eOut, scOutL, cl, c'⟩ ["one", "other"] [some (.ref p1), some (.ref p2)] := by
  refine ⟨"pair", fun ws vs H Q _ => ws = [some (.ref p1), some (.ref p2)] ∧ spLeadsT M2 (TwoAt C p1 p2 z M1 M2 δ1 δ2 f1 f2 l1 l2) (gOf (sgL z) (prD M2 δ1 δ2)) (M1 * M2) vs H Q, lok_of (N := ["pair", "one", "other"]) nsOutL (fun pm ctv us hl => match us, hl with | [_], _ => rfl) (fun ws vs H Q E h => ?_) (fun f A outer s H vs ws Q E hr hf hc hl h => ?_), fun vs H Q E h => ⟨rfl, h⟩⟩
  · obtain ⟨_, a, n, rfl, _⟩ := h
    rfl
  · obtain ⟨rfl, a, n, rfl, hpr, hn, hG, kk⟩ := h
    refine ⟨_, pe_call (E := fun _ _ _ => False) gN hr (by rfl) aN.g aN.kp aN.b .nil pass0 (pa_cons (pe_var (i := 1) rfl (.inr (.inr rfl))) (pa_cons (pe_var (i := 2) rfl (.inr (.inr rfl))) (pa_cons (pv 0) pa_nil))), ?_⟩
    exact ⟨_, rfl, _, rfl, _, rfl, p1, p2, a, z, M1, M2, n, δ1, δ2, f1, f2, l1, l2, rfl, hG, hpr, hn, t.sg, t.lt1, t.lt2, kk⟩
theorem in_out {C p1 p2 fMb : Addr} {z : Str} {M1 M2 : Nat} {δ1 δ2 : Nat → Str → Nat} {f1 f2 l1 l2 : List Nat} {f2' c' : Addr} {cl : List (Str × Addr)} {fdMb : FuncData}
    (Tc : LgC K C) (mMb : L2.Meth K C "is_member" fMb) (bMb : L2.Binds K fdMb ["self", "state"] []) (gMb : FnOk P w K mg base CX0 4 fMb fdMb ["self", "state"] (spMember C)) :
    IsInT P w K mg base 6 M2 (TwoAt C p1 p2 z M1 M2 δ1 δ2 f1 f2 l1 l2) (outM M2 f1 f2) (M1 * M2) f2' (NF.of stGoal "is_goal" "first_outside.<locals>.is_goal" cl c') ["one", "other"] [some (.ref p1), some (.ref p2)] := by
  refine ⟨"pair", fun ws vs H Q _ => ws = [some (.ref p1), some (.ref p2)] ∧ spIsIn M2 (TwoAt C p1 p2 z M1 M2 δ1 δ2 f1 f2 l1 l2) (outM M2 f1 f2) (M1 * M2) vs H Q, NOk.mono (j := 5) (nok_of (N := ["pair", "one", "other", "first", "second"]) nsGoalD (fun doc pm ctv us hl => match us, hl with | [_], _ => rfl) (fun ws vs H Q E h => ?_) (fun A outer s H vs ws Q E hr hf hc hl h => ?_)) (by omega), fun vs H Q E h => ⟨rfl, h⟩⟩
  · obtain ⟨_, a, n, rfl, _⟩ := h
    rfl
  · obtain ⟨rfl, a, n, rfl, hpr, hn, hG, q⟩ := h
    obtain ⟨n1, n2⟩ := pr_lt hn
    obtain ⟨dx1, fs1, i1, no1⟩ := hG.a.no "is_member" (by decide)
    obtain ⟨dx2, fs2, i2, no2⟩ := hG.b.no "is_member" (by decide)
    refine ⟨_, pss_cons (ps_asg (pv 0) (pg_tup (by rfl) (pgs_cons (pg_name (i := 3) nsGoalD.nd rfl (.inl rfl)) (pgs_cons (pg_name (i := 4) nsGoalD.nd rfl (.inl rfl)) pgs_nil))))
      (pss_one (ps_ret (pe_and (pe_meth (E := fun _ _ _ => False) (pe_var (i := 1) rfl (.inr (.inr rfl))) Tc.cl mMb gMb hr bMb .nil pass0 (pa_cons (pv 3) pa_nil)) (pe_one (pe_not (pe_meth (E := fun _ _ _ => False) (pe_var (i := 2) rfl (.inr (.inr rfl))) Tc.cl mMb gMb hr bMb .nil pass0 (pa_cons (pv 4) pa_nil))))))), ?_⟩
    refine ⟨_, rfl, a, _, rfl, SqT.of hpr, rfl, _, _, rfl, _, _, rfl, rfl, ?_⟩
    refine ⟨_, rfl, p1, dx1, fs1, rfl, i1, no1, _, rfl, p1, n / M2, z, M1, δ1, f1, l1, rfl, hG.a, n1, _, rfl, ?_⟩
    unfold outM at q
    cases e : decide (n / M2 ∈ f1) with
    | false =>
      rw [e] at q
      exact iteF q
    | true =>
      rw [e] at q
      exact iteT ⟨_, rfl, p2, dx2, fs2, rfl, i2, no2, _, rfl, p2, n % M2, z, M2, δ2, f2, l2, rfl, hG.b, n2, _, rfl, q⟩
theorem scOutG : FnScope ["one", "other", "is_goal"] ["one", "other"] (defScope sOutsideG) := ⟨rfl, rfl, rfl, by decide +kernel, rfl, by decide +kernel, by decide +kernel⟩
theorem outL_free : ∀ y ∈ scOutL.names, y.2 = NameKind.free → (defScope sOutsideG).names.lookup y.1 = some .cell ∨ (defScope sOutsideG).names.lookup y.1 = some .free := by decide +kernel
theorem goalD_free : ∀ y ∈ scGoalD.names, y.2 = NameKind.free → (defScope sOutsideG).names.lookup y.1 = some .cell ∨ (defScope sOutsideG).names.lookup y.1 = some .free := by decide +kernel
theorem outL_cell : ∀ y ∈ scOutL.names, y.2 = NameKind.free → (defScope sOutsideG).names.lookup y.1 = some .cell := by decide +kernel
theorem goalD_cell : ∀ y ∈ scGoalD.names, y.2 = NameKind.free → (defScope sOutsideG).names.lookup y.1 = some .cell := by decide +kernel
theorem outL_sub : ∀ y ∈ scOutL.names, y.2 = NameKind.free → y ∈ scGoalD.names := by decide +kernel
theorem ok_outG {T : List NTab} {f C fA fN fMb fL : Addr} {fd fdA fdN fdMb fdL : FuncData} (Fn : Fun K "first_outside" "first_outside" sOutsideG f fd) (LM : LamsN base mg T fd nmOut) (Tc : LgC K C)
    (aA : At K mg "_check_signs_agree" fA fdA ["one", "other"] []) (gA : FnOk P w K mg base CX0 3 fA fdA ["one", "other"] (spAgree C))
    (aN : At K mg "_next_pairs" fN fdN ["one", "other", "pair"] []) (gN : FnOk P w K mg base CX0 5 fN fdN ["one", "other", "pair"] (spNext C))
    (mMb : L2.Meth K C "is_member" fMb) (bMb : L2.Binds K fdMb ["self", "state"] []) (gMb : FnOk P w K mg base CX0 4 fMb fdMb ["self", "state"] (spMember C))
    (aL : At K mg "least_way" fL fdL ["first", "leads", "is_goal"] []) (gL : FnV P w K mg base CX0 8 fL fdL ["first", "leads", "is_goal"] (spWay P w K mg base 6)) : FnOk P w K mg base CX0 9 f fd ["one", "other"] (spOutG C T) := by
  obtain ⟨c, Tb, hcode, TB, hmT, hu⟩ := LM.ex
  refine Sl.Fun.okM Fn scOutG (fun vs H Q E h => ?_) (fun A0 outer s H vs Q E hr h => ?_)
  · obtain ⟨p1, p2, z, M1, M2, δ1, δ2, f1, f2, l1, l2, rfl, _⟩ := h
    rfl
  · obtain ⟨p1, p2, z, M1, M2, δ1, δ2, f1, f2, l1, l2, rfl, TA, tl, hT, o⟩ := h
    have hr3 := hr.mono (show 3 ≤ 8 by omega)
    refine ⟨_, pss_cons (ps_expr (pe_call gA hr3 (by rfl) aA.g aA.kp aA.b .nil pass0 (pa_cons (pe_var (i := 0) rfl (.inr (.inl rfl))) (pa_cons (pe_var (i := 1) rfl (.inr (.inl rfl))) pa_nil))))
      (pss_cons (ps_ndefMS (st := stGoal) (name := "is_goal") (i := 2) rfl TB hcode hmT rfl hu goalD_free rfl rfl rfl scOutG.nd rfl (.inl rfl) (.inr rfl))
      (pss_one (ps_ret (pe_callV (cl := fun _ => cloFrom (cellsFrom (s.heap.objs.size + 1) (defScope sOutsideG).names []) scGoalD.names []) (fr := ["one", "other"]) (ws := fun σ => ([0, 1] : List Nat).map (slotAt σ)) (E := fun _ _ _ => False) gL
          (fun pins σ H s I => cellsF_of I (Caps.made (scope := scGoalD) I.ok goalD_free (by decide +kernel) rfl) (fun _ => rfl) rfl rfl) hr (by rfl) aL.g aL.kp aL.b pass0
          (pa_cons (pe_tup (pa_cons pe_int (pa_cons pe_int pa_nil))) (pa_cons (pe_lamN (T := T) TB hcode hmT rfl hu rfl outL_free) (pa_cons (pv 2) pa_nil))))))), ?_⟩
    refine ⟨_, rfl, _, rfl, p1, p2, z, M1, M2, δ1, δ2, f1, f2, l1, l2, rfl, TA, ?_⟩
    refine ⟨hT, fun fi ci H1 x1 nn1 T1 nfi hfi hci => ?_⟩
    refine ⟨by show 2 ≤ sizeLine; decide, fun t0 n0 => ?_⟩
    have xt := Ext.new n0 (o := .tup [V.int 0, V.int 0])
    have ht0 : (upd H1 t0 (.tup [V.int 0, V.int 0])) t0 = some (.tup [V.int 0, V.int 0]) := upd_same
    generalize upd H1 t0 (.tup [V.int 0, V.int 0]) = H2 at xt ht0 ⊢
    refine ⟨T1.ext xt, fun fl cl' H3 x3 nn3 T3 nfl hfl hcl => ?_⟩
    have x23 := (ExtN.of xt).trans x3
    have x13 := x1.trans x23
    have hpr : PrAt M2 H3 t0 0 := by
      show _ = some (HO.tup (prT M2 0))
      unfold prT
      rw [Nat.zero_div, Nat.zero_mod]
      exact x3 _ _ ht0 (fun _ z => nomatch z)
    have cellsOk : ∀ y ∈ scGoalD.names, y.2 = NameKind.free → ∃ c, (cellsFrom (s.heap.objs.size + 1) (defScope sOutsideG).names []).lookup y.1 = some c := fun y hy e => cell_has (goalD_cell y hy e)
    have cellsOk1 : ∀ y ∈ scOutL.names, y.2 = NameKind.free → ∃ c, (cellsFrom (s.heap.objs.size + 1) (defScope sOutsideG).names []).lookup y.1 = some c := fun y hy e => cell_has (outL_cell y hy e)
    refine ⟨_, rfl, t0, fl, fi, _, _, ["one", "other"], [some (.ref p1), some (.ref p2)], M2, 0, M1 * M2, TwoAt C p1 p2 z M1 M2 δ1 δ2 f1 f2 l1 l2, sgL z, prD M2 δ1 δ2, _, rfl, hpr, hfl, hcl, ?_, lead_out tl aN gN, x23 _ _ hfi fnO_ne, x23 _ _ hci codeO_ne, rfl, in_out Tc mMb bMb gMb, TA.extN x13, two_gr tl, Nat.mul_pos tl.p1 tl.p2, fun c hc => ?_, fun H' x' => ?_⟩
    · refine sub_clo cellsOk1 cellsOk (fun y hy => outL_sub _ hy rfl) (by decide +kernel) rfl fun i y e => ?_
      match i, e with
      | 0, e => exact ⟨0, e, rfl⟩
      | 1, e => exact ⟨1, e, rfl⟩
      | n + 2, e => cases e
    · unfold sgL at hc
      obtain ⟨x, _, rfl⟩ := List.mem_map.mp hc
      rfl
    · exact o H' (fun b u e n => x' _ _ (x13 _ _ e n)) (fun b e => nn1 _ (xt.free (nn3 _ (x'.free e)))) (T3.ext x')
theorem scWithG : FnScope ["one", "other"] ["one", "other"] (defScope sWithinG) := ⟨rfl, rfl, rfl, by decide +kernel, rfl, by decide +kernel, by decide +kernel⟩
theorem ok_withG {T : List NTab} {f C fO : Addr} {fd fdO : FuncData} (Fn : Fun K "is_within" "is_within" sWithinG f fd) (aO : At K mg "first_outside" fO fdO ["one", "other"] []) (gO : FnOk P w K mg base CX0 9 fO fdO ["one", "other"] (spOutG C T)) :
    FnOk P w K mg base CX0 10 f fd ["one", "other"] (spWithG C T) := by
  refine Fn.ok scWithG (fun vs H Q E h => ?_) (fun cdv A0 outer s H vs Q E hr h => ?_)
  · obtain ⟨p1, p2, z, M1, M2, δ1, δ2, f1, f2, l1, l2, rfl, _⟩ := h
    rfl
  · obtain ⟨p1, p2, z, M1, M2, δ1, δ2, f1, f2, l1, l2, rfl, TA, tl, hT, o⟩ := h
    refine ⟨_, pss_one (ps_ret (pe_cmp (pc_isN (pe_call (E := fun _ _ _ => False) gO hr (by rfl) aO.g aO.kp aO.b .nil pass0 (pa_cons (pv 0) (pa_cons (pv 1) pa_nil)))))), ?_⟩
    refine ⟨_, rfl, _, rfl, p1, p2, z, M1, M2, δ1, δ2, f1, f2, l1, l2, rfl, TA, tl, hT, fun H' st nn T' => ?_⟩
    have q := o H' st nn T'
    cases e : (searchW (gOf (sgL z) (prD M2 δ1 δ2)) (outM M2 f1 f2) (M1 * M2) 0).2 with
    | none =>
      rw [e] at q
      exact q
    | some x =>
      rw [e] at q
      exact q
end
end Sl
/-! ## W7 -/
set_option Elab.async false
set_option linter.all false
set_option maxRecDepth 100000
set_option maxHeartbeats 4000000
/-! languages told by one machine of at most six states -/
namespace Sl
open PySem PySem.Spec PyProof.Rows L2 LamX NdefX
theorem dec_bool {p : Prop} [Decidable p] {b : Bool} (h : p ↔ b = true) : decide p = b := by
  cases b with
  | true => exact decide_eq_true (h.mpr rfl)
  | false => exact decide_eq_false fun q => Bool.false_ne_true (h.mp q)
/-- a machine of up to six states -/
structure Bs (z : Str) (N : Nat) (δ : Nat → Str → Nat) : Prop where
  sg : SgOk z
  pos : 0 < N
  six : N ≤ 6
  lt : ∀ n, n < N → ∀ c ∈ sgL z, δ n c < N
/-- the machine of a language of the words that lead the other machine to m -/
structure LgM (sg : List Str) (M : Nat) (d : Nat → Str → Nat) (f l : List Nat) (δ : Nat → Str → Nat) (m : Nat → Bool) : Prop where
  ok : LgOk sg M d f l
  acc : ∀ w : List Str, (∀ c ∈ w, c ∈ sg) → (run d 0 w ∈ f ↔ m (run δ 0 w) = true)
/-- two sets of states that the same words reach -/
def SameM (sg : List Str) (δ : Nat → Str → Nat) (m1 m2 : Nat → Bool) : Prop := ∀ w : List Str, (∀ c ∈ w, c ∈ sg) → m1 (run δ 0 w) = m2 (run δ 0 w)
theorem LgM.of {sg : List Str} {M : Nat} {d : Nat → Str → Nat} {f l : List Nat} {δ : Nat → Str → Nat} {m1 m2 : Nat → Bool} (h : LgM sg M d f l δ m1) (e : SameM sg δ m1 m2) : LgM sg M d f l δ m2 := ⟨h.ok, fun w hw => by rw [h.acc w hw, e w hw]⟩
theorem short_word {z : Str} {N : Nat} {δ : Nat → Str → Nat} (B : Bs z N δ) {w : List Str} (hw : ∀ c ∈ w, c ∈ sgL z) : ∃ v : List Str, v.length ≤ 5 ∧ (∀ c ∈ v, c ∈ sgL z) ∧ run δ 0 v = run δ 0 w := by
  obtain ⟨v, h1, h2, h3⟩ := short_leads (mem := [run δ 0 w]) B.lt B.pos w hw (List.mem_singleton.mpr rfl)
  have := B.six
  exact ⟨v, by omega, h2, List.mem_singleton.mp h3⟩
section
variable {z : Str} {N M1 M2 : Nat} {δ d1 d2 : Nat → Str → Nat} {f1 f2 l1 l2 : List Nat} {m1 m2 : Nat → Bool}
theorem LgM.det (L1 : LgM (sgL z) M1 d1 f1 l1 δ m1) {v w : List Str} (hv : ∀ c ∈ v, c ∈ sgL z) (hw : ∀ c ∈ w, c ∈ sgL z) (e : run δ 0 v = run δ 0 w) : run d1 0 v = run d1 0 w := by
  refine L1.ok.can.dist _ (run_lt L1.ok.can.lt v 0 L1.ok.can.pos hv) _ (run_lt L1.ok.can.lt w 0 L1.ok.can.pos hw) fun u hu => ?_
  rw [← run_app, ← run_app, L1.acc _ (fun c hc => (List.mem_append.mp hc).elim (hv c) (hu c)), L1.acc _ (fun c hc => (List.mem_append.mp hc).elim (hw c) (hu c)), run_app, run_app, e]
theorem LgM.two (B : Bs z N δ) (L1 : LgM (sgL z) M1 d1 f1 l1 δ m1) (L2 : LgM (sgL z) M2 d2 f2 l2 δ m2) : TwoLt z M1 M2 d1 d2 := by
  have h1 := B.sg.le
  have h2 : z.length = z.cps.size := rfl
  have h3 : M1 * M2 ≤ 6 * 6 := Nat.mul_le_mul L1.ok.le L2.ok.le
  exact ⟨by omega, L1.ok.can.pos, L2.ok.can.pos, by omega, L1.ok.can.lt, L2.ok.can.lt⟩
theorem LgM.pr (L2 : LgM (sgL z) M2 d2 f2 l2 δ m2) {w : List Str} (hw : ∀ c ∈ w, c ∈ sgL z) : run (prD M2 d1 d2) 0 w = run d1 0 w * M2 + run d2 0 w := by
  have q := run_pr (d1 := d1) L2.ok.can.lt w 0 0 L2.ok.can.pos hw
  rwa [Nat.zero_mul, Nat.zero_add] at q
theorem LgM.tell (L1 : LgM (sgL z) M1 d1 f1 l1 δ m1) (L2 : LgM (sgL z) M2 d2 f2 l2 δ m2) {w : List Str} (hw : ∀ c ∈ w, c ∈ sgL z) : decide (run (prD M2 d1 d2) 0 w / M2 ∈ f1) = m1 (run δ 0 w) ∧ decide (run (prD M2 d1 d2) 0 w % M2 ∈ f2) = m2 (run δ 0 w) := by
  have b2 := run_lt L2.ok.can.lt w 0 L2.ok.can.pos hw
  rw [L2.pr hw, (pr_code b2).1, (pr_code b2).2]
  exact ⟨dec_bool (L1.acc w hw), dec_bool (L2.acc w hw)⟩
/-- few pairs are reached -/
theorem LgM.pairs (B : Bs z N δ) (L1 : LgM (sgL z) M1 d1 f1 l1 δ m1) (L2 : LgM (sgL z) M2 d2 f2 l2 δ m2) : (reachedL (gOf (sgL z) (prD M2 d1 d2)) (M1 * M2) 0).length ≤ 6 := by
  have t := L1.two B L2
  have FO := reachedL_found (g := gOf (sgL z) (prD M2 d1 d2)) (first := 0) (fun n hn e he => by
    obtain ⟨c, hc, rfl⟩ := List.mem_map.mp he
    exact t.lt n hn c hc) (Nat.mul_pos t.p1 t.p2)
  have wd : ∀ n : Nat, ∃ w : List Str, n ∈ reachedL (gOf (sgL z) (prD M2 d1 d2)) (M1 * M2) 0 → (∀ c ∈ w, c ∈ sgL z) ∧ run (prD M2 d1 d2) 0 w = n := fun n => by
    by_cases h : n ∈ reachedL (gOf (sgL z) (prD M2 d1 d2)) (M1 * M2) 0
    · obtain ⟨w, hw, e⟩ := reach_run (FO.re n h)
      exact ⟨w, fun _ => ⟨hw, e⟩⟩
    · exact ⟨[], fun q => absurd q h⟩
  obtain ⟨wd, hwd⟩ := Classical.axiomOfChoice wd
  have nd : ((reachedL (gOf (sgL z) (prD M2 d1 d2)) (M1 * M2) 0).map fun n => run δ 0 (wd n)).Nodup := by
    have := FO.nd
    unfold List.Nodup at this ⊢
    rw [List.pairwise_map]
    refine this.imp_of_mem fun {a b} ha hb ne e => ne ?_
    obtain ⟨a1, a2⟩ := hwd a ha
    obtain ⟨b1, b2⟩ := hwd b hb
    rw [← a2, ← b2, L2.pr a1, L2.pr b1, L1.det a1 b1 e, L2.det a1 b1 e]
  have := nodup_len (N := N) nd fun y hy => by
    obtain ⟨n, hn, rfl⟩ := List.mem_map.mp hy
    exact run_lt B.lt _ 0 B.pos (hwd n hn).1
  rw [List.length_map] at this
  have := B.six
  omega
/-- the same words: the same machine -/
theorem lgEq_iff (L1 : LgM (sgL z) M1 d1 f1 l1 δ m1) (L2 : LgM (sgL z) M2 d2 f2 l2 δ m2) : lgEq z z M1 M2 d1 d2 f1 f2 = true ↔ SameM (sgL z) δ m1 m2 := by
  have bool : ∀ {a b : Bool}, (a = true ↔ b = true) → a = b := fun {a b} => by cases a <;> cases b <;> simp
  unfold lgEq rowsE
  rw [decide_eq_true rfl, Bool.true_and, Bool.and_eq_true, Bool.and_eq_true, decide_eq_true_iff, decide_eq_true_iff, List.all_eq_true]
  constructor
  · rintro ⟨⟨e1, e2⟩, e3⟩ w hw
    subst e1 e3
    have e2 : ∀ b, b < M1 → ∀ c ∈ sgL z, d1 b c = d2 b c := fun b hb c hc => by
      have := e2 b (List.mem_range.mpr hb)
      rw [List.all_eq_true] at this
      exact of_decide_eq_true (this c hc)
    refine bool ?_
    rw [← L1.acc w hw, ← L2.acc w hw, run_eq L1.ok.can.lt e2 w 0 L1.ok.can.pos hw]
  · intro h
    obtain ⟨e1, e2, e3⟩ := can_uniq L1.ok.can L2.ok.can fun w hw => by rw [L1.acc w hw, L2.acc w hw, h w hw]
    refine ⟨⟨e1, fun b hb => ?_⟩, ?_⟩
    · rw [List.all_eq_true]
      exact fun c hc => decide_eq_true (e2 b (List.mem_range.mp hb) c hc)
    · exact e3
/-- nothing of the first one is outside of the second one -/
theorem within_iff (B : Bs z N δ) (L1 : LgM (sgL z) M1 d1 f1 l1 δ m1) (L2 : LgM (sgL z) M2 d2 f2 l2 δ m2) : (searchW (gOf (sgL z) (prD M2 d1 d2)) (outM M2 f1 f2) (M1 * M2) 0).2.isNone = true ↔ SameM (sgL z) δ (fun n => m1 n && !m2 n) fun _ => false := by
  have t := L1.two B L2
  have hlt : ∀ n, n < M1 * M2 → ∀ e ∈ gOf (sgL z) (prD M2 d1 d2) n, e.2 < M1 * M2 := fun n hn e he => by
    obtain ⟨c, hc, rfl⟩ := List.mem_map.mp he
    exact t.lt n hn c hc
  have pos := Nat.mul_pos t.p1 t.p2
  have tell : ∀ w : List Str, (∀ c ∈ w, c ∈ sgL z) → outM M2 f1 f2 (run (prD M2 d1 d2) 0 w) = (m1 (run δ 0 w) && !m2 (run δ 0 w)) := fun w hw => by
    unfold outM
    obtain ⟨e1, e2⟩ := L1.tell L2 hw
    rw [e1, e2]
  rw [Option.isNone_iff_eq_none]
  constructor
  · intro h w hw
    have := search_none hlt pos h w hw
    rw [tell w hw] at this
    exact this
  · intro h
    cases e : (searchW (gOf (sgL z) (prD M2 d1 d2)) (outM M2 f1 f2) (M1 * M2) 0).2 with
    | none => rfl
    | some y =>
      obtain ⟨q1, q2, _⟩ := search_some hlt pos e
      rw [tell _ q2] at q1
      have := h _ q2
      rw [show (m1 (run δ 0 y.2) && !m2 (run δ 0 y.2)) = false from this] at q1
      cases q1
/-- a state that is not live: no word -/
theorem empty_iff (L1 : LgM (sgL z) M1 d1 f1 l1 δ m1) : (!decide (0 ∈ l1)) = true ↔ SameM (sgL z) δ m1 fun _ => false := by
  rw [Bool.not_eq_true', decide_eq_false_iff_not, L1.ok.lv 0 L1.ok.can.pos, leads_run]
  constructor
  · intro h w hw
    cases e : m1 (run δ 0 w) with
    | false => rfl
    | true => exact absurd ⟨w, hw, (L1.acc w hw).mpr e⟩ h
  · rintro h ⟨w, hw, q⟩
    have := (L1.acc w hw).mp q
    rw [show m1 (run δ 0 w) = false from h w hw] at this
    cases this
/-- short words tell it -/
theorem same_short (B : Bs z N δ) : SameM (sgL z) δ m1 m2 ↔ ∀ w ∈ allW (sgL z) 8, m1 (run δ 0 w) = m2 (run δ 0 w) := by
  constructor
  · exact fun h w hw => h w (allW_mem.mp hw).2
  · intro h w hw
    obtain ⟨v, h1, h2, e⟩ := short_word B hw
    rw [← e]
    exact h v (allW_mem.mpr ⟨by omega, h2⟩)
end
end Sl
/-! ## W8 -/
set_option Elab.async false
set_option linter.all false
set_option maxRecDepth 100000
set_option maxHeartbeats 4000000
set_option pp.maxSteps 1500
set_option pp.deepTerms false
/-! the operations told by one machine; _law_second -/
namespace Sl
open PySem PySem.Spec PyProof.Rows L2 LamX NdefX
section
variable {C : Addr} {T : List NTab} {H : Hp} {z : Str} {N M1 M2 : Nat} {δ d1 d2 : Nat → Str → Nat} {f1 f2 l1 l2 : List Nat} {m1 m2 : Nat → Bool} {Q : VK}
/-- a language that comes of something -/
def OutM (C : Addr) (T : List NTab) (H : Hp) (z : Str) (δ : Nat → Str → Nat) (m : Nat → Bool) (Q : VK) : Prop := ∀ (H' : Hp) (x : Addr) (M : Nat) (d : Nat → Str → Nat) (f l : List Nat), StayN H H' → (∀ b, H' b = none → H b = none) → TabsN T H' → H x = none → LangAt C H' x z M d f l → LgM (sgL z) M d f l δ m → Q (.ref x) H'
theorem op_of {β : Bool → Bool → Bool} {x1 x2 : Addr} (B : Bs z N δ) (A1 : LangAt C H x1 z M1 d1 f1 l1) (L1 : LgM (sgL z) M1 d1 f1 l1 δ m1) (A2 : LangAt C H x2 z M2 d2 f2 l2) (L2 : LgM (sgL z) M2 d2 f2 l2 δ m2) (hT : TabsN T H)
    (k : OutM C T H z δ (fun n => β (m1 n) (m2 n)) Q) : spOp C T β [.ref x1, .ref x2] H Q (fun _ _ _ => False) :=
  ⟨x1, x2, z, M1, M2, d1, d2, f1, f2, l1, l2, rfl, ⟨A1, A2⟩, L1.two B L2, B.sg, hT, L1.pairs B L2, fun H' x M d f l st nn T' nx A ok acc => k H' x M d f l st nn T' nx A ⟨ok, fun w hw => by
    rw [acc w hw]
    obtain ⟨e1, e2⟩ := L1.tell L2 hw
    show β _ _ = true ↔ β _ _ = true
    rw [e1, e2]⟩⟩
theorem with_of {x1 x2 : Addr} (B : Bs z N δ) (A1 : LangAt C H x1 z M1 d1 f1 l1) (L1 : LgM (sgL z) M1 d1 f1 l1 δ m1) (A2 : LangAt C H x2 z M2 d2 f2 l2) (L2 : LgM (sgL z) M2 d2 f2 l2 δ m2) (hT : TabsN T H)
    (k : ∀ (H' : Hp) (b : Bool), StayN H H' → (∀ b, H' b = none → H b = none) → TabsN T H' → (b = true ↔ SameM (sgL z) δ (fun n => m1 n && !m2 n) fun _ => false) → Q (.bl b) H') : spWithG C T [.ref x1, .ref x2] H Q (fun _ _ _ => False) :=
  ⟨x1, x2, z, M1, M2, d1, d2, f1, f2, l1, l2, rfl, ⟨A1, A2⟩, L1.two B L2, hT, fun H' st nn T' => k H' _ st nn T' (within_iff B L1 L2)⟩
theorem every_of (sg : SgOk z) (hT : TabsN T H) (k : OutM C T H z δ (fun _ => true) Q) : spEvery C T [.ref C, .str z] H Q (fun _ _ _ => False) :=
  ⟨z, rfl, sg, hT, fun H' x M d f l st nn T' nx A ok acc => k H' x M d f l st nn T' nx A ⟨ok, fun w hw => acc w hw⟩⟩
theorem none_of (sg : SgOk z) (hT : TabsN T H) (k : OutM C T H z δ (fun _ => false) Q) : spOf0 C T [.ref C, .str z] H Q (fun _ _ _ => False) :=
  ⟨z, rfl, sg, hT, fun H' x M d f l st nn T' nx A ok acc => k H' x M d f l st nn T' nx A ⟨ok, fun w hw => acc w hw⟩⟩
theorem bs_prod {N1 N2 : Nat} {δ1 δ2 : Nat → Str → Nat} (sg : SgOk z) (p1 : 0 < N1) (p2 : 0 < N2) (six : N1 * N2 ≤ 6) (lt1 : ∀ n, n < N1 → ∀ c ∈ sgL z, δ1 n c < N1) (lt2 : ∀ n, n < N2 → ∀ c ∈ sgL z, δ2 n c < N2) : Bs z (N1 * N2) (prD N2 δ1 δ2) :=
  ⟨sg, Nat.mul_pos p1 p2, six, (TwoLt.mk (by have := sg.le; have h2 : z.length = z.cps.size := rfl; omega) p1 p2 (by omega) lt1 lt2).lt⟩
theorem lgm_one {N1 N2 M : Nat} {δ1 δ2 d : Nat → Str → Nat} {mem f l : List Nat} (p2 : 0 < N2) (lt2 : ∀ n, n < N2 → ∀ c ∈ sgL z, δ2 n c < N2) (six : M ≤ 6) (LO : LeastOf (sgL z) δ1 mem N1 M d f) (lv : ∀ n, n < M → (n ∈ l ↔ Leads (gOf (sgL z) d) f n)) :
    LgM (sgL z) M d f l (prD N2 δ1 δ2) fun n => decide (n / N2 ∈ mem) := by
  refine ⟨⟨six, LO.nd, LO.fl, LO.can, lv⟩, fun w hw => ?_⟩
  have q := run_pr (d1 := δ1) lt2 w 0 0 p2 hw
  rw [Nat.zero_mul, Nat.zero_add] at q
  rw [LO.acc w hw, q, (pr_code (run_lt lt2 w 0 p2 hw)).1]
  simp
theorem lgm_two {N1 N2 M : Nat} {δ1 δ2 d : Nat → Str → Nat} {mem f l : List Nat} (p2 : 0 < N2) (lt2 : ∀ n, n < N2 → ∀ c ∈ sgL z, δ2 n c < N2) (six : M ≤ 6) (LO : LeastOf (sgL z) δ2 mem N1 M d f) (lv : ∀ n, n < M → (n ∈ l ↔ Leads (gOf (sgL z) d) f n)) :
    LgM (sgL z) M d f l (prD N2 δ1 δ2) fun n => decide (n % N2 ∈ mem) := by
  refine ⟨⟨six, LO.nd, LO.fl, LO.can, lv⟩, fun w hw => ?_⟩
  have q := run_pr (d1 := δ1) lt2 w 0 0 p2 hw
  rw [Nat.zero_mul, Nat.zero_add] at q
  rw [LO.acc w hw, q, (pr_code (run_lt lt2 w 0 p2 hw)).2]
  simp
end
theorem StayN.keep {a : Addr} {H H' : Hp} (x : StayN H H') : KeepN a H H' := fun b o e n _ => x b o e n
theorem Keep.keepN {a : Addr} {H H' : Hp} (x : Keep a H H') : KeepN a H H' := fun b o e _ nb => x b o e nb
theorem KeepN.trans {a : Addr} {H H1 H2 : Hp} (x : KeepN a H H1) (y : KeepN a H1 H2) : KeepN a H H2 := fun b o e n nb => y b o (x b o e n nb) n nb
theorem Rng.stay' {a : Addr} {H H' : Hp} (r : Rng H a) (x : StayN H H') : Rng H' a := by
  obtain ⟨u, v, e, q⟩ := r.ex
  exact ⟨u, v, x _ _ e (fun _ z => nomatch z), q⟩
theorem LangAt.stay {C : Addr} {H H' : Hp} {x : Addr} {z : Str} {M : Nat} {d : Nat → Str → Nat} {f l : List Nat} (x1 : StayN H H') (h : LangAt C H x z M d f l) : LangAt C H' x z M d f l := h.extN x1
abbrev sSecond : Stmt := top 56
abbrev nSecond : List Str := ["_law_rng_here", "_law_machine", "_law_abc", "_law_other", "_law_way"]
/-- what comes of it: a language told by the product of the machine and a second one -/
def OutS (C : Addr) (T : List NTab) (a : Addr) (H : Hp) (z : Str) (δ1 : Nat → Str → Nat) (Q : VK) : Prop := ∀ (H' : Hp) (x : Addr) (M : Nat) (d : Nat → Str → Nat) (f l : List Nat) (N2 : Nat) (δ2 : Nat → Str → Nat) (m : Nat → Bool), Rng H' a → KeepN a H H' → TabsN T H' → LangAt C H' x z M d f l →
  0 < N2 → N2 ≤ 2 → (∀ n, n < N2 → ∀ c ∈ sgL z, δ2 n c < N2) → LgM (sgL z) M d f l (prD N2 δ1 δ2) m → Q (.ref x) H'
def spSecond (C : Addr) (T : List NTab) : Sp := fun vs H Q _ => ∃ (a t R E1 : Addr) (z : Str) (rs : List Addr) (δ1 : Nat → Str → Nat) (mem : List Nat), vs = [.ref a, .ref t] ∧ Rng H a ∧ MacAt H t z R E1 rs δ1 mem ∧ R ≠ a ∧ E1 ≠ a ∧ MacOk (sgL z) rs.length δ1 mem 3 ∧ SgOk z ∧ TabsN T H ∧ OutS C T a H z δ1 Q
section
variable {P : Program} {w : World} {K : PySem.W.Frag} {mg : Str → Option Value} {base : Heap}
theorem scSecond : FnScope nSecond ["_law_rng_here", "_law_machine"] (defScope sSecond) := ⟨rfl, rfl, rfl, by decide +kernel, rfl, by decide +kernel, by decide +kernel⟩
theorem ok_second {T : List NTab} {f C fD fC fL fB fEi fW pE fE : Addr} {fd fdD fdC fdL fdB fdEi fdW : FuncData} {mc : Value} (F : Fun K "_law_second" "_law_second" sSecond f fd)
    (aD : At K mg "_law_draw" fD fdD ["_law_rng_here", "_law_many"] []) (gD : FnOk P w K mg base CX0 1 fD fdD ["_law_rng_here", "_law_many"] spDraw)
    (aC : At K mg "_law_class" fC fdC ["_law_rng_here", "_law_cap", "_law_abc"] []) (gC : FnOk P w K mg base CX0 2 fC fdC ["_law_rng_here", "_law_cap", "_law_abc"] spClass)
    (aL : At K mg "_law_language" fL fdL ["_law_machine"] []) (gL : FnOk P w K mg base CX0 8 fL fdL ["_law_machine"] (spLanguage C T))
    (aB : At K mg "both" fB fdB ["one", "other"] []) (gB : FnOk P w K mg base CX0 14 fB fdB ["one", "other"] (spOp C T fun a b => a && b))
    (aEi : At K mg "either" fEi fdEi ["one", "other"] []) (gEi : FnOk P w K mg base CX0 14 fEi fdEi ["one", "other"] (spOp C T fun a b => a || b))
    (aW : At K mg "without" fW fdW ["one", "other"] []) (gW : FnOk P w K mg base CX0 14 fW fdW ["one", "other"] (spOp C T fun a b => a && !b))
    (mC : mg "Language" = some (.ref C)) (cr : ClX.CRead K C mc) (cE : ClX.CMet K C mc "every" pE fE) (gE : FnR P w K mg base CX0 8 fE (spEvery C T)) (zi : mg "int" = none) :
    FnOk P w K mg base CX0 15 f fd ["_law_rng_here", "_law_machine"] (spSecond C T) := by
  refine Sl.Fun.okM F scSecond (fun vs H Q E h => ?_) (fun A0 outer s H vs Q E hr h => ?_)
  · obtain ⟨a, t, R, E1, z, rs, δ1, mem, rfl, _⟩ := h
    rfl
  · obtain ⟨a, t, R, E1, z, rs, δ1, mem, rfl, hR, MA, nR, nE, MO, sg, hT, kk⟩ := h
    have hr8 := hr.mono (show 8 ≤ 14 by omega)
    have hr2 := hr.mono (show 2 ≤ 14 by omega)
    have hr1 := hr.mono (show 1 ≤ 14 by omega)
    refine ⟨_, pss_cons (ps_set (i := 2) scSecond.nd rfl (.inl rfl) (pe_ix ix_tup (pv 1) pe_int (fun _ _ => rfl)))
      (pss_cons (ps_set (i := 3) scSecond.nd rfl (.inl rfl) (pe_call (E := fun _ _ _ => False) gC hr2 (by rfl) aC.g aC.kp aC.b .nil pass0 (pa_cons (pv 0) (pa_cons pe_int (pa_cons (pv 2) pa_nil)))))
      (pss_cons (ps_set (i := 4) scSecond.nd rfl (.inl rfl) (pe_call (E := fun _ _ _ => False) gD hr1 (by rfl) aD.g aD.kp aD.b .nil pass0 (pa_cons (pv 0) (pa_cons pe_int pa_nil))))
      (pss_cons (ps_if (pt_cmpR op_eq (pv 4) pe_int (nomark _)) (pss_one (ps_ret (pe_call (E := fun _ _ _ => False) gB hr (by rfl) aB.g aB.kp aB.b .nil pass0 (pa_cons (pe_call (E := fun _ _ _ => False) gL hr8 (by rfl) aL.g aL.kp aL.b .nil pass0 (pa_cons (pv 1) pa_nil)) (pa_cons (pe_call (E := fun _ _ _ => False) gL hr8 (by rfl) aL.g aL.kp aL.b .nil pass0 (pa_cons (pv 3) pa_nil)) pa_nil))))) pss_nil)
      (pss_cons (ps_if (pt_cmpR op_eq (pv 4) pe_int (nomark _)) (pss_one (ps_ret (pe_call (E := fun _ _ _ => False) gEi hr (by rfl) aEi.g aEi.kp aEi.b .nil pass0 (pa_cons (pe_call (E := fun _ _ _ => False) gL hr8 (by rfl) aL.g aL.kp aL.b .nil pass0 (pa_cons (pv 1) pa_nil)) (pa_cons (pe_call (E := fun _ _ _ => False) gL hr8 (by rfl) aL.g aL.kp aL.b .nil pass0 (pa_cons (pv 3) pa_nil)) pa_nil))))) pss_nil)
      (pss_cons (ps_if (pt_cmpR op_eq (pv 4) pe_int (nomark _)) (pss_one (ps_ret (pe_call (E := fun _ _ _ => False) gW hr (by rfl) aW.g aW.kp aW.b .nil pass0 (pa_cons (ClX.pe_cmeth (E := fun _ _ _ => False) (pe_glob (v := .ref C) rfl mC rfl) cr cE gE hr8 pass0 (pa_cons (pv 2) pa_nil)) (pa_cons (pe_call (E := fun _ _ _ => False) gL hr8 (by rfl) aL.g aL.kp aL.b .nil pass0 (pa_cons (pv 1) pa_nil)) pa_nil))))) pss_nil)
      (pss_one (ps_ret (pe_call (E := fun _ _ _ => False) gL hr8 (by rfl) aL.g aL.kp aL.b .nil pass0 (pa_cons (pe_ix ix_list (pe_lst (pa_cons (pv 3) (pa_cons (pv 1) pa_nil))) (pe_callTy call_int1 (by rfl) zi (by decide +kernel) (pa_cons (pe_cmpR op_eq (pv 4) pe_int (nomark _)) pa_nil)) (fun _ _ => rfl)) pa_nil))))))))), ?_⟩
    refine ⟨_, rfl, t, _, 0, _, rfl, rfl, SqT.of MA.t, rfl, ?_⟩
    have zl : (sgL z).length ≤ 100 := by
      have h1 := sg.le
      have h2 : z.length = z.cps.size := rfl
      rw [sgL_len]
      omega
    refine ⟨_, rfl, _, rfl, a, 2, z, rfl, hR, by decide, by decide, sg.nd, zl, fun H1 t2 R2 E2 rs2 δ2 mem2 hR1 kp1 nR2 nE2 nt2 MA2 MO2 => ?_⟩
    refine ⟨_, rfl, a, 6, rfl, hR1, by decide, by decide, fun d H2 d0 d6 hR2 kp2 => ?_⟩
    have kp02 : KeepN a H H2 := kp1.keepN.trans kp2.keepN
    have T2 : TabsN T H2 := tabs_keep (tabs_keep hT hR kp1) hR1 kp2
    have MA' := macAt_keep MA hR nR nE kp02
    have MA2' := macAt_keep MA2 hR1 (hR.new nR2) (hR.new nE2) kp2.keepN
    have six : rs.length * rs2.length ≤ 6 := Nat.le_trans (Nat.mul_le_mul MO.le MO2.le) (by decide)
    have B : Bs z (rs.length * rs2.length) (prD rs2.length δ1 δ2) := bs_prod sg MO.pos MO2.pos six MO.lt MO2.lt
    have MO' : MacOk (sgL z) rs.length δ1 mem 40 := ⟨MO.pos, Nat.le_trans MO.le (by decide), MO.lt, MO.nd, MO.ml⟩
    have MO2' : MacOk (sgL z) rs2.length δ2 mem2 40 := ⟨MO2.pos, Nat.le_trans MO2.le (by decide), MO2.lt, MO2.nd, MO2.ml⟩
    have le1 : rs.length ≤ 6 := Nat.le_trans MO.le (by decide)
    have le2 : rs2.length ≤ 6 := Nat.le_trans MO2.le (by decide)
    -- the two languages made
    have mk1 : ∀ {Hc : Hp} {Qc : VK}, StayN H2 Hc → TabsN T Hc → (∀ (H' : Hp) (x : Addr) (M : Nat) (d f l), StayN Hc H' → (∀ b, H' b = none → Hc b = none) → TabsN T H' → LangAt C H' x z M d f l → LgM (sgL z) M d f l (prD rs2.length δ1 δ2) (fun n => decide (n / rs2.length ∈ mem)) → Qc (.ref x) H') → spLanguage C T [.ref t] Hc Qc (fun _ _ _ => False) := fun st Tc k =>
      ⟨t, R, E1, z, rs, δ1, mem, rfl, MA'.stay st, MO', few_all le1, sg, Tc, fun H' x M d f l st' nn' T' nx LN LO lv => k H' x M d f l st' nn' T' LN.at_ (lgm_one MO2.pos MO2.lt (Nat.le_trans LO.le le1) LO lv)⟩
    have mk2 : ∀ {Hc : Hp} {Qc : VK}, StayN H2 Hc → TabsN T Hc → (∀ (H' : Hp) (x : Addr) (M : Nat) (d f l), StayN Hc H' → (∀ b, H' b = none → Hc b = none) → TabsN T H' → LangAt C H' x z M d f l → LgM (sgL z) M d f l (prD rs2.length δ1 δ2) (fun n => decide (n % rs2.length ∈ mem2)) → Qc (.ref x) H') → spLanguage C T [.ref t2] Hc Qc (fun _ _ _ => False) := fun st Tc k =>
      ⟨t2, R2, E2, z, rs2, δ2, mem2, rfl, MA2'.stay st, MO2', few_all le2, sg, Tc, fun H' x M d f l st' nn' T' nx LN LO lv => k H' x M d f l st' nn' T' LN.at_ (lgm_two MO2.pos MO2.lt (Nat.le_trans LO.le le2) LO lv)⟩
    have out : ∀ {H' : Hp} {x : Addr} {M : Nat} {d f l} {m : Nat → Bool}, StayN H2 H' → TabsN T H' → LangAt C H' x z M d f l → LgM (sgL z) M d f l (prD rs2.length δ1 δ2) m → Q (.ref x) H' := fun {H'} {x} {M} {d} {f} {l} {m} st T' LA LM => kk H' x M d f l rs2.length δ2 m (hR2.stay' st) (kp02.trans st.keep) T' LA MO2.pos MO2.le MO2.lt LM
    refine ⟨_, rfl, rfl, _, rfl, ?_⟩
    by_cases c0 : d = 0
    · rw [decide_eq_true (show V.int d = V.int 0 by rw [c0])]
      refine iteT ?_
      refine ⟨_, rfl, mk1 (fun _ _ e _ => e) T2 fun H3 x1 M1 e1 f1 l1 st3 nn3 T3 LA1 LM1 => ?_⟩
      refine ⟨_, rfl, mk2 st3 T3 fun H4 x2 M2 e2 f2 l2 st4 nn4 T4 LA2 LM2 => ?_⟩
      exact op_of (β := fun a b => a && b) B (LA1.stay st4) LM1 LA2 LM2 T4 fun H5 x M e f l st5 nn5 T5 nx LA LM => out (fun b u q n => st5 _ _ (st4 _ _ (st3 _ _ q n) n) n) T5 LA LM
    rw [decide_eq_false (show ¬ V.int d = V.int 0 from fun q => c0 (by injection q))]
    refine iteF ?_
    refine ⟨_, rfl, rfl, _, rfl, ?_⟩
    by_cases c1 : d = 1
    · rw [decide_eq_true (show V.int d = V.int 1 by rw [c1])]
      refine iteT ?_
      refine ⟨_, rfl, mk1 (fun _ _ e _ => e) T2 fun H3 x1 M1 e1 f1 l1 st3 nn3 T3 LA1 LM1 => ?_⟩
      refine ⟨_, rfl, mk2 st3 T3 fun H4 x2 M2 e2 f2 l2 st4 nn4 T4 LA2 LM2 => ?_⟩
      exact op_of (β := fun a b => a || b) B (LA1.stay st4) LM1 LA2 LM2 T4 fun H5 x M e f l st5 nn5 T5 nx LA LM => out (fun b u q n => st5 _ _ (st4 _ _ (st3 _ _ q n) n) n) T5 LA LM
    rw [decide_eq_false (show ¬ V.int d = V.int 1 from fun q => c1 (by injection q))]
    refine iteF ?_
    refine ⟨_, rfl, rfl, _, rfl, ?_⟩
    by_cases c2 : d = 2
    · rw [decide_eq_true (show V.int d = V.int 2 by rw [c2])]
      refine iteT ?_
      refine ⟨rfl, _, rfl, every_of (δ := prD rs2.length δ1 δ2) sg T2 fun H3 x1 M1 e1 f1 l1 st3 nn3 T3 nx1 LA1 LM1 => ?_⟩
      refine ⟨_, rfl, mk1 st3 T3 fun H4 x2 M2 e2 f2 l2 st4 nn4 T4 LA2 LM2 => ?_⟩
      exact op_of (β := fun a b => a && !b) B (LA1.stay st4) LM1 LA2 LM2 T4 fun H5 x M e f l st5 nn5 T5 nx LA LM => out (fun b u q n => st5 _ _ (st4 _ _ (st3 _ _ q n) n) n) T5 LA LM
    rw [decide_eq_false (show ¬ V.int d = V.int 2 from fun q => c2 (by injection q))]
    refine iteF ?_
    refine ⟨_, rfl, _, rfl, by show 2 ≤ sizeLine; decide, fun L nL => ?_⟩
    have xL := Ext.new nL (o := .lst [V.ref t2, V.ref t])
    have hL : (upd H2 L (.lst [V.ref t2, V.ref t])) L = some (.lst [V.ref t2, V.ref t]) := upd_same
    generalize upd H2 L (.lst [V.ref t2, V.ref t]) = H3 at xL hL ⊢
    have st3 : StayN H2 H3 := fun b u e _ => xL _ _ e
    refine ⟨_, rfl, rfl, ?_⟩
    refine .inr ⟨_, rfl, ?_⟩
    by_cases c3 : d = 3
    · rw [decide_eq_true (show V.int d = V.int 3 by rw [c3])]
      refine ⟨L, _, 1, _, rfl, rfl, SqL.of hL, rfl, ?_⟩
      exact mk1 st3 (T2.ext xL) fun H4 x1 M1 e1 f1 l1 st4 nn4 T4 LA1 LM1 => out (fun b u q n => st4 _ _ (st3 _ _ q n) n) T4 LA1 LM1
    · rw [decide_eq_false (show ¬ V.int d = V.int 3 from fun q => c3 (by injection q))]
      refine ⟨L, _, 0, _, rfl, rfl, SqL.of hL, rfl, ?_⟩
      exact mk2 st3 (T2.ext xL) fun H4 x1 M1 e1 f1 l1 st4 nn4 T4 LA1 LM1 => out (fun b u q n => st4 _ _ (st3 _ _ q n) n) T4 LA1 LM1
end
end Sl
/-! ## W9 -/
set_option Elab.async false
set_option linter.all false
set_option maxRecDepth 100000
set_option maxHeartbeats 4000000
set_option pp.maxSteps 1500
set_option pp.deepTerms false
/-! languages told by one machine, in short; _law_laws -/
namespace Sl
open PySem PySem.Spec PyProof.Rows L2 TxS LamX NdefX
/-- at x a language of the words that lead the machine to m -/
def Lg (C : Addr) (H : Hp) (z : Str) (δ : Nat → Str → Nat) (x : Addr) (m : Nat → Bool) : Prop := ∃ (M : Nat) (d : Nat → Str → Nat) (f l : List Nat), LangAt C H x z M d f l ∧ LgM (sgL z) M d f l δ m
/-- the own == of the class at C -/
structure EqC (K : PySem.W.Frag) (C f : Addr) (fd : FuncData) : Prop where
  hs : PySem.W.findIn K (.ref C) "__eq__" = some (some (.ref f))
  hf : PySem.W.isFn K (.ref f) = true
  hb : L2.Binds K fd ["self", "other"] []
  ne : PySem.W.findIn K (.ref C) "__ne__" = some (some (.builtin "object.__ne__"))
  hm : PySem.W.mroIn K C (.type "object") = some true
  nf : PySem.W.notFirst K C (.ref C) = true
section
variable {K : PySem.W.Frag} {C : Addr} {T : List NTab} {H H' : Hp} {z : Str} {N : Nat} {δ : Nat → Str → Nat} {m1 m2 m : Nat → Bool} {Q : VK} {x x1 x2 : Addr}
theorem Lg.stay (h : Lg C H z δ x m) (s : StayN H H') : Lg C H' z δ x m := by
  obtain ⟨M, d, f, l, a, b⟩ := h
  exact ⟨M, d, f, l, a.stay s, b⟩
theorem Lg.ins (h : Lg C H z δ x m) : ∃ dx fs, H x = some (.ins C dx fs) := by
  obtain ⟨M, d, f, l, a, b⟩ := h
  obtain ⟨dx, fs, i, _⟩ := a.no "x" (by decide)
  exact ⟨dx, fs, i⟩
theorem Lg.ty (h : Lg C H z δ x m) (iC : C8.InsC K C) : TyX K H (.ref x) (.ref C) := by
  obtain ⟨dx, fs, hp⟩ := h.ins
  exact .base (TyOf.ins hp iC.cl iC.ha iC.hn iC.htk iC.hm)
theorem op_L {β : Bool → Bool → Bool} (B : Bs z N δ) (A1 : Lg C H z δ x1 m1) (A2 : Lg C H z δ x2 m2) (hT : TabsN T H)
    (k : ∀ (H' : Hp) (x : Addr), StayN H H' → TabsN T H' → H x = none → Lg C H' z δ x (fun n => β (m1 n) (m2 n)) → Q (.ref x) H') : spOp C T β [.ref x1, .ref x2] H Q (fun _ _ _ => False) := by
  obtain ⟨M1, d1, f1, l1, a1, b1⟩ := A1
  obtain ⟨M2, d2, f2, l2, a2, b2⟩ := A2
  exact op_of B a1 b1 a2 b2 hT fun H' x M d f l st nn T' nx A ok => k H' x st T' nx ⟨M, d, f, l, A, ok⟩
theorem every_L (sg : SgOk z) (hT : TabsN T H) (k : ∀ (H' : Hp) (x : Addr), StayN H H' → TabsN T H' → H x = none → Lg C H' z δ x (fun _ => true) → Q (.ref x) H') : spEvery C T [.ref C, .str z] H Q (fun _ _ _ => False) :=
  every_of (δ := δ) sg hT fun H' x M d f l st nn T' nx A ok => k H' x st T' nx ⟨M, d, f, l, A, ok⟩
theorem none_L (sg : SgOk z) (hT : TabsN T H) (k : ∀ (H' : Hp) (x : Addr), StayN H H' → TabsN T H' → H x = none → Lg C H' z δ x (fun _ => false) → Q (.ref x) H') : spOf0 C T [.ref C, .str z] H Q (fun _ _ _ => False) :=
  none_of (δ := δ) sg hT fun H' x M d f l st nn T' nx A ok => k H' x st T' nx ⟨M, d, f, l, A, ok⟩
theorem eqG_L {b : Bool} (A1 : Lg C H z δ x1 m1) (A2 : Lg C H z δ x2 m2) (e : b = true ↔ SameM (sgL z) δ m1 m2) (k : Q (.bl b) H) : spEqG K C [.ref x1, .ref x2] H Q (fun _ _ _ => False) := by
  obtain ⟨M1, d1, f1, l1, a1, b1⟩ := A1
  obtain ⟨M2, d2, f2, l2, a2, b2⟩ := A2
  refine ⟨x1, .ref x2, z, M1, d1, f1, l1, rfl, a1, .inl ⟨x2, z, M2, d2, f2, l2, rfl, a2, ?_⟩⟩
  have q := lgEq_iff b1 b2
  rw [← e] at q
  have : lgEq z z M1 M2 d1 d2 f1 f2 = b := by
    cases b <;> cases c : lgEq z z M1 M2 d1 d2 f1 f2 <;> rw [c] at q <;> simp at q ⊢
  rw [this]
  exact k
theorem eq_L {b : Bool} {f : Addr} {fd : FuncData} (iC : C8.InsC K C) (eC : EqC K C f fd) (A1 : Lg C H z δ x1 m1) (A2 : Lg C H z δ x2 m2) (e : b = true ↔ SameM (sgL z) δ m1 m2) (k : Q (.bl b) H) : rEqO K C (spEqG K C) (fun _ _ _ => False) (.ref x1) (.ref x2) H Q := by
  obtain ⟨dx, fs, hp⟩ := A1.ins
  exact ⟨x1, dx, fs, .ref C, rfl, hp, A2.ty iC, eC.nf, eqG_L A1 A2 e ⟨⟨_, rfl⟩, k⟩⟩
theorem ne_L {b : Bool} {f : Addr} {fd : FuncData} (iC : C8.InsC K C) (eC : EqC K C f fd) (A1 : Lg C H z δ x1 m1) (A2 : Lg C H z δ x2 m2) (e : b = true ↔ SameM (sgL z) δ m1 m2) (k : Q (.bl (!b)) H) : rNeO K C (spEqG K C) (fun _ _ _ => False) (.ref x1) (.ref x2) H Q := by
  obtain ⟨dx, fs, hp⟩ := A1.ins
  exact ⟨x1, dx, fs, .ref C, rfl, hp, A2.ty iC, eC.nf, eqG_L A1 A2 e ⟨_, rfl, k⟩⟩
theorem empty_L {b : Bool} (A1 : Lg C H z δ x1 m1) (e : b = true ↔ SameM (sgL z) δ m1 fun _ => false) (k : Q (.bl b) H) : spEmpty C [.ref x1] H Q (fun _ _ _ => False) := by
  obtain ⟨M1, d1, f1, l1, a1, b1⟩ := A1
  refine ⟨x1, z, M1, d1, f1, l1, rfl, a1, ?_⟩
  have q := empty_iff b1
  rw [← e] at q
  have : (!decide (0 ∈ l1)) = b := by
    cases b <;> cases c : (!decide (0 ∈ l1)) <;> rw [c] at q <;> simp at q ⊢
  rw [this]
  exact k
end
theorem same_all {sg : List Str} {δ : Nat → Str → Nat} {m1 m2 : Nat → Bool} (h : ∀ n, m1 n = m2 n) : true = true ↔ SameM sg δ m1 m2 := ⟨fun _ w _ => h _, fun _ => rfl⟩
abbrev sLaws : Stmt := top 57
abbrev nLaws : List Str := ["_law_abc", "_law_one", "_law_other", "_law_whole", "_law_none", "_law_outer", "_law_same"]
def spLaws (C : Addr) (T : List NTab) : Sp := fun vs H Q _ => ∃ (p1 p2 : Addr) (z : Str) (N : Nat) (δ : Nat → Str → Nat) (m1 m2 : Nat → Bool), vs = [.str z, .ref p1, .ref p2] ∧ Bs z N δ ∧ Lg C H z δ p1 m1 ∧ Lg C H z δ p2 m2 ∧ TabsN T H ∧ ∀ H', StayN H H' → TabsN T H' → Q (.bl true) H'
section
variable {P : Program} {w : World} {K : PySem.W.Frag} {mg : Str → Option Value} {base : Heap}
theorem scLaws : FnScope nLaws ["_law_abc", "_law_one", "_law_other"] (defScope sLaws) := ⟨rfl, rfl, rfl, by decide +kernel, rfl, by decide +kernel, by decide +kernel⟩
theorem ok_laws {T : List NTab} {f C fB fEi fW pE fE pM fM fQ : Addr} {fd fdB fdEi fdW fdM fdQ : FuncData} {mc : Value} (F : Fun K "_law_laws" "_law_laws" sLaws f fd)
    (aB : At K mg "both" fB fdB ["one", "other"] []) (gB : FnOk P w K mg base CX0 14 fB fdB ["one", "other"] (spOp C T fun a b => a && b))
    (aEi : At K mg "either" fEi fdEi ["one", "other"] []) (gEi : FnOk P w K mg base CX0 14 fEi fdEi ["one", "other"] (spOp C T fun a b => a || b))
    (aW : At K mg "without" fW fdW ["one", "other"] []) (gW : FnOk P w K mg base CX0 14 fW fdW ["one", "other"] (spOp C T fun a b => a && !b))
    (mC : mg "Language" = some (.ref C)) (cr : ClX.CRead K C mc) (cE : ClX.CMet K C mc "every" pE fE) (gE : FnR P w K mg base CX0 8 fE (spEvery C T))
    (iC : C8.InsC K C) (eC : EqC K C fQ fdQ) (gQ : FnOk P w K mg base CX0 1 fQ fdQ ["self", "other"] (spEqG K C))
    (Tc : LgC K C) (hM : PropOf K C "is_empty" pM fM) (bM : L2.Binds K fdM ["self"] []) (gM : FnOk P w K mg base CX0 1 fM fdM ["self"] (spEmpty C)) (za : mg "all" = none) :
    FnOk P w K mg base CX0 15 f fd ["_law_abc", "_law_one", "_law_other"] (spLaws C T) := by
  refine Sl.Fun.okM F scLaws (fun vs H Q E h => ?_) (fun A0 outer s H vs Q E hr h => ?_)
  · obtain ⟨p1, p2, z, N, δ, m1, m2, rfl, _⟩ := h
    rfl
  · obtain ⟨p1, p2, z, N, δ, m1, m2, rfl, B, L1, L2, T0, k⟩ := h
    have sg := B.sg
    have hr8 := hr.mono (show 8 ≤ 14 by omega)
    have hr1 := hr.mono (show 1 ≤ 14 by omega)
    have hr2 := hr.mono (show 2 ≤ 14 by omega)
    refine ⟨_, pss_cons (ps_par (i := 3) (j := 4) (by rfl) scLaws.nd rfl rfl (by decide) rfl rfl (pa_cons (ClX.pe_cmeth (E := fun _ _ _ => False) (pe_glob (v := .ref C) rfl mC rfl) cr cE gE hr8 pass0 (pa_cons (pv 0) pa_nil)) (pa_cons (pe_call (E := fun _ _ _ => False) gW hr (by rfl) aW.g aW.kp aW.b .nil pass0 (pa_cons (ClX.pe_cmeth (E := fun _ _ _ => False) (pe_glob (v := .ref C) rfl mC rfl) cr cE gE hr8 pass0 (pa_cons (pv 0) pa_nil)) (pa_cons (ClX.pe_cmeth (E := fun _ _ _ => False) (pe_glob (v := .ref C) rfl mC rfl) cr cE gE hr8 pass0 (pa_cons (pv 0) pa_nil)) pa_nil))) pa_nil)) (by rfl))
      (pss_cons (ps_set (i := 5) scLaws.nd rfl (.inl rfl) (pe_lst (pa_cons (pe_call (E := fun _ _ _ => False) gW hr (by rfl) aW.g aW.kp aW.b .nil pass0 (pa_cons (pv 3) (pa_cons (pv 1) pa_nil))) (pa_cons (pe_call (E := fun _ _ _ => False) gW hr (by rfl) aW.g aW.kp aW.b .nil pass0 (pa_cons (pv 3) (pa_cons (pv 2) pa_nil))) pa_nil))))
      (pss_cons (ps_set (i := 6) scLaws.nd rfl (.inl rfl) (pe_lst (pa_cons (pe_cmpR (op_eqO (E := fun _ _ _ => False) gQ hr1 eC.hs eC.hf eC.hb pass0) (pe_call (E := fun _ _ _ => False) gW hr (by rfl) aW.g aW.kp aW.b .nil pass0 (pa_cons (pv 3) (pa_cons (pe_call (E := fun _ _ _ => False) gEi hr (by rfl) aEi.g aEi.kp aEi.b .nil pass0 (pa_cons (pv 1) (pa_cons (pv 2) pa_nil))) pa_nil))) (pe_call (E := fun _ _ _ => False) gB hr (by rfl) aB.g aB.kp aB.b .nil pass0 (pa_cons (pe_ix ix_list (pv 5) pe_int (fun _ _ => rfl)) (pa_cons (pe_ix ix_list (pv 5) pe_int (fun _ _ => rfl)) pa_nil))) (nomark _)) pa_nil)))
      (pss_cons (ps_set (i := 6) scLaws.nd rfl (.inl rfl) (pe_op op_cat (pv 6) (pe_lst (pa_cons (pe_cmpR (op_eqO (E := fun _ _ _ => False) gQ hr1 eC.hs eC.hf eC.hb pass0) (pe_call (E := fun _ _ _ => False) gW hr (by rfl) aW.g aW.kp aW.b .nil pass0 (pa_cons (pv 3) (pa_cons (pe_call (E := fun _ _ _ => False) gB hr (by rfl) aB.g aB.kp aB.b .nil pass0 (pa_cons (pv 1) (pa_cons (pv 2) pa_nil))) pa_nil))) (pe_call (E := fun _ _ _ => False) gEi hr (by rfl) aEi.g aEi.kp aEi.b .nil pass0 (pa_cons (pe_ix ix_list (pv 5) pe_int (fun _ _ => rfl)) (pa_cons (pe_ix ix_list (pv 5) pe_int (fun _ _ => rfl)) pa_nil))) (nomark _)) pa_nil))))
      (pss_cons (ps_set (i := 6) scLaws.nd rfl (.inl rfl) (pe_op op_cat (pv 6) (pe_lst (pa_cons (pe_cmpR (op_eqO (E := fun _ _ _ => False) gQ hr1 eC.hs eC.hf eC.hb pass0) (pe_call (E := fun _ _ _ => False) gW hr (by rfl) aW.g aW.kp aW.b .nil pass0 (pa_cons (pv 1) (pa_cons (pv 2) pa_nil))) (pe_call (E := fun _ _ _ => False) gB hr (by rfl) aB.g aB.kp aB.b .nil pass0 (pa_cons (pv 1) (pa_cons (pe_ix ix_list (pv 5) pe_int (fun _ _ => rfl)) pa_nil))) (nomark _)) (pa_cons (pe_cmpR (op_eqO (E := fun _ _ _ => False) gQ hr1 eC.hs eC.hf eC.hb pass0) (pe_call (E := fun _ _ _ => False) gW hr (by rfl) aW.g aW.kp aW.b .nil pass0 (pa_cons (pv 1) (pa_cons (pv 4) pa_nil))) (pv 1) (nomark _)) (pa_cons (pe_cmpR (op_eqO (E := fun _ _ _ => False) gQ hr1 eC.hs eC.hf eC.hb pass0) (pe_call (E := fun _ _ _ => False) gW hr (by rfl) aW.g aW.kp aW.b .nil pass0 (pa_cons (pv 1) (pa_cons (pv 3) pa_nil))) (pv 4) (nomark _)) pa_nil))))))
      (pss_cons (ps_set (i := 6) scLaws.nd rfl (.inl rfl) (pe_op op_cat (pv 6) (pe_lst (pa_cons (pe_cmpR (op_eqO (E := fun _ _ _ => False) gQ hr1 eC.hs eC.hf eC.hb pass0) (pe_call (E := fun _ _ _ => False) gEi hr (by rfl) aEi.g aEi.kp aEi.b .nil pass0 (pa_cons (pv 1) (pa_cons (pe_ix ix_list (pv 5) pe_int (fun _ _ => rfl)) pa_nil))) (pv 3) (nomark _)) (pa_cons (pe_cmpR (op_eqO (E := fun _ _ _ => False) gQ hr1 eC.hs eC.hf eC.hb pass0) (pe_call (E := fun _ _ _ => False) gB hr (by rfl) aB.g aB.kp aB.b .nil pass0 (pa_cons (pv 1) (pa_cons (pe_ix ix_list (pv 5) pe_int (fun _ _ => rfl)) pa_nil))) (pv 4) (nomark _)) (pa_cons (pe_cmpR (op_eqO (E := fun _ _ _ => False) gQ hr1 eC.hs eC.hf eC.hb pass0) (pe_call (E := fun _ _ _ => False) gW hr (by rfl) aW.g aW.kp aW.b .nil pass0 (pa_cons (pv 3) (pa_cons (pe_ix ix_list (pv 5) pe_int (fun _ _ => rfl)) pa_nil))) (pv 1) (nomark _)) pa_nil))))))
      (pss_cons (ps_set (i := 6) scLaws.nd rfl (.inl rfl) (pe_op op_cat (pv 6) (pe_lst (pa_cons (pe_cmpR (op_eqO (E := fun _ _ _ => False) gQ hr1 eC.hs eC.hf eC.hb pass0) (pe_call (E := fun _ _ _ => False) gB hr (by rfl) aB.g aB.kp aB.b .nil pass0 (pa_cons (pv 1) (pa_cons (pe_call (E := fun _ _ _ => False) gEi hr (by rfl) aEi.g aEi.kp aEi.b .nil pass0 (pa_cons (pv 1) (pa_cons (pv 2) pa_nil))) pa_nil))) (pv 1) (nomark _)) (pa_cons (pe_cmpR (op_eqO (E := fun _ _ _ => False) gQ hr1 eC.hs eC.hf eC.hb pass0) (pe_call (E := fun _ _ _ => False) gEi hr (by rfl) aEi.g aEi.kp aEi.b .nil pass0 (pa_cons (pv 1) (pa_cons (pe_call (E := fun _ _ _ => False) gB hr (by rfl) aB.g aB.kp aB.b .nil pass0 (pa_cons (pv 1) (pa_cons (pv 2) pa_nil))) pa_nil))) (pv 1) (nomark _)) pa_nil)))))
      (pss_one (ps_ret (pe_and (pe_callB (cr_all rfl) (by rfl) za (by decide +kernel) (pa_cons (pv 6) pa_nil)) (pe_and (pe_prop (pv 4) Tc.cl hM gM hr2 bM .nil pass0 rfl) (pe_one (pe_not (pe_prop (pv 3) Tc.cl hM gM hr2 bM .nil pass0 rfl))))))))))))), ?_⟩
    have nl : ∀ {u : List V} (ps : Array Value), HO.lst u ≠ .tbl ps := fun ps z => nomatch z
    refine ⟨rfl, _, rfl, every_L (δ := δ) sg T0 fun H1 x1 st1 T1 nx L_1 => ?_⟩
    refine ⟨rfl, _, rfl, every_L (δ := δ) sg T1 fun H2 x2 st2 T2 nx L_2 => ?_⟩
    refine ⟨rfl, _, rfl, every_L (δ := δ) sg T2 fun H3 x3 st3 T3 nx L_3 => ?_⟩
    have U1 := L_2.stay (show StayN H2 H3 from fun _ _ q n => st3 _ _ (q) n)
    refine op_L (β := fun a b => a && !b) B U1 L_3 T3 fun H4 x4 st4 T4 nx L_4 => ?_
    refine ⟨_, _, rfl, ?_⟩
    refine ⟨_, rfl, ?_⟩
    refine ⟨_, rfl, ?_⟩
    have U2 := L_1.stay (show StayN H1 H4 from fun _ _ q n => st4 _ _ (st3 _ _ (st2 _ _ (q) n) n) n)
    have U3 := L1.stay (show StayN H H4 from fun _ _ q n => st4 _ _ (st3 _ _ (st2 _ _ (st1 _ _ (q) n) n) n) n)
    refine op_L (β := fun a b => a && !b) B U2 U3 T4 fun H5 x5 st5 T5 nx L_5 => ?_
    refine ⟨_, rfl, ?_⟩
    refine ⟨_, rfl, ?_⟩
    have U4 := U2.stay (show StayN H4 H5 from fun _ _ q n => st5 _ _ (q) n)
    have U5 := L2.stay (show StayN H H5 from fun _ _ q n => st5 _ _ (st4 _ _ (st3 _ _ (st2 _ _ (st1 _ _ (q) n) n) n) n) n)
    refine op_L (β := fun a b => a && !b) B U4 U5 T5 fun H6 x6 st6 T6 nx L_6 => ?_
    refine ⟨by show 2 ≤ sizeLine; decide, fun O7 nO7 => ?_⟩
    have st7 : StayN H6 (upd H6 O7 (.lst [V.ref x5, V.ref x6])) := fun b u e _ => Ext.new nO7 _ _ e
    have hO7 : (upd H6 O7 (.lst [V.ref x5, V.ref x6])) O7 = some (.lst [V.ref x5, V.ref x6]) := upd_same
    have T7 := T6.ext (Ext.new nO7 (o := .lst [V.ref x5, V.ref x6]))
    generalize upd H6 O7 (.lst [V.ref x5, V.ref x6]) = H7 at st7 hO7 T7 ⊢
    refine ⟨_, rfl, ?_⟩
    refine ⟨_, rfl, ?_⟩
    refine ⟨_, rfl, ?_⟩
    have U6 := U3.stay (show StayN H4 H7 from fun _ _ q n => st7 _ _ (st6 _ _ (st5 _ _ (q) n) n) n)
    have U7 := U5.stay (show StayN H5 H7 from fun _ _ q n => st7 _ _ (st6 _ _ (q) n) n)
    refine op_L (β := fun a b => a || b) B U6 U7 T7 fun H8 x8 st8 T8 nx L_8 => ?_
    have U8 := U4.stay (show StayN H5 H8 from fun _ _ q n => st8 _ _ (st7 _ _ (st6 _ _ (q) n) n) n)
    refine op_L (β := fun a b => a && !b) B U8 L_8 T8 fun H9 x9 st9 T9 nx L_9 => ?_
    refine ⟨_, rfl, O7, _, 0, _, rfl, rfl, SqL.of (st9 _ _ (st8 _ _ hO7 nl) nl), rfl, ?_⟩
    refine ⟨_, rfl, O7, _, 1, _, rfl, rfl, SqL.of (st9 _ _ (st8 _ _ hO7 nl) nl), rfl, ?_⟩
    have U9 := L_5.stay (show StayN H5 H9 from fun _ _ q n => st9 _ _ (st8 _ _ (st7 _ _ (st6 _ _ (q) n) n) n) n)
    have U10 := L_6.stay (show StayN H6 H9 from fun _ _ q n => st9 _ _ (st8 _ _ (st7 _ _ (q) n) n) n)
    refine op_L (β := fun a b => a && b) B U9 U10 T9 fun H10 x10 st10 T10 nx L_10 => ?_
    have U11 := L_9.stay (show StayN H9 H10 from fun _ _ q n => st10 _ _ (q) n)
    refine eq_L (b := true) iC eC U11 L_10 (same_all fun n => by cases m1 n <;> cases m2 n <;> rfl) ?_
    refine ⟨by show 1 ≤ sizeLine; decide, fun O11 nO11 => ?_⟩
    have st11 : StayN H10 (upd H10 O11 (.lst [V.bl true])) := fun b u e _ => Ext.new nO11 _ _ e
    have hO11 : (upd H10 O11 (.lst [V.bl true])) O11 = some (.lst [V.bl true]) := upd_same
    have T11 := T10.ext (Ext.new nO11 (o := .lst [V.bl true]))
    generalize upd H10 O11 (.lst [V.bl true]) = H11 at st11 hO11 T11 ⊢
    refine ⟨_, rfl, ?_⟩
    refine ⟨_, rfl, ?_⟩
    refine ⟨_, rfl, ?_⟩
    refine ⟨_, rfl, ?_⟩
    have U12 := U6.stay (show StayN H7 H11 from fun _ _ q n => st11 _ _ (st10 _ _ (st9 _ _ (st8 _ _ (q) n) n) n) n)
    have U13 := U7.stay (show StayN H7 H11 from fun _ _ q n => st11 _ _ (st10 _ _ (st9 _ _ (st8 _ _ (q) n) n) n) n)
    refine op_L (β := fun a b => a && b) B U12 U13 T11 fun H12 x12 st12 T12 nx L_12 => ?_
    have U14 := U8.stay (show StayN H8 H12 from fun _ _ q n => st12 _ _ (st11 _ _ (st10 _ _ (st9 _ _ (q) n) n) n) n)
    refine op_L (β := fun a b => a && !b) B U14 L_12 T12 fun H13 x13 st13 T13 nx L_13 => ?_
    refine ⟨_, rfl, O7, _, 0, _, rfl, rfl, SqL.of (st13 _ _ (st12 _ _ (st11 _ _ (st10 _ _ (st9 _ _ (st8 _ _ hO7 nl) nl) nl) nl) nl) nl), rfl, ?_⟩
    refine ⟨_, rfl, O7, _, 1, _, rfl, rfl, SqL.of (st13 _ _ (st12 _ _ (st11 _ _ (st10 _ _ (st9 _ _ (st8 _ _ hO7 nl) nl) nl) nl) nl) nl), rfl, ?_⟩
    have U15 := U9.stay (show StayN H9 H13 from fun _ _ q n => st13 _ _ (st12 _ _ (st11 _ _ (st10 _ _ (q) n) n) n) n)
    have U16 := U10.stay (show StayN H9 H13 from fun _ _ q n => st13 _ _ (st12 _ _ (st11 _ _ (st10 _ _ (q) n) n) n) n)
    refine op_L (β := fun a b => a || b) B U15 U16 T13 fun H14 x14 st14 T14 nx L_14 => ?_
    have U17 := L_13.stay (show StayN H13 H14 from fun _ _ q n => st14 _ _ (q) n)
    refine eq_L (b := true) iC eC U17 L_14 (same_all fun n => by cases m1 n <;> cases m2 n <;> rfl) ?_
    refine ⟨by show 1 ≤ sizeLine; decide, fun O15 nO15 => ?_⟩
    have st15 : StayN H14 (upd H14 O15 (.lst [V.bl true])) := fun b u e _ => Ext.new nO15 _ _ e
    have hO15 : (upd H14 O15 (.lst [V.bl true])) O15 = some (.lst [V.bl true]) := upd_same
    have T15 := T14.ext (Ext.new nO15 (o := .lst [V.bl true]))
    generalize upd H14 O15 (.lst [V.bl true]) = H15 at st15 hO15 T15 ⊢
    refine ⟨O11, O15, _, _, rfl, rfl, (st15 _ _ (st14 _ _ (st13 _ _ (st12 _ _ hO11 nl) nl) nl) nl), hO15, by show 2 ≤ sizeLine; decide, fun O16 nO16 => ?_⟩
    rw [show ([V.bl true] ++ [V.bl true]) = [V.bl true, V.bl true] from rfl]
    have st16 : StayN H15 (upd H15 O16 (.lst [V.bl true, V.bl true])) := fun b u e _ => Ext.new nO16 _ _ e
    have hO16 : (upd H15 O16 (.lst [V.bl true, V.bl true])) O16 = some (.lst [V.bl true, V.bl true]) := upd_same
    have T16 := T15.ext (Ext.new nO16 (o := .lst [V.bl true, V.bl true]))
    generalize upd H15 O16 (.lst [V.bl true, V.bl true]) = H16 at st16 hO16 T16 ⊢
    refine ⟨_, rfl, ?_⟩
    refine ⟨_, rfl, ?_⟩
    refine ⟨_, rfl, ?_⟩
    have U18 := U12.stay (show StayN H11 H16 from fun _ _ q n => st16 _ _ (st15 _ _ (st14 _ _ (st13 _ _ (st12 _ _ (q) n) n) n) n) n)
    have U19 := U13.stay (show StayN H11 H16 from fun _ _ q n => st16 _ _ (st15 _ _ (st14 _ _ (st13 _ _ (st12 _ _ (q) n) n) n) n) n)
    refine op_L (β := fun a b => a && !b) B U18 U19 T16 fun H17 x17 st17 T17 nx L_17 => ?_
    refine ⟨_, rfl, ?_⟩
    refine ⟨_, rfl, O7, _, 1, _, rfl, rfl, SqL.of (st17 _ _ (st16 _ _ (st15 _ _ (st14 _ _ (st13 _ _ (st12 _ _ (st11 _ _ (st10 _ _ (st9 _ _ (st8 _ _ hO7 nl) nl) nl) nl) nl) nl) nl) nl) nl) nl), rfl, ?_⟩
    have U20 := U18.stay (show StayN H16 H17 from fun _ _ q n => st17 _ _ (q) n)
    have U21 := U16.stay (show StayN H13 H17 from fun _ _ q n => st17 _ _ (st16 _ _ (st15 _ _ (st14 _ _ (q) n) n) n) n)
    refine op_L (β := fun a b => a && b) B U20 U21 T17 fun H18 x18 st18 T18 nx L_18 => ?_
    have U22 := L_17.stay (show StayN H17 H18 from fun _ _ q n => st18 _ _ (q) n)
    refine eq_L (b := true) iC eC U22 L_18 (same_all fun n => by cases m1 n <;> cases m2 n <;> rfl) ?_
    refine ⟨_, rfl, ?_⟩
    refine ⟨_, rfl, ?_⟩
    have U23 := U20.stay (show StayN H17 H18 from fun _ _ q n => st18 _ _ (q) n)
    have U24 := L_4.stay (show StayN H4 H18 from fun _ _ q n => st18 _ _ (st17 _ _ (st16 _ _ (st15 _ _ (st14 _ _ (st13 _ _ (st12 _ _ (st11 _ _ (st10 _ _ (st9 _ _ (st8 _ _ (st7 _ _ (st6 _ _ (st5 _ _ (q) n) n) n) n) n) n) n) n) n) n) n) n) n) n)
    refine op_L (β := fun a b => a && !b) B U23 U24 T18 fun H19 x19 st19 T19 nx L_19 => ?_
    refine ⟨_, rfl, ?_⟩
    have U25 := U23.stay (show StayN H18 H19 from fun _ _ q n => st19 _ _ (q) n)
    refine eq_L (b := true) iC eC L_19 U25 (same_all fun n => by cases m1 n <;> cases m2 n <;> rfl) ?_
    refine ⟨_, rfl, ?_⟩
    refine ⟨_, rfl, ?_⟩
    have U26 := U14.stay (show StayN H12 H19 from fun _ _ q n => st19 _ _ (st18 _ _ (st17 _ _ (st16 _ _ (st15 _ _ (st14 _ _ (st13 _ _ (q) n) n) n) n) n) n) n)
    refine op_L (β := fun a b => a && !b) B U25 U26 T19 fun H20 x20 st20 T20 nx L_20 => ?_
    refine ⟨_, rfl, ?_⟩
    have U27 := U24.stay (show StayN H18 H20 from fun _ _ q n => st20 _ _ (st19 _ _ (q) n) n)
    refine eq_L (b := true) iC eC L_20 U27 (same_all fun n => by cases m1 n <;> cases m2 n <;> rfl) ?_
    refine ⟨by show 3 ≤ sizeLine; decide, fun O21 nO21 => ?_⟩
    have st21 : StayN H20 (upd H20 O21 (.lst [V.bl true, V.bl true, V.bl true])) := fun b u e _ => Ext.new nO21 _ _ e
    have hO21 : (upd H20 O21 (.lst [V.bl true, V.bl true, V.bl true])) O21 = some (.lst [V.bl true, V.bl true, V.bl true]) := upd_same
    have T21 := T20.ext (Ext.new nO21 (o := .lst [V.bl true, V.bl true, V.bl true]))
    generalize upd H20 O21 (.lst [V.bl true, V.bl true, V.bl true]) = H21 at st21 hO21 T21 ⊢
    refine ⟨O16, O21, _, _, rfl, rfl, (st21 _ _ (st20 _ _ (st19 _ _ (st18 _ _ (st17 _ _ hO16 nl) nl) nl) nl) nl), hO21, by show 5 ≤ sizeLine; decide, fun O22 nO22 => ?_⟩
    rw [show ([V.bl true, V.bl true] ++ [V.bl true, V.bl true, V.bl true]) = [V.bl true, V.bl true, V.bl true, V.bl true, V.bl true] from rfl]
    have st22 : StayN H21 (upd H21 O22 (.lst [V.bl true, V.bl true, V.bl true, V.bl true, V.bl true])) := fun b u e _ => Ext.new nO22 _ _ e
    have hO22 : (upd H21 O22 (.lst [V.bl true, V.bl true, V.bl true, V.bl true, V.bl true])) O22 = some (.lst [V.bl true, V.bl true, V.bl true, V.bl true, V.bl true]) := upd_same
    have T22 := T21.ext (Ext.new nO22 (o := .lst [V.bl true, V.bl true, V.bl true, V.bl true, V.bl true]))
    generalize upd H21 O22 (.lst [V.bl true, V.bl true, V.bl true, V.bl true, V.bl true]) = H22 at st22 hO22 T22 ⊢
    refine ⟨_, rfl, ?_⟩
    refine ⟨_, rfl, ?_⟩
    refine ⟨_, rfl, O7, _, 0, _, rfl, rfl, SqL.of (st22 _ _ (st21 _ _ (st20 _ _ (st19 _ _ (st18 _ _ (st17 _ _ (st16 _ _ (st15 _ _ (st14 _ _ (st13 _ _ (st12 _ _ (st11 _ _ (st10 _ _ (st9 _ _ (st8 _ _ hO7 nl) nl) nl) nl) nl) nl) nl) nl) nl) nl) nl) nl) nl) nl) nl), rfl, ?_⟩
    have U28 := U25.stay (show StayN H19 H22 from fun _ _ q n => st22 _ _ (st21 _ _ (st20 _ _ (q) n) n) n)
    have U29 := U15.stay (show StayN H13 H22 from fun _ _ q n => st22 _ _ (st21 _ _ (st20 _ _ (st19 _ _ (st18 _ _ (st17 _ _ (st16 _ _ (st15 _ _ (st14 _ _ (q) n) n) n) n) n) n) n) n) n)
    refine op_L (β := fun a b => a || b) B U28 U29 T22 fun H23 x23 st23 T23 nx L_23 => ?_
    refine ⟨_, rfl, ?_⟩
    have U30 := U26.stay (show StayN H19 H23 from fun _ _ q n => st23 _ _ (st22 _ _ (st21 _ _ (st20 _ _ (q) n) n) n) n)
    refine eq_L (b := true) iC eC L_23 U30 (same_all fun n => by cases m1 n <;> cases m2 n <;> rfl) ?_
    refine ⟨_, rfl, ?_⟩
    refine ⟨_, rfl, O7, _, 0, _, rfl, rfl, SqL.of (st23 _ _ (st22 _ _ (st21 _ _ (st20 _ _ (st19 _ _ (st18 _ _ (st17 _ _ (st16 _ _ (st15 _ _ (st14 _ _ (st13 _ _ (st12 _ _ (st11 _ _ (st10 _ _ (st9 _ _ (st8 _ _ hO7 nl) nl) nl) nl) nl) nl) nl) nl) nl) nl) nl) nl) nl) nl) nl) nl), rfl, ?_⟩
    have U31 := U28.stay (show StayN H22 H23 from fun _ _ q n => st23 _ _ (q) n)
    have U32 := U29.stay (show StayN H22 H23 from fun _ _ q n => st23 _ _ (q) n)
    refine op_L (β := fun a b => a && b) B U31 U32 T23 fun H24 x24 st24 T24 nx L_24 => ?_
    refine ⟨_, rfl, ?_⟩
    have U33 := U27.stay (show StayN H20 H24 from fun _ _ q n => st24 _ _ (st23 _ _ (st22 _ _ (st21 _ _ (q) n) n) n) n)
    refine eq_L (b := true) iC eC L_24 U33 (same_all fun n => by cases m1 n <;> cases m2 n <;> rfl) ?_
    refine ⟨_, rfl, ?_⟩
    refine ⟨_, rfl, O7, _, 0, _, rfl, rfl, SqL.of (st24 _ _ (st23 _ _ (st22 _ _ (st21 _ _ (st20 _ _ (st19 _ _ (st18 _ _ (st17 _ _ (st16 _ _ (st15 _ _ (st14 _ _ (st13 _ _ (st12 _ _ (st11 _ _ (st10 _ _ (st9 _ _ (st8 _ _ hO7 nl) nl) nl) nl) nl) nl) nl) nl) nl) nl) nl) nl) nl) nl) nl) nl) nl), rfl, ?_⟩
    have U34 := U30.stay (show StayN H23 H24 from fun _ _ q n => st24 _ _ (q) n)
    have U35 := U32.stay (show StayN H23 H24 from fun _ _ q n => st24 _ _ (q) n)
    refine op_L (β := fun a b => a && !b) B U34 U35 T24 fun H25 x25 st25 T25 nx L_25 => ?_
    refine ⟨_, rfl, ?_⟩
    have U36 := U31.stay (show StayN H23 H25 from fun _ _ q n => st25 _ _ (st24 _ _ (q) n) n)
    refine eq_L (b := true) iC eC L_25 U36 (same_all fun n => by cases m1 n <;> cases m2 n <;> rfl) ?_
    refine ⟨by show 3 ≤ sizeLine; decide, fun O26 nO26 => ?_⟩
    have st26 : StayN H25 (upd H25 O26 (.lst [V.bl true, V.bl true, V.bl true])) := fun b u e _ => Ext.new nO26 _ _ e
    have hO26 : (upd H25 O26 (.lst [V.bl true, V.bl true, V.bl true])) O26 = some (.lst [V.bl true, V.bl true, V.bl true]) := upd_same
    have T26 := T25.ext (Ext.new nO26 (o := .lst [V.bl true, V.bl true, V.bl true]))
    generalize upd H25 O26 (.lst [V.bl true, V.bl true, V.bl true]) = H26 at st26 hO26 T26 ⊢
    refine ⟨O22, O26, _, _, rfl, rfl, (st26 _ _ (st25 _ _ (st24 _ _ (st23 _ _ hO22 nl) nl) nl) nl), hO26, by show 8 ≤ sizeLine; decide, fun O27 nO27 => ?_⟩
    rw [show ([V.bl true, V.bl true, V.bl true, V.bl true, V.bl true] ++ [V.bl true, V.bl true, V.bl true]) = [V.bl true, V.bl true, V.bl true, V.bl true, V.bl true, V.bl true, V.bl true, V.bl true] from rfl]
    have st27 : StayN H26 (upd H26 O27 (.lst [V.bl true, V.bl true, V.bl true, V.bl true, V.bl true, V.bl true, V.bl true, V.bl true])) := fun b u e _ => Ext.new nO27 _ _ e
    have hO27 : (upd H26 O27 (.lst [V.bl true, V.bl true, V.bl true, V.bl true, V.bl true, V.bl true, V.bl true, V.bl true])) O27 = some (.lst [V.bl true, V.bl true, V.bl true, V.bl true, V.bl true, V.bl true, V.bl true, V.bl true]) := upd_same
    have T27 := T26.ext (Ext.new nO27 (o := .lst [V.bl true, V.bl true, V.bl true, V.bl true, V.bl true, V.bl true, V.bl true, V.bl true]))
    generalize upd H26 O27 (.lst [V.bl true, V.bl true, V.bl true, V.bl true, V.bl true, V.bl true, V.bl true, V.bl true]) = H27 at st27 hO27 T27 ⊢
    refine ⟨_, rfl, ?_⟩
    refine ⟨_, rfl, ?_⟩
    refine ⟨_, rfl, ?_⟩
    refine ⟨_, rfl, ?_⟩
    have U37 := U36.stay (show StayN H25 H27 from fun _ _ q n => st27 _ _ (st26 _ _ (q) n) n)
    have U38 := U19.stay (show StayN H16 H27 from fun _ _ q n => st27 _ _ (st26 _ _ (st25 _ _ (st24 _ _ (st23 _ _ (st22 _ _ (st21 _ _ (st20 _ _ (st19 _ _ (st18 _ _ (st17 _ _ (q) n) n) n) n) n) n) n) n) n) n) n)
    refine op_L (β := fun a b => a || b) B U37 U38 T27 fun H28 x28 st28 T28 nx L_28 => ?_
    have U39 := U37.stay (show StayN H27 H28 from fun _ _ q n => st28 _ _ (q) n)
    refine op_L (β := fun a b => a && b) B U39 L_28 T28 fun H29 x29 st29 T29 nx L_29 => ?_
    refine ⟨_, rfl, ?_⟩
    have U40 := U39.stay (show StayN H28 H29 from fun _ _ q n => st29 _ _ (q) n)
    refine eq_L (b := true) iC eC L_29 U40 (same_all fun n => by cases m1 n <;> cases m2 n <;> rfl) ?_
    refine ⟨_, rfl, ?_⟩
    refine ⟨_, rfl, ?_⟩
    refine ⟨_, rfl, ?_⟩
    have U41 := U38.stay (show StayN H27 H29 from fun _ _ q n => st29 _ _ (st28 _ _ (q) n) n)
    refine op_L (β := fun a b => a && b) B U40 U41 T29 fun H30 x30 st30 T30 nx L_30 => ?_
    have U42 := U40.stay (show StayN H29 H30 from fun _ _ q n => st30 _ _ (q) n)
    refine op_L (β := fun a b => a || b) B U42 L_30 T30 fun H31 x31 st31 T31 nx L_31 => ?_
    refine ⟨_, rfl, ?_⟩
    have U43 := U42.stay (show StayN H30 H31 from fun _ _ q n => st31 _ _ (q) n)
    refine eq_L (b := true) iC eC L_31 U43 (same_all fun n => by cases m1 n <;> cases m2 n <;> rfl) ?_
    refine ⟨by show 2 ≤ sizeLine; decide, fun O32 nO32 => ?_⟩
    have st32 : StayN H31 (upd H31 O32 (.lst [V.bl true, V.bl true])) := fun b u e _ => Ext.new nO32 _ _ e
    have hO32 : (upd H31 O32 (.lst [V.bl true, V.bl true])) O32 = some (.lst [V.bl true, V.bl true]) := upd_same
    have T32 := T31.ext (Ext.new nO32 (o := .lst [V.bl true, V.bl true]))
    generalize upd H31 O32 (.lst [V.bl true, V.bl true]) = H32 at st32 hO32 T32 ⊢
    refine ⟨O27, O32, _, _, rfl, rfl, (st32 _ _ (st31 _ _ (st30 _ _ (st29 _ _ (st28 _ _ hO27 nl) nl) nl) nl) nl), hO32, by show 10 ≤ sizeLine; decide, fun O33 nO33 => ?_⟩
    rw [show ([V.bl true, V.bl true, V.bl true, V.bl true, V.bl true, V.bl true, V.bl true, V.bl true] ++ [V.bl true, V.bl true]) = [V.bl true, V.bl true, V.bl true, V.bl true, V.bl true, V.bl true, V.bl true, V.bl true, V.bl true, V.bl true] from rfl]
    have st33 : StayN H32 (upd H32 O33 (.lst [V.bl true, V.bl true, V.bl true, V.bl true, V.bl true, V.bl true, V.bl true, V.bl true, V.bl true, V.bl true])) := fun b u e _ => Ext.new nO33 _ _ e
    have hO33 : (upd H32 O33 (.lst [V.bl true, V.bl true, V.bl true, V.bl true, V.bl true, V.bl true, V.bl true, V.bl true, V.bl true, V.bl true])) O33 = some (.lst [V.bl true, V.bl true, V.bl true, V.bl true, V.bl true, V.bl true, V.bl true, V.bl true, V.bl true, V.bl true]) := upd_same
    have T33 := T32.ext (Ext.new nO33 (o := .lst [V.bl true, V.bl true, V.bl true, V.bl true, V.bl true, V.bl true, V.bl true, V.bl true, V.bl true, V.bl true]))
    generalize upd H32 O33 (.lst [V.bl true, V.bl true, V.bl true, V.bl true, V.bl true, V.bl true, V.bl true, V.bl true, V.bl true, V.bl true]) = H33 at st33 hO33 T33 ⊢
    have U44 := U33.stay (show StayN H24 H33 from fun _ _ q n => st33 _ _ (st32 _ _ (st31 _ _ (st30 _ _ (st29 _ _ (st28 _ _ (st27 _ _ (st26 _ _ (st25 _ _ (q) n) n) n) n) n) n) n) n) n)
    have U45 := U34.stay (show StayN H24 H33 from fun _ _ q n => st33 _ _ (st32 _ _ (st31 _ _ (st30 _ _ (st29 _ _ (st28 _ _ (st27 _ _ (st26 _ _ (st25 _ _ (q) n) n) n) n) n) n) n) n) n)
    obtain ⟨dn, gn, iN⟩ := U44.ins
    obtain ⟨dw, gw, iW⟩ := U45.ins
    refine ⟨_, rfl, O33, [true, true, true, true, true, true, true, true, true, true], rfl, SqL.of hO33, ?_⟩
    refine ⟨_, rfl, iteT ?_⟩
    refine ⟨_, rfl, x4, dn, gn, rfl, iN, empty_L (b := true) U44 (same_all fun n => rfl) ?_⟩
    refine ⟨_, rfl, iteT ?_⟩
    refine ⟨_, rfl, x1, dw, gw, rfl, iW, empty_L (b := false) U45 ⟨fun z => Bool.noConfusion z, fun z => Bool.noConfusion (show true = false from z [] (by simp))⟩ ?_⟩
    refine ⟨_, rfl, ?_⟩
    exact k _ (fun _ _ q n => st33 _ _ (st32 _ _ (st31 _ _ (st30 _ _ (st29 _ _ (st28 _ _ (st27 _ _ (st26 _ _ (st25 _ _ (st24 _ _ (st23 _ _ (st22 _ _ (st21 _ _ (st20 _ _ (st19 _ _ (st18 _ _ (st17 _ _ (st16 _ _ (st15 _ _ (st14 _ _ (st13 _ _ (st12 _ _ (st11 _ _ (st10 _ _ (st9 _ _ (st8 _ _ (st7 _ _ (st6 _ _ (st5 _ _ (st4 _ _ (st3 _ _ (st2 _ _ (st1 _ _ (q) n) n) n) n) n) n) n) n) n) n) n) n) n) n) n) n) n) n) n) n) n) n) n) n) n) n) n) n) n) n) n) n) n) T33
end
end Sl
/-! ## W10 -/
set_option Elab.async false
set_option linter.all false
set_option maxRecDepth 100000
set_option maxHeartbeats 4000000
set_option pp.maxSteps 1500
set_option pp.deepTerms false
/-! _law_are, _law_is_within_right -/
namespace Sl
open PySem PySem.Spec PyProof.Rows L2 TxS LamX NdefX
abbrev sAre : Stmt := top 58
abbrev sWithinR : Stmt := top 59
def spAre (C : Addr) : Sp := fun vs H Q _ => ∃ (p q : Addr) (z : Str) (δ : Nat → Str → Nat) (m1 m2 : Nat → Bool) (d : Bool), vs = [.ref p, .ref q, .bl d] ∧ Lg C H z δ p m1 ∧ Lg C H z δ q m2 ∧ (d = true ↔ SameM (sgL z) δ m1 m2) ∧ ∀ H', Ext H H' → Q (.bl true) H'
theorem SameM.symm {sg : List Str} {δ : Nat → Str → Nat} {m1 m2 : Nat → Bool} : SameM sg δ m1 m2 ↔ SameM sg δ m2 m1 := ⟨fun h w hw => (h w hw).symm, fun h w hw => (h w hw).symm⟩
theorem SameM.by {sg : List Str} {δ : Nat → Str → Nat} {a b c d : Nat → Bool} (h : ∀ n, a n = b n ↔ c n = d n) : SameM sg δ a b ↔ SameM sg δ c d := ⟨fun q w hw => (h _).mp (q w hw), fun q w hw => (h _).mpr (q w hw)⟩
section
variable {P : Program} {w : World} {K : PySem.W.Frag} {mg : Str → Option Value} {base : Heap}
theorem scAre : FnScope ["_law_one", "_law_other", "_law_due", "_law_told"] ["_law_one", "_law_other", "_law_due"] (defScope sAre) := ⟨rfl, rfl, rfl, by decide +kernel, rfl, by decide +kernel, by decide +kernel⟩
theorem ok_are {f fE C : Addr} {fd fdE : FuncData} (F : Fun K "_law_are" "_law_are" sAre f fd) (iC : C8.InsC K C) (eC : EqC K C fE fdE) (gE : FnOk P w K mg base CX0 1 fE fdE ["self", "other"] (spEqG K C)) (zp : mg "repr" = none) :
    FnG P w K mg base CX0 3 f fd ["_law_one", "_law_other", "_law_due"] (spAre C) := by
  refine Sl.Fun.okG F scAre (fun vs H Q E h => ?_) (fun cdv A0 outer s H vs Q E gd hr h => ?_)
  · obtain ⟨p, q, z, δ, m1, m2, d, rfl, _⟩ := h
    rfl
  · obtain ⟨p, q, z, δ, m1, m2, d, rfl, RA, RB, e1, k⟩ := h
    have hu0 := hr.units
    have e2 : d = true ↔ SameM (sgL z) δ m2 m1 := e1.trans SameM.symm
    have hr1 : Room 1 (A0.deeper (envOfC "_law_are" (defScope sAre) s.heap.objs.size f cdv)) := hr.mono (by decide)
    refine ⟨_, pss_cons (ps_set (i := 3) scAre.nd rfl (.inl rfl) (pe_lst (pa_cons (pe_cmpR (op_eqO (E := fun _ _ _ => False) gE hr1 eC.hs eC.hf eC.hb pass0) (pv 0) (pv 1) (nomark _))
        (pa_cons (pe_cmpR (op_eqO (E := fun _ _ _ => False) gE hr1 eC.hs eC.hf eC.hb pass0) (pv 1) (pv 0) (nomark _))
        (pa_cons (pe_cmpR (op_neO (E := fun _ _ _ => False) gE hr eC.hm eC.ne eC.hs eC.hf eC.hb pass0) (pv 0) (pv 1) (nomark _))
        (pa_cons (pe_cmpR (op_neO (E := fun _ _ _ => False) gE hr eC.hm eC.ne eC.hs eC.hf eC.hb pass0) (pv 1) (pv 0) (nomark _)) pa_nil))))))
      (pss_one (ps_ret (pe_cmpR op_eq (pe_callB (cr_shown gd hu0) (by rfl) zp (by decide +kernel) (pa_cons (pv 3) pa_nil))
        (pe_callB (cr_shown gd hu0) (by rfl) zp (by decide +kernel) (pa_cons (pe_lst (pa_cons (pv 2) (pa_cons (pv 2) (pa_cons (pe_not (pv 2)) (pa_cons (pe_not (pv 2)) pa_nil))))) pa_nil)) (nomark _)))), ?_⟩
    refine ⟨_, rfl, _, rfl, eq_L iC eC RA RB e1 ?_⟩
    refine ⟨_, rfl, _, rfl, eq_L iC eC RB RA e2 ?_⟩
    refine ⟨_, rfl, _, rfl, ne_L iC eC RA RB e1 ?_⟩
    refine ⟨_, rfl, _, rfl, ne_L iC eC RB RA e2 ?_⟩
    refine ⟨by show 4 ≤ sizeLine; decide, fun L nL => ?_⟩
    have x1 : Ext H (upd H L (.lst [.bl d, .bl d, .bl (!d), .bl (!d)])) := Ext.new nL
    have l1 : (upd H L (.lst [.bl d, .bl d, .bl (!d), .bl (!d)])) L = some (.lst ([d, d, !d, !d].map V.bl)) := upd_same
    generalize upd H L (.lst [.bl d, .bl d, .bl (!d), .bl (!d)]) = H1 at x1 l1 ⊢
    have fin : ∀ d : Bool, (PyData.list ([d, d, !d, !d].map PyData.bool)).showable = true ∧ (PyData.list ([d, d, !d, !d].map PyData.bool)).hasDict = false ∧ (PyData.list ([d, d, !d, !d].map PyData.bool)).depth ≤ 60 ∧ (PyData.list ([d, d, !d, !d].map PyData.bool)).shown.length ≤ 10000 := by decide +kernel
    obtain ⟨f1, f2, f3, f4⟩ := fin d
    refine ⟨_, rfl, L, _, rfl, .lst (SqL.of l1) (dp_bools _), f1, f2, f3, small_size f4, ?_⟩
    refine ⟨_, rfl, _, rfl, _, rfl, _, rfl, ?_⟩
    refine ⟨_, rfl, _, rfl, ?_⟩
    refine ⟨by show 4 ≤ sizeLine; decide, fun L2 nL2 => ?_⟩
    refine ⟨L2, _, rfl, .lst (SqL.of (xs := [d, d, !d, !d].map V.bl) upd_same) (dp_bools _), f1, f2, f3, small_size f4, rfl, ?_⟩
    rw [decide_eq_true rfl]
    exact k _ (x1.trans (Ext.new nL2))
end
theorem within_L {C : Addr} {T : List NTab} {H : Hp} {z : Str} {N : Nat} {δ : Nat → Str → Nat} {m1 m2 : Nat → Bool} {Q : VK} {x1 x2 : Addr} {d : Bool} (B : Bs z N δ) (e : d = true ↔ SameM (sgL z) δ (fun n => m1 n && !m2 n) fun _ => false) (A1 : Lg C H z δ x1 m1) (A2 : Lg C H z δ x2 m2) (hT : TabsN T H)
    (k : ∀ (H' : Hp), StayN H H' → TabsN T H' → Q (.bl d) H') : spWithG C T [.ref x1, .ref x2] H Q (fun _ _ _ => False) := by
  obtain ⟨M1, e1, f1, l1, a1, b1⟩ := A1
  obtain ⟨M2, e2, f2, l2, a2, b2⟩ := A2
  refine with_of B a1 b1 a2 b2 hT fun H' b st nn T' q => ?_
  have : b = d := by
    rw [← e] at q
    cases b <;> cases d <;> simp at q ⊢
  rw [this]
  exact k H' st T'
abbrev nWithinR : List Str := ["_law_one", "_law_other", "_law_first", "_law_second_here", "_law_due", "_law_here", "_law_there"]
/-- the truths of the words of up to eight signs -/
def toldL (z : Str) (δ : Nat → Str → Nat) (m : Nat → Bool) : List Bool := (allW (sgL z) 8).map fun w => m (run δ 0 w)
theorem toldL_len {z : Str} {δ : Nat → Str → Nat} {m : Nat → Bool} : (toldL z δ m).length = (allW (sgL z) 8).length := List.length_map ..
def spWithinR (C : Addr) (T : List NTab) : Sp := fun vs H Q _ => ∃ (p q La Lb : Addr) (z : Str) (N : Nat) (δ : Nat → Str → Nat) (m1 m2 : Nat → Bool), vs = [.ref p, .ref q, .ref La, .ref Lb] ∧ Bs z N δ ∧ Lg C H z δ p m1 ∧ Lg C H z δ q m2 ∧ TabsN T H ∧
  H La = some (.lst ((toldL z δ m1).map V.bl)) ∧ H Lb = some (.lst ((toldL z δ m2).map V.bl)) ∧ (allW (sgL z) 8).length ≤ 600000 ∧ ∀ H', StayN H H' → TabsN T H' → Q (.bl true) H'
section
variable {P : Program} {w : World} {K : PySem.W.Frag} {mg : Str → Option Value} {base : Heap}
theorem scWithinR : FnScope nWithinR ["_law_one", "_law_other", "_law_first", "_law_second_here"] (defScope sWithinR) := ⟨rfl, rfl, rfl, by decide +kernel, rfl, by decide +kernel, by decide +kernel⟩
theorem ok_withinR {T : List NTab} {f C fB fEi fWi fQ : Addr} {fd fdB fdEi fdWi fdQ : FuncData} (F : Fun K "_law_is_within_right" "_law_is_within_right" sWithinR f fd)
    (aB : At K mg "both" fB fdB ["one", "other"] []) (gB : FnOk P w K mg base CX0 14 fB fdB ["one", "other"] (spOp C T fun a b => a && b))
    (aEi : At K mg "either" fEi fdEi ["one", "other"] []) (gEi : FnOk P w K mg base CX0 14 fEi fdEi ["one", "other"] (spOp C T fun a b => a || b))
    (aWi : At K mg "is_within" fWi fdWi ["one", "other"] []) (gWi : FnOk P w K mg base CX0 10 fWi fdWi ["one", "other"] (spWithG C T))
    (iC : C8.InsC K C) (eC : EqC K C fQ fdQ) (gQ : FnOk P w K mg base CX0 1 fQ fdQ ["self", "other"] (spEqG K C)) (zp : mg "repr" = none) (zy : mg "any" = none) (zz : mg "zip" = none) :
    FnG P w K mg base CX0 15 f fd ["_law_one", "_law_other", "_law_first", "_law_second_here"] (spWithinR C T) := by
  refine Sl.Fun.okG F scWithinR (fun vs H Q E h => ?_) (fun cdv A0 outer s H vs Q E gd hr h => ?_)
  · obtain ⟨p, q, La, Lb, z, N, δ, m1, m2, rfl, _⟩ := h
    rfl
  · obtain ⟨p, q, La, Lb, z, N, δ, m1, m2, rfl, B, L1, L2, hT, ha, hb, lw, k⟩ := h
    have hu0 : (A0.deeper (envOfC "_law_is_within_right" (defScope sWithinR) s.heap.objs.size f cdv)).units + 64 < cLine := by
      have := hr.un
      omega
    have hr1 := hr.mono (show 1 ≤ 14 by omega)
    have hr10 := hr.mono (show 10 ≤ 14 by omega)
    have nl : ∀ {u : List V} (ps : Array Value), HO.lst u ≠ .tbl ps := fun ps z => nomatch z
    refine ⟨_, pss_cons (ps_set (i := 4) scWithinR.nd rfl (.inl rfl) (pe_not (pe_callB (cr_any rfl) (by rfl) zy (by decide +kernel) (pa_cons (pe_lc (own := [("_law_here", 5), ("_law_there", 6)]) (g := gTup K 2 (gCons (gName 5) (gCons (gName 6) gNil))) (tt := tYes) (te := tAndV (tVar 5) (tNotV (tVar 6))) rfl scWithinR.nd (pi_zip (by rfl) zz (pa_cons (pv 2) (pa_cons (pv 3) pa_nil))) (blkOk_by (N := nWithinR) (sc := defScope sWithinR) (by decide +kernel))
          (fun _ _ _ _ _ => pg_tup rfl (pgs_cons (pg_name (i := 5) scWithinR.nd rfl (Or.inl rfl)) (pgs_cons (pg_name (i := 6) scWithinR.nd rfl (Or.inl rfl)) pgs_nil))) (fun _ _ _ _ _ => pts_nil) (fun _ _ _ _ _ => pe_and (pv 5) (pe_one (pe_not (pv 6))))) pa_nil))))
      (pss_cons (ps_if (pt_cmpR op_ne (pe_callB (cr_shown gd hu0) (by rfl) zp (by decide +kernel) (pa_cons (pe_lst (pa_cons (pe_call (E := fun _ _ _ => False) gWi hr10 (by rfl) aWi.g aWi.kp aWi.b .nil pass0 (pa_cons (pv 0) (pa_cons (pv 1) pa_nil))) (pa_cons (pe_call (E := fun _ _ _ => False) gWi hr10 (by rfl) aWi.g aWi.kp aWi.b .nil pass0 (pa_cons (pv 0) (pa_cons (pv 1) pa_nil))) pa_nil))) pa_nil))
          (pe_callB (cr_shown gd hu0) (by rfl) zp (by decide +kernel) (pa_cons (pe_lst (pa_cons (pv 4) (pa_cons (pv 4) pa_nil))) pa_nil)) (nomark _)) pss_dead pss_nil)
      (pss_one (ps_ret (pe_and (pe_cmpR op_eq (pe_cmpR (op_eqO (E := fun _ _ _ => False) gQ hr1 eC.hs eC.hf eC.hb pass0) (pe_call (E := fun _ _ _ => False) gB hr (by rfl) aB.g aB.kp aB.b .nil pass0 (pa_cons (pv 0) (pa_cons (pv 1) pa_nil))) (pv 0) (nomark _)) (pv 4) (nomark _))
        (pe_one (pe_cmpR op_eq (pe_cmpR (op_eqO (E := fun _ _ _ => False) gQ hr1 eC.hs eC.hf eC.hb pass0) (pe_call (E := fun _ _ _ => False) gEi hr (by rfl) aEi.g aEi.kp aEi.b .nil pass0 (pa_cons (pv 0) (pa_cons (pv 1) pa_nil))) (pv 1) (nomark _)) (pv 4) (nomark _))))))), ?_⟩
    have la : ((toldL z δ m1).map V.bl).length = (allW (sgL z) 8).length := by rw [List.length_map, toldL_len]
    have lb : ((toldL z δ m2).map V.bl).length = (allW (sgL z) 8).length := by rw [List.length_map, toldL_len]
    refine ⟨_, rfl, _, rfl, La, Lb, _, _, rfl, SqL.of ha, SqL.of hb, fun D nD => ?_⟩
    refine lc_it (walk_zip (n := (allW (sgL z) 8).length) (by rw [la, lb, Nat.min_self])) (fun i H' => Ext H H' ∧ H' D = some (.lst (((toldL z δ fun n => m1 n && !m2 n).take i).map V.bl))) ⟨Ext.new nD, upd_same⟩ (fun i H' _ h => ⟨SqL.of (h.1 _ _ ha), SqL.of (h.1 _ _ hb)⟩) ?_ ?_
    · rintro i x H8 H9 hi ⟨x8, hD⟩ ⟨Tp, u, v, rfl, nT, rfl, hu, hv⟩
      have hw : (allW (sgL z) 8)[i]? = some (allW (sgL z) 8)[i] := List.getElem?_eq_getElem hi
      generalize (allW (sgL z) 8)[i] = w1 at hw
      have gt : ∀ m : Nat → Bool, (toldL z δ m)[i]? = some (m (run δ 0 w1)) := fun m => by
        unfold toldL
        rw [List.getElem?_map, hw]
        rfl
      dsimp only at hu hv
      rw [List.getElem?_map, gt] at hu hv
      cases hu
      cases hv
      have y1 := Ext.new nT (o := .tup [V.bl (m1 (run δ 0 w1)), V.bl (m2 (run δ 0 w1))])
      have hTp : (upd H8 Tp (.tup [V.bl (m1 (run δ 0 w1)), V.bl (m2 (run δ 0 w1))])) Tp = some (.tup [V.bl (m1 (run δ 0 w1)), V.bl (m2 (run δ 0 w1))]) := upd_same
      generalize upd H8 Tp (.tup [V.bl (m1 (run δ 0 w1)), V.bl (m2 (run δ 0 w1))]) = H9 at y1 hTp ⊢
      refine ⟨Tp, _, rfl, SqT.of hTp, rfl, _, _, rfl, _, _, rfl, rfl, rfl, ?_⟩
      dsimp only [tYes]
      rw [if_pos rfl]
      have fin : ∃ acc, H9 D = some (.lst acc) ∧ acc.length < sizeLine ∧ Ext H (upd H9 D (.lst (acc ++ [V.bl (m1 (run δ 0 w1) && !m2 (run δ 0 w1))]))) ∧ (upd H9 D (.lst (acc ++ [V.bl (m1 (run δ 0 w1) && !m2 (run δ 0 w1))]))) D = some (.lst (((toldL z δ fun n => m1 n && !m2 n).take (i + 1)).map V.bl)) := by
        refine ⟨_, y1 _ _ hD, ?_, fun b o e => ?_, ?_⟩
        · rw [List.length_map, List.length_take, sizeLine_eq]
          omega
        · rw [upd_ne (ne_of_none e nD)]
          exact y1 _ _ (x8 _ _ e)
        · rw [upd_same, take_more (gt _), List.map_append]
          rfl
      refine ⟨_, rfl, _, rfl, ?_⟩
      cases c : m1 (run δ 0 w1) with
      | false =>
        rw [c] at fin
        exact iteF fin
      | true =>
        rw [c] at fin
        exact iteT ⟨_, rfl, _, rfl, fin⟩
    rintro H1 ⟨x1, hD⟩
    rw [← toldL_len (δ := δ) (m := fun n => m1 n && !m2 n), List.take_length] at hD
    refine ⟨D, _, rfl, SqL.of hD, ?_⟩
    have due : (!(toldL z δ fun n => m1 n && !m2 n).any id) = true ↔ SameM (sgL z) δ (fun n => m1 n && !m2 n) fun _ => false := by
      rw [same_short B]
      unfold toldL
      rw [Bool.not_eq_true', List.any_eq_false]
      constructor
      · intro h w hw
        have := h _ (List.mem_map.mpr ⟨w, hw, rfl⟩)
        simpa using this
      · rintro h x hx
        obtain ⟨w, hw, rfl⟩ := List.mem_map.mp hx
        have := h w hw
        simp only [id]
        rw [this]
        decide
    refine ⟨_, rfl, ?_⟩
    generalize (!(toldL z δ fun n => m1 n && !m2 n).any id) = d at due ⊢
    have T1 := hT.ext x1
    have stE : ∀ {Ha Hb : Hp}, Ext Ha Hb → StayN Ha Hb := fun x b o e _ => x b o e
    have d1 : d = true ↔ SameM (sgL z) δ (fun n => m1 n && m2 n) m1 := due.trans (SameM.by fun n => by cases m1 n <;> cases m2 n <;> decide)
    have d2 : d = true ↔ SameM (sgL z) δ (fun n => m1 n || m2 n) m2 := due.trans (SameM.by fun n => by cases m1 n <;> cases m2 n <;> decide)
    have L1 := L1.stay (stE x1)
    have L2 := L2.stay (stE x1)
    have st1 := stE x1
    refine ⟨_, rfl, _, rfl, ?_⟩
    dsimp only [tNil]
    refine within_L B due L1 L2 T1 fun H2 st2 T2 => ?_
    refine ⟨_, rfl, _, rfl, ?_⟩
    dsimp only [tNil]
    refine within_L B due (L1.stay st2) (L2.stay st2) T2 fun H3 st3 T3 => ?_
    have L1 := (L1.stay st2).stay st3
    have L2 := (L2.stay st2).stay st3
    have st03 : StayN H H3 := fun b u e n => st3 _ _ (st2 _ _ (st1 _ _ e n) n) n
    refine ⟨by show 2 ≤ sizeLine; decide, fun O nO => ?_⟩
    have x4 : Ext H3 (upd H3 O (.lst [.bl d, .bl d])) := Ext.new nO
    have hO : (upd H3 O (.lst [.bl d, .bl d])) O = some (.lst ([d, d].map V.bl)) := upd_same
    generalize upd H3 O (.lst [.bl d, .bl d]) = H4 at x4 hO ⊢
    have fin : ∀ d : Bool, (PyData.list ([d, d].map PyData.bool)).showable = true ∧ (PyData.list ([d, d].map PyData.bool)).hasDict = false ∧ (PyData.list ([d, d].map PyData.bool)).depth ≤ 60 ∧ (PyData.list ([d, d].map PyData.bool)).shown.length ≤ 10000 := by decide +kernel
    obtain ⟨g1, g2, g3, g4⟩ := fin d
    refine ⟨O, _, rfl, .lst (SqL.of hO) (dp_bools _), g1, g2, g3, small_size g4, ?_⟩
    refine ⟨_, rfl, _, rfl, by show 2 ≤ sizeLine; decide, fun O2 nO2 => ?_⟩
    have x5 : Ext H4 (upd H4 O2 (.lst [.bl d, .bl d])) := Ext.new nO2
    have hO2 : (upd H4 O2 (.lst [.bl d, .bl d])) O2 = some (.lst ([d, d].map V.bl)) := upd_same
    generalize upd H4 O2 (.lst [.bl d, .bl d]) = H5 at x5 hO2 ⊢
    refine ⟨O2, _, rfl, .lst (SqL.of hO2) (dp_bools _), g1, g2, g3, small_size g4, rfl, ?_⟩
    rw [decide_eq_true rfl]
    refine ⟨_, rfl, iteF ?_⟩
    have st35 : StayN H3 H5 := stE (x4.trans x5)
    have L1 := L1.stay st35
    have L2 := L2.stay st35
    refine ⟨_, rfl, _, rfl, op_L (β := fun a b => a && b) B L1 L2 ((T3.ext x4).ext x5) fun H6 y6 st6 T6 n6 A6 => ?_⟩
    refine ⟨_, rfl, eq_L iC eC A6 (L1.stay st6) d1 ?_⟩
    refine ⟨_, rfl, rfl, ?_⟩
    rw [decide_eq_true rfl]
    refine ⟨_, rfl, iteT ?_⟩
    refine ⟨_, rfl, _, rfl, op_L (β := fun a b => a || b) B (L1.stay st6) (L2.stay st6) T6 fun H7 y7 st7 T7 n7 A7 => ?_⟩
    refine ⟨_, rfl, eq_L iC eC A7 ((L2.stay st6).stay st7) d2 ?_⟩
    refine ⟨_, rfl, rfl, ?_⟩
    rw [decide_eq_true rfl]
    exact k _ (fun b u e n => st7 _ _ (st6 _ _ (st35 _ _ (st03 _ _ e n) n) n) n) T7
end
end Sl
/-! ## M6 -/
set_option Elab.async false
set_option linter.all false
set_option maxRecDepth 100000
set_option maxHeartbeats 4000000
/-! other signs than z -/
namespace Sl
open PySem PySem.Spec PyProof.Rows L2
theorem sub_len {α : Type} [DecidableEq α] : ∀ {l m : List α}, l.Nodup → (∀ x ∈ l, x ∈ m) → l.length ≤ m.length
  | [], _, _, _ => Nat.zero_le _
  | a :: l, m, nd, h => by
    have ha := h a List.mem_cons_self
    have q := sub_len (l := l) (m := m.erase a) (List.nodup_cons.mp nd).2 fun x hx => (List.mem_erase_of_ne fun e => (List.nodup_cons.mp nd).1 (by rw [← e]; exact hx)).mpr (h x (List.mem_cons_of_mem _ hx))
    rw [List.length_erase_of_mem ha] at q
    have := List.length_pos_of_mem ha
    rw [List.length_cons]
    omega
theorem sg_cut (z : Str) (lo hi : Option Int) : sgL (cutS z lo hi) = ((sgL z).drop (HT.sIx z.length 0 lo)).take (HT.sIx z.length z.length hi - HT.sIx z.length 0 lo) := by
  unfold sgL cutS
  rw [List.map_take, List.map_drop]
theorem cut_in {z : Str} {lo hi : Option Int} {c : Str} (h : c ∈ sgL (cutS z lo hi)) : c ∈ sgL z := by
  rw [sg_cut] at h
  exact List.mem_of_mem_drop (List.mem_of_mem_take h)
theorem cut_nd {z : Str} {lo hi : Option Int} (h : (sgL z).Nodup) : (sgL (cutS z lo hi)).Nodup := by
  rw [sg_cut]
  exact h.sublist ((List.take_sublist _ _).trans (List.drop_sublist _ _))
/-- the letters that z lacks -/
def oddC (z : Str) : List Nat := abc.cps.toList.filter fun c => !decide (c ∈ z.cps.toList)
def oddL (z : Str) : List Str := (oddC z).map fun c => ⟨#[c]⟩
theorem one_inj {a b : Nat} (h : (⟨#[a]⟩ : Str) = ⟨#[b]⟩) : a = b := by
  injection h with h
  simpa using h
theorem odd_mem {z c : Str} (h : c ∈ oddL z) : c ∈ abcL ∧ c ∉ sgL z := by
  unfold oddL oddC at h
  obtain ⟨x, hx, rfl⟩ := List.mem_map.mp h
  obtain ⟨h1, h2⟩ := List.mem_filter.mp hx
  refine ⟨List.mem_map.mpr ⟨x, h1, rfl⟩, fun hz => ?_⟩
  unfold sgL at hz
  obtain ⟨y, hy, e⟩ := List.mem_map.mp hz
  rw [one_inj e] at hy
  rw [decide_eq_true hy] at h2
  cases h2
theorem odd_nd (z : Str) : (oddL z).Nodup := by
  unfold oddL List.Nodup
  rw [List.pairwise_map]
  have nd : abc.cps.toList.Nodup := by decide +kernel
  exact (nd.sublist List.filter_sublist).imp fun h e => h (one_inj e)
theorem odd_len {z : Str} (sg : SgOk z) : 22 ≤ (oddL z).length ∧ (oddL z).length ≤ 26 := by
  have nd : abc.cps.toList.Nodup := by decide +kernel
  have e26 : abc.cps.toList.length = 26 := by decide +kernel
  have q1 : (abc.cps.toList.filter fun c => decide (c ∈ z.cps.toList)).length ≤ z.cps.toList.length := sub_len (nd.sublist List.filter_sublist) fun x hx => of_decide_eq_true (List.mem_filter.mp hx).2
  have zl : z.cps.toList.length = z.cps.size := Array.length_toList
  have z4 : z.cps.size ≤ 4 := sg.le
  have sum : ∀ (p : Nat → Bool) (l : List Nat), (l.filter p).length + (l.filter fun c => !p c).length = l.length := fun p l => by
    induction l with
    | nil => rfl
    | cons a l ih =>
      rw [List.filter_cons, List.filter_cons]
      cases p a <;> simp <;> omega
  have q2 := sum (fun c => decide (c ∈ z.cps.toList)) abc.cps.toList
  unfold oddL oddC
  rw [List.length_map]
  omega
/-- one to four different letters, not all of them of z -/
structure OddOk (z y : Str) : Prop where
  nd : (sgL y).Nodup
  abc : ∀ c ∈ sgL y, c ∈ abcL
  pos : 1 ≤ (sgL y).length
  le : (sgL y).length ≤ 4
  odd : ∃ c ∈ sgL y, c ∉ sgL z
theorem odd_cut {z s : Str} {lo hi : Option Int} (e : sgL s = oddL z) (h1 : 1 ≤ (sgL (cutS s lo hi)).length) (h4 : (sgL (cutS s lo hi)).length ≤ 4) : OddOk z (cutS s lo hi) := by
  have inn : ∀ c ∈ sgL (cutS s lo hi), c ∈ oddL z := fun c hc => by
    rw [← e]
    exact cut_in hc
  refine ⟨cut_nd (by rw [e]; exact odd_nd z), fun c hc => (odd_mem (inn c hc)).1, h1, h4, ?_⟩
  obtain ⟨c, hc⟩ := List.exists_mem_of_length_pos (l := sgL (cutS s lo hi)) (by omega)
  exact ⟨c, hc, (odd_mem (inn c hc)).2⟩
theorem cut_first {s : Str} {n : Nat} (h : n ≤ s.length) : (sgL (cutS s none (some (n : Int)))).length = n := by
  rw [sg_cut, List.length_take, List.length_drop, show HT.sIx s.length 0 none = 0 from rfl, HT.sIx_nat, sgL_len]
  have : s.cps.size = s.length := rfl
  omega
theorem cut_last {s : Str} (h : 4 ≤ s.length) : (sgL (cutS s (some (-4)) none)).length = 4 := by
  have e4 : HT.sIx s.length 0 (some (-4)) = s.length - 4 := by
    show (if (-4 : Int) < 0 then (-4 + (s.length : Int)).toNat else min (-4 : Int).toNat s.length) = s.length - 4
    rw [if_pos (by decide)]
    omega
  rw [sg_cut, List.length_take, List.length_drop, e4, show HT.sIx s.length s.length none = s.length from rfl, sgL_len]
  have : s.cps.size = s.length := rfl
  omega
theorem odd_two {z s : Str} (sg : SgOk z) (hz : ∀ c ∈ sgL z, c ∈ abcL) (e : sgL s = oddL z) : OddOk z (cutS z none (some (1 : Nat)) ++ cutS s none (some (1 : Nat))) := by
  have sl : s.length = (oddL z).length := by
    rw [← e, sgL_len]
    rfl
  have l2 := odd_len sg
  have c1 := cut_first (s := z) (n := 1) sg.pos
  have c2 := cut_first (s := s) (n := 1) (by omega)
  have in1 : ∀ c ∈ sgL (cutS z none (some (1 : Nat))), c ∈ sgL z := fun c hc => cut_in hc
  have in2 : ∀ c ∈ sgL (cutS s none (some (1 : Nat))), c ∈ oddL z := fun c hc => by
    rw [← e]
    exact cut_in hc
  have ea := sgL_app (cutS z none (some (1 : Nat))) (cutS s none (some (1 : Nat)))
  refine ⟨?_, fun c hc => ?_, ?_, ?_, ?_⟩
  · rw [ea]
    exact List.nodup_append.mpr ⟨cut_nd sg.nd, cut_nd (by rw [e]; exact odd_nd z), fun a ha b hb q => (odd_mem (in2 b hb)).2 (q ▸ in1 a ha)⟩
  · rw [ea] at hc
    rcases List.mem_append.mp hc with h | h
    · exact hz c (in1 c h)
    · exact (odd_mem (in2 c h)).1
  · rw [ea, List.length_append]
    omega
  · rw [ea, List.length_append]
    omega
  · obtain ⟨c, hc⟩ := List.exists_mem_of_length_pos (l := sgL (cutS s none (some (1 : Nat)))) (by omega)
    exact ⟨c, by rw [ea]; exact List.mem_append.mpr (.inr hc), (odd_mem (in2 c hc)).2⟩
/-- its letters, ascending, are signs; they are not z -/
theorem odd_sg {z y : Str} {ys : List Str} (o : OddOk z y) (pm : ys.Perm (sgL y)) (hs : sortedS ys = true) : SgOk (Txt.join "" ys) ∧ sgL (Txt.join "" ys) = ys ∧ z ≠ Txt.join "" ys := by
  obtain ⟨sg, e⟩ := sg_of (ys := ys) (by rw [pm.length_eq]; exact o.pos) (by rw [pm.length_eq]; exact o.le) hs (pm.nodup_iff.mpr o.nd) fun c hc => o.abc c (pm.mem_iff.mp hc)
  refine ⟨sg, e, fun q => ?_⟩
  obtain ⟨c, h1, h2⟩ := o.odd
  exact h2 (by rw [q, e]; exact pm.mem_iff.mpr h1)
end Sl
/-! ## W11 -/
set_option Elab.async false
set_option linter.all false
set_option maxRecDepth 100000
set_option maxHeartbeats 4000000
set_option pp.maxSteps 1500
set_option pp.deepTerms false
/-! _law_strange -/
namespace Sl
open PySem PySem.Spec PyProof.Rows L2 TxS LamX NdefX
theorem rising_of : ∀ {l : List Str} {x : Str}, (x :: l).Pairwise leS → risingS x l = true
  | [], _, _ => rfl
  | y :: l, x, h => by
    obtain ⟨h1, h2⟩ := List.pairwise_cons.mp h
    have q : ltCps y.cps.toList x.cps.toList = false := h1 y List.mem_cons_self
    unfold risingS
    rw [q, rising_of h2]
    rfl
theorem sorted_of : ∀ {l : List Str}, l.Pairwise leS → sortedS l = true
  | [], _ => rfl
  | _ :: _, h => rising_of h
theorem sg_of' {y : Str} (h1 : 1 ≤ (sgL y).length) (h4 : (sgL y).length ≤ 4) (hs : sortedS (sgL y) = true) (nd : (sgL y).Nodup) (ha : ∀ c ∈ sgL y, c ∈ abcL) : SgOk y := by
  have l : y.length = (sgL y).length := by
    rw [sgL_len]
    rfl
  refine ⟨?_, by omega, by omega, hs, nd⟩
  unfold isWordS
  refine List.all_eq_true.mpr fun c hc => ?_
  have : (⟨#[c]⟩ : Str) ∈ sgL y := by
    unfold sgL
    exact List.mem_map.mpr ⟨c, hc, rfl⟩
  obtain ⟨c', e', h'⟩ := abc_sign (ha _ this)
  injection e' with e'
  have : c = c' := by simpa using e'
  rw [this]
  exact h'
theorem odd_asc (z : Str) : (oddL z).Pairwise leS := by
  have h : sortedS abcL = true := by decide +kernel
  have h := pair_of_sorted h
  unfold abcL signsOf at h
  unfold oddL oddC
  rw [List.pairwise_map] at h ⊢
  exact h.sublist List.filter_sublist
/-- the first letters that z lacks -/
theorem odd_sgs {z s : Str} (sg : SgOk z) (e : sgL s = oddL z) : SgOk (cutS s none (some (z.length : Nat))) ∧ z ≠ cutS s none (some (z.length : Nat)) := by
  have l2 := odd_len sg
  have sl : s.length = (oddL z).length := by
    rw [← e, sgL_len]
    rfl
  have p1 := sg.pos
  have p4 := sg.le
  have c1 := cut_first (s := s) (n := z.length) (by omega)
  have o := odd_cut (lo := none) (hi := some (z.length : Nat)) e (by omega) (by omega)
  refine ⟨sg_of' (by omega) (by omega) (sorted_of ?_) o.nd o.abc, fun q => ?_⟩
  · rw [sg_cut, e]
    exact (odd_asc z).sublist ((List.take_sublist _ _).trans (List.drop_sublist _ _))
  · obtain ⟨c, h1, h2⟩ := o.odd
    exact h2 (by rw [← q] at h1; exact h1)
section
variable {K : PySem.W.Frag} {C : Addr} {T : List NTab} {H H' : Hp} {z z2 : Str} {N : Nat} {δ δ2 : Nat → Str → Nat} {m1 m2 m : Nat → Bool} {Q : VK} {x x1 x2 : Addr}
theorem strange_L (A1 : Lg C H z δ x1 m1) (A2 : Lg C H z2 δ2 x2 m2) (n : z ≠ z2) (k : Q (.bl false) H) : spEqG K C [.ref x1, .ref x2] H Q (fun _ _ _ => False) := by
  obtain ⟨M1, d1, f1, l1, a1, b1⟩ := A1
  obtain ⟨M2, d2, f2, l2, a2, b2⟩ := A2
  refine ⟨x1, .ref x2, z, M1, d1, f1, l1, rfl, a1, .inl ⟨x2, z2, M2, d2, f2, l2, rfl, a2, ?_⟩⟩
  unfold lgEq
  rw [decide_eq_false n, Bool.false_and]
  exact k
theorem thing_L {v : V} {t : Value} (A1 : Lg C H z δ x1 m1) (ty : TyX K H v t) (kt : PySem.W.kitOne K t (.ref C) = some false) (k : Q (.bl false) H) : spEqG K C [.ref x1, v] H Q (fun _ _ _ => False) := by
  obtain ⟨M1, d1, f1, l1, a1, b1⟩ := A1
  exact ⟨x1, v, z, M1, d1, f1, l1, rfl, a1, .inr ⟨t, ty, kt, k⟩⟩
theorem rep_L (sg : SgOk z) (A : Lg C H z δ x m) : ∃ sh : Str, ∀ (H' : Hp) (Q : VK), StayN H H' → Q (.str sh) H' → rReprO C (spReprL C) [.ref x] H' Q := by
  obtain ⟨M, d, f, l, a, b⟩ := A
  refine ⟨shownLg z d M f, fun H' Q st q => ?_⟩
  have a := a.stay st
  obtain ⟨dx, fs, i, _⟩ := a.no "x" (by decide)
  exact ⟨x, dx, fs, rfl, i, x, z, M, d, f, l, rfl, a, lg_show sg b.ok.le b.ok.can.lt b.ok.fl b.ok.nd, _, rfl, q⟩
end
section
variable {X : Cx}
def rEqXO (K : PySem.W.Frag) (C : Addr) (S : Sp) (E : XK) : R2 := fun x y H Q => rEqX C S E x y H Q ∨ rEqO K C S E x y H Q
theorem op_eqXO {CX : CXT} {n : Nat} {C f : Addr} {fd : FuncData} {ps : List Str} {S : Sp} {E : XK} (F : FnOk X.prog X.w X.K X.mg X.base CX n f fd ps S) (hr : Room n X.A) (nb : NotB X.K C)
    (hs : PySem.W.findIn X.K (.ref C) "__eq__" = some (some (.ref f))) (hf : PySem.W.isFn X.K (.ref f) = true) (hb : L2.Binds X.K fd ps []) (hx : Passes CX X E) : OpR X (compareOp .Eq) (rEqXO X.K C S E) := by
  intro pins s σ H x y v u Q I rx ry h
  rcases h with h | h
  · exact op_eqX F hr nb hs hf hb hx pins s σ H x y v u Q I rx ry h
  · exact op_eqO F hr hs hf hb hx pins s σ H x y v u Q I rx ry h
end
abbrev sStrange : Stmt := top 60
abbrev nStrange : List Str := ["_law_made", "_law_abc", "_law_other", "_law_things", "_law_letter", "_law_thing"]
def spStrange (C : Addr) (T : List NTab) : Sp := fun vs H Q _ => ∃ (p : Addr) (z : Str) (δ : Nat → Str → Nat) (m : Nat → Bool), vs = [.ref p, .str z] ∧ SgOk z ∧ Lg C H z δ p m ∧ TabsN T H ∧ ∀ H', StayN H H' → TabsN T H' → Q (.bl true) H'
section
variable {P : Program} {w : World} {K : PySem.W.Frag} {mg : Str → Option Value} {base : Heap}
theorem scStrange : FnScope nStrange ["_law_made", "_law_abc"] (defScope sStrange) := ⟨rfl, rfl, rfl, by decide +kernel, rfl, by decide +kernel, by decide +kernel⟩
theorem ok_strange {T : List NTab} {f C pE fE pO fO fQ fRep : Addr} {fd fdQ fdRep : FuncData} {mc : Value} (F : Fun K "_law_strange" "_law_strange" sStrange f fd)
    (mC : mg "Language" = some (.ref C)) (cr : ClX.CRead K C mc) (cE : ClX.CMet K C mc "every" pE fE) (gE : FnR P w K mg base CX0 8 fE (spEvery C T)) (cO : ClX.CMet K C mc "of" pO fO) (gO : FnR P w K mg base CX0 8 fO (spOf0 C T))
    (iC : C8.InsC K C) (eC : EqC K C fQ fdQ) (gQ : FnOk P w K mg base CX0 1 fQ fdQ ["self", "other"] (spEqG K C)) (nb : NotB K C)
    (mRep : L2.Meth K C "__repr__" fRep) (bRep : L2.Binds K fdRep ["self"] []) (gRep : FnG P w K mg base CX0 1 fRep fdRep ["self"] (spReprL C)) (zp : mg "repr" = none) (zy : mg "any" = none) (zn : mg "len" = none) :
    FnG P w K mg base CX0 9 f fd ["_law_made", "_law_abc"] (spStrange C T) := by
  refine Sl.Fun.okG F scStrange (fun vs H Q E h => ?_) (fun cdv A0 outer s H vs Q E gd hr h => ?_)
  · obtain ⟨p, z, δ, m, rfl, _⟩ := h
    rfl
  · obtain ⟨p, z, δ, m, rfl, sg, A, hT, k⟩ := h
    have hr1 := hr.mono (show 1 ≤ 8 by omega)
    have hr2 := hr.mono (show 2 ≤ 8 by omega)
    have nl : ∀ {u : List V} (ps : Array Value), HO.lst u ≠ .tbl ps := fun ps z => nomatch z
    refine ⟨_, pss_cons (ps_set (i := 2) scStrange.nd rfl (.inl rfl) (pe_slice sl_str (pe_join pe_str (pe_lc (own := [("_law_letter", 4)]) (g := gName 4) (tt := tTest (tOp rNotInS (tVar 4) (tVar 1))) (te := tVar 4) rfl scStrange.nd (pi_str pe_str) (blkOk_by (N := nStrange) (sc := defScope sStrange) (by decide +kernel))
          (fun _ _ _ _ _ => pg_name (i := 4) scStrange.nd rfl (Or.inl rfl)) (fun _ _ _ _ _ => pts_one (pt_cmpR op_notInS (pv 4) (pe_var (i := 1) rfl (.inr (.inl rfl))) (by rfl))) (fun _ _ _ _ _ => pv 4))) po_none (po_some (pe_callB call_len_str (by rfl) zn PySem.boot_len (pa_cons (pe_var (i := 1) rfl (.inr (.inl rfl))) pa_nil)))))
      (pss_cons (ps_set (i := 3) scStrange.nd rfl (.inl rfl) (pe_lst (pa_cons pe_non (pa_cons pe_int (pa_cons pe_str (pa_cons (pe_var (i := 1) rfl (.inr (.inl rfl))) (pa_cons (pe_lst pa_nil) (pa_cons (pe_tup pa_nil) (pa_cons pe_dnewK (pa_cons (pe_callB (call_reprO mRep gRep gd hr2 bRep) (by rfl) zp (by decide +kernel) (pa_cons (pe_var (i := 0) rfl (.inr (.inl rfl))) pa_nil))
            (pa_cons (pe_lst (pa_cons (pe_var (i := 0) rfl (.inr (.inl rfl))) pa_nil)) (pa_cons (ClX.pe_cmeth (E := fun _ _ _ => False) (pe_glob (v := .ref C) rfl mC rfl) cr cE gE hr pass0 (pa_cons (pv 2) pa_nil)) (pa_cons (ClX.pe_cmeth (E := fun _ _ _ => False) (pe_glob (v := .ref C) rfl mC rfl) cr cO gO hr pass0 (pa_cons (pv 2) pa_nil)) pa_nil)))))))))))))
      (pss_one (ps_ret (pe_not (pe_callB (cr_any rfl) (by rfl) zy (by decide +kernel) (pa_cons (pe_lc (own := [("_law_thing", 5)]) (g := gName 5) (tt := tYes) (te := tOrV (tOp (rEqO K C (spEqG K C) fun _ _ _ => False) (tVar 0) (tVar 5)) (tOp (rEqXO K C (spEqG K C) fun _ _ _ => False) (tVar 5) (tVar 0))) rfl scStrange.nd (pi_list (pv 3)) (blkOk_by (N := nStrange) (sc := defScope sStrange) (by decide +kernel))
          (fun _ _ _ _ _ => pg_name (i := 5) scStrange.nd rfl (Or.inl rfl)) (fun _ _ _ _ _ => pts_nil) (fun _ _ _ _ _ => pe_or (pe_cmpR (op_eqO (E := fun _ _ _ => False) gQ hr1 eC.hs eC.hf eC.hb pass0) (pe_var (i := 0) rfl (.inr (.inl rfl))) (pv 5) (nomark _)) (pe_one (pe_cmpR (op_eqXO (E := fun _ _ _ => False) gQ hr1 nb eC.hs eC.hf eC.hb pass0) (pv 5) (pe_var (i := 0) rfl (.inr (.inl rfl))) (nomark _))))) pa_nil)))))), ?_⟩
    refine ⟨⟨_, rfl⟩, _, rfl, fun D nD => ?_⟩
    refine lc_it (walk_str (z := Str.ofString "abcdefghijklmnopqrstuvwxyz")) (fun i H' => Ext H H' ∧ H' D = some (.lst (((abc.cps.toList.take i).filter fun c => !decide (c ∈ z.cps.toList)).map fun c => V.str ⟨#[c]⟩))) ⟨Ext.new nD, upd_same⟩ (fun _ _ _ _ => trivial) ?_ ?_
    · rintro i v G2 G3 hi ⟨x6, hD⟩ ⟨rfl, c, hc, rfl⟩
      have hc' : abc.cps.toList[i]? = some c := by rw [Array.getElem?_toList]; exact hc
      refine ⟨rfl, ?_⟩
      refine ⟨_, rfl, _, rfl, c, z, rfl, rfl, _, rfl, ?_⟩
      have lf : ((abc.cps.toList.take i).filter fun c => !decide (c ∈ z.cps.toList)).length ≤ 26 := by
        refine Nat.le_trans (List.length_filter_le _ _) ?_
        rw [List.length_take]
        have : abc.cps.toList.length = 26 := by decide +kernel
        omega
      by_cases m : c ∈ z.cps.toList
      · rw [decide_eq_true m]
        dsimp only
        rw [if_neg (show ¬ ((!true) = true) by decide)]
        refine ⟨x6, ?_⟩
        rw [take_more hc', List.filter_append]
        simp only [List.filter_cons, List.filter_nil, decide_eq_true m]
        simpa using hD
      · rw [decide_eq_false m]
        dsimp only
        rw [if_pos (show (!false) = true by rfl)]
        refine ⟨_, rfl, _, hD, by rw [List.length_map]; exact small1000 (by omega), fun b o e => ?_, ?_⟩
        · rw [upd_ne (ne_of_none e nD)]
          exact x6 _ _ e
        · rw [upd_same, take_more hc', List.filter_append, List.map_append]
          simp only [List.filter_cons, List.filter_nil, decide_eq_false m]
          rfl
    rintro G2 ⟨x6, hD⟩
    have e26 : (Str.ofString "abcdefghijklmnopqrstuvwxyz").cps.size = abc.cps.toList.length := by decide +kernel
    rw [e26, List.take_length] at hD
    have hD' : G2 D = some (.lst ((oddL z).map V.str)) := by
      rw [hD]
      unfold oddL oddC
      rw [List.map_map]
      rfl
    have es := sgL_join (ys := oddL z) fun y hy => by
      obtain ⟨c, _, e⟩ := List.mem_map.mp hy
      exact ⟨c, e.symm⟩
    have so := sum_one (ys := oddL z) fun y hy => by
      obtain ⟨c, _, e⟩ := List.mem_map.mp hy
      rw [← e]
      rfl
    obtain ⟨o22, o26⟩ := odd_len sg
    have e0 : (Str.ofString "").length = 0 := rfl
    refine ⟨Str.ofString "", D, oddL z, rfl, rfl, .inl (SqL.of hD'), by rw [so, e0]; omega, ?_⟩
    generalize Txt.join "" (oddL z) = st at es ⊢
    have stl : st.length = (oddL z).length := by
      rw [← es, sgL_len]
      rfl
    have ssz : st.length ≤ sizeLine := small_size (by omega)
    have zsz : z.length ≤ sizeLine := small_size (by have := sg.le; omega)
    obtain ⟨sg2, nz⟩ := odd_sgs sg es
    refine ⟨_, rfl, z, rfl, zsz, _, rfl, st, rfl, ssz, ?_⟩
    generalize cutS st none (some (z.length : Nat)) = z2 at sg2 nz ⊢
    obtain ⟨sh, rsh⟩ := rep_L sg A
    have sz0 : (0 : Nat) ≤ sizeLine := by decide
    have sz1 : (1 : Nat) ≤ sizeLine := by decide
    have sz11 : (11 : Nat) ≤ sizeLine := by decide
    have stE : ∀ {Ha Hb : Hp}, Ext Ha Hb → StayN Ha Hb := fun x b o e _ => x b o e
    have nt : ∀ {u : List V} (ps : Array Value), HO.tup u ≠ .tbl ps := fun ps z => nomatch z
    have nd : ∀ {u : List (Key × V)} (ps : Array Value), HO.dK u ≠ .tbl ps := fun ps z => nomatch z
    refine ⟨_, rfl, sz0, fun c1 n1 => ⟨sz0, fun c2 n2 => fun c3 n3 => ?_⟩⟩
    have y1 := Ext.new n1 (o := .lst [])
    have e1 : (upd G2 c1 (.lst [])) c1 = some (.lst []) := upd_same
    generalize upd G2 c1 (.lst []) = B1 at y1 e1 n2 n3 ⊢
    have y2 := Ext.new n2 (o := .tup [])
    have e2 : (upd B1 c2 (.tup [])) c2 = some (.tup []) := upd_same
    generalize upd B1 c2 (.tup []) = B2 at y2 e2 n3 ⊢
    have y3 := Ext.new n3 (o := .dK [])
    have e3 : (upd B2 c3 (.dK [])) c3 = some (.dK []) := upd_same
    generalize upd B2 c3 (.dK []) = B3 at y3 e3 ⊢
    have x3 := x6.trans ((y1.trans y2).trans y3)
    refine ⟨_, rfl, ?_⟩
    dsimp only [tNil]
    refine rsh _ _ (stE x3) ?_
    refine ⟨_, rfl, sz1, fun c4 n4 => ?_⟩
    have y4 := Ext.new n4 (o := .lst [.ref p])
    have e4 : (upd B3 c4 (.lst [.ref p])) c4 = some (.lst [.ref p]) := upd_same
    generalize upd B3 c4 (.lst [.ref p]) = B4 at y4 e4 ⊢
    have x4 := x3.trans y4
    refine ⟨rfl, _, rfl, every_L (δ := δ) sg2 (hT.ext x4) fun B5 q1 st5 T5 n5 A5 => ?_⟩
    refine ⟨rfl, _, rfl, none_L (δ := δ) sg2 T5 fun B6 q2 st6 T6 n6 A6 => ?_⟩
    refine ⟨sz11, fun O nO => ?_⟩
    generalize hE : ([.non, .int 0, .str "", .str z, .ref c1, .ref c2, .ref c3, .str sh, .ref c4, .ref q1, .ref q2] : List V) = Es
    have y7 := Ext.new nO (o := .lst Es)
    have hO : (upd B6 O (.lst Es)) O = some (.lst Es) := upd_same
    generalize upd B6 O (.lst Es) = B7 at y7 hO ⊢
    have lE : Es.length = 11 := by rw [← hE]; rfl
    have s47 : StayN B4 B7 := fun b u e n => y7 _ _ (st6 _ _ (st5 _ _ e n) n)
    have A7 : Lg C B7 z δ p m := (A.stay (stE x4)).stay s47
    have things : ∀ H', Ext B7 H' → ∀ x ∈ Es, Thg H' x ∨ ∃ (q : Addr) (m' : Nat → Bool), x = .ref q ∧ Lg C H' z2 δ q m' := fun H' xx x hx => by
      rw [← hE] at hx
      simp only [List.mem_cons, List.not_mem_nil, or_false] at hx
      rcases hx with rfl | rfl | rfl | rfl | rfl | rfl | rfl | rfl | rfl | rfl | rfl
      · exact .inl .non
      · exact .inl (.int _)
      · exact .inl (.str _)
      · exact .inl (.str _)
      · exact .inl (.lst (xx _ _ (s47 _ _ (y4 _ _ (y3 _ _ (y2 _ _ e1))) nl)))
      · exact .inl (.tup (xx _ _ (s47 _ _ (y4 _ _ (y3 _ _ e2)) nt)))
      · exact .inl (.dK (xx _ _ (s47 _ _ (y4 _ _ e3) nd)))
      · exact .inl (.str _)
      · exact .inl (.lst (xx _ _ (s47 _ _ e4 nl)))
      · exact .inr ⟨q1, _, rfl, ((A5.stay st6).stay (stE y7)).stay (stE xx)⟩
      · exact .inr ⟨q2, _, rfl, (A6.stay (stE y7)).stay (stE xx)⟩
    refine ⟨_, rfl, O, rfl, ⟨_, SqL.of hO⟩, fun D2 nD2 => ?_⟩
    refine lc_it (walk_list (xs := Es)) (fun i H' => Ext B7 H' ∧ H' D2 = some (.lst ((List.replicate i false).map V.bl))) ⟨Ext.new nD2, upd_same⟩ (fun i H' _ h => SqL.of (h.1 _ _ hO)) ?_ ?_
    · rintro i x H8 H9 hi ⟨x8, d8⟩ ⟨rfl, hx⟩
      have th := things _ x8 x (List.mem_of_getElem? hx)
      have A8 : Lg C H9 z δ p m := A7.stay (stE x8)
      obtain ⟨dx, fs, hp8⟩ := A8.ins
      have fin : ∃ acc, H9 D2 = some (.lst acc) ∧ acc.length < sizeLine ∧ Ext B7 (upd H9 D2 (.lst (acc ++ [V.bl false]))) ∧ (upd H9 D2 (.lst (acc ++ [V.bl false]))) D2 = some (.lst ((List.replicate (i + 1) false).map V.bl)) := by
        refine ⟨_, d8, by rw [List.length_map, List.length_replicate]; exact small1000 (by omega), fun b o e => by rw [upd_ne (ne_of_none e nD2)]; exact x8 b o e, ?_⟩
        rw [upd_same, List.replicate_succ', List.map_append]
        rfl
      refine ⟨rfl, _, rfl, _, rfl, ?_⟩
      rcases th with th | ⟨q, m', rfl, Aq⟩
      · obtain ⟨Ty, hT, ty⟩ := th.ty (K := K)
        refine ⟨p, dx, fs, .type Ty, rfl, hp8, ty, nb.fst Ty hT, thing_L A8 ty (nb.kit Ty hT) ⟨⟨_, rfl⟩, ?_⟩⟩
        refine ⟨false, rfl, iteF ?_⟩
        exact ⟨_, rfl, _, rfl, .inl ⟨p, dx, fs, rfl, hp8, th, thing_L A8 ty (nb.kit Ty hT) ⟨⟨_, rfl⟩, fin⟩⟩⟩
      · obtain ⟨dy, gs, hq8⟩ := Aq.ins
        refine ⟨p, dx, fs, .ref C, rfl, hp8, Aq.ty iC, eC.nf, strange_L A8 Aq nz ⟨⟨_, rfl⟩, ?_⟩⟩
        refine ⟨false, rfl, iteF ?_⟩
        exact ⟨_, rfl, _, rfl, .inr ⟨q, dy, gs, .ref C, rfl, hq8, A8.ty iC, eC.nf, strange_L Aq A8 (Ne.symm nz) ⟨⟨_, rfl⟩, fin⟩⟩⟩
    rintro H8 ⟨x8, d8⟩
    refine ⟨D2, List.replicate Es.length false, rfl, SqL.of d8, false, by simp, ?_⟩
    exact k _ (fun b u e n => x8 _ _ (s47 _ _ (x4 _ _ e) n)) ((T6.ext y7).ext x8)
end
end Sl
/-! ## W12 -/
set_option Elab.async false
set_option linter.all false
set_option maxRecDepth 100000
set_option maxHeartbeats 4000000
set_option pp.maxSteps 1500
set_option pp.deepTerms false
/-! _law_right -/
namespace Sl
open PySem PySem.Spec PyProof.Rows L2 TxS LamX NdefX
theorem langNew_keepN {C a : Addr} {H2 H3 H' : Hp} {x : Addr} {z : Str} {M : Nat} {δ : Nat → Str → Nat} {found live : List Nat} (N : LangNew C H2 H3 x z M δ found live) (nx : H2 x = none) (r : Rng H2 a) (k : KeepN a H3 H') : LangAt C H' x z M δ found live := by
  obtain ⟨dx, fs, L, rr, Me, Li, ⟨h1, h2, h3, h4, h5, h6, h7, h8, h9, h10, h11⟩, f1, f2, f3, f4⟩ := N.ex
  exact ⟨dx, fs, L, rr, Me, Li, k _ _ h1 (fun _ z => nomatch z) (r.new nx), h2, h3, k _ _ h4 (fun _ z => nomatch z) (r.new f1), h5, fun i q e => k _ _ (h6 i q e) (fun _ z => nomatch z) (r.new (f2 q (List.mem_of_getElem? e))), h7, k _ _ h8 (fun _ z => nomatch z) (r.new f3), h9, k _ _ h10 (fun _ z => nomatch z) (r.new f4), h11⟩
/-- a note in a language -/
theorem has_L {K : PySem.W.Frag} {C : Addr} {H : Hp} {z y : Str} {δ : Nat → Str → Nat} {m : Nat → Bool} {Q : VK} {x : Addr} (sg : SgOk z) (A : Lg C H z δ x m) (ny : NoteOk z y) (k : ∀ G, Ext H G → Q (.bl (m (run δ 0 (sgL y)))) G) : rInO C (spHasL K C) (.str y) (.ref x) H Q := by
  obtain ⟨M, d, f, l, a, b⟩ := A
  obtain ⟨dx, fs, i, _⟩ := a.no "x" (by decide)
  refine ⟨x, dx, fs, rfl, i, x, .str y, z, M, d, f, l, rfl, a, b.ok.can.pos, b.ok.can.lt, .inl ⟨y, rfl, by have := ny.2; omega, fun G x9 => ⟨_, rfl, ?_⟩⟩⟩
  have e : decide (run d 0 (sgL y) ∈ f) = m (run δ 0 (sgL y)) := dec_bool (b.acc _ ny.1)
  rw [note_word sg ny, Bool.true_and, e]
  exact k G x9
theorem told_take {z : Str} {δ : Nat → Str → Nat} {m : Nat → Bool} {zs : List Str} (e : zs.map sgL = allW (sgL z) 8) : toldL z δ m = zs.map fun y => m (run δ 0 (sgL y)) := by
  unfold toldL
  rw [← e, List.map_map]
  rfl
theorem notes_ok {z : Str} {zs : List Str} (e : zs.map sgL = allW (sgL z) 8) : ∀ y ∈ zs, NoteOk z y := fun y hy => by
  have : sgL y ∈ allW (sgL z) 8 := by
    rw [← e]
    exact List.mem_map.mpr ⟨y, hy, rfl⟩
  obtain ⟨h1, h2⟩ := allW_mem.mp this
  rw [sgL_len] at h1
  have h3 : y.length = y.cps.size := rfl
  exact ⟨h2, by omega⟩
theorem bools_eqvAll : ∀ a b : List Bool, PyData.eqvAll (a.map PyData.bool) (b.map PyData.bool) = decide (a = b)
  | [], [] => by simp [PyData.eqvAll]
  | [], _ :: _ => by simp [PyData.eqvAll]
  | _ :: _, [] => by simp [PyData.eqvAll]
  | x :: a, y :: b => by
    rw [List.map_cons, List.map_cons, PyData.eqvAll, bools_eqvAll a b, PyData.eqv]
    cases x <;> cases y <;> simp
theorem bools_eqv (a b : List Bool) : PyData.eqv (.list (a.map PyData.bool)) (.list (b.map PyData.bool)) = decide (a = b) := by
  rw [PyData.eqv]
  exact bools_eqvAll a b
theorem told_same {z : Str} {N : Nat} {δ : Nat → Str → Nat} {m1 m2 : Nat → Bool} (B : Bs z N δ) : decide (toldL z δ m1 = toldL z δ m2) = true ↔ SameM (sgL z) δ m1 m2 := by
  rw [decide_eq_true_eq, same_short B]
  unfold toldL
  exact List.map_inj_left
abbrev sRight : Stmt := top 61
abbrev nRight : List Str := ["_law_rng_here", "_law_abc", "_law_machine", "_law_one", "_law_other", "_law_shown", "_law_notes", "_law_first", "_law_second_here", "_law_note"]
def spRight (T : List NTab) : Sp := fun vs H Q _ => ∃ a : Addr, vs = [.ref a] ∧ Rng H a ∧ TabsN T H ∧ ∀ H', KeepN a H H' → TabsN T H' → Q (.bl true) H'
section
variable {P : Program} {w : World} {K : PySem.W.Frag} {mg : Str → Option Value} {base : Heap}
theorem scRight : FnScope nRight ["_law_rng_here"] (defScope sRight) := ⟨rfl, rfl, rfl, by decide +kernel, rfl, by decide +kernel, by decide +kernel⟩
theorem ok_right {T : List NTab} {f fD fLt fC fLg fSc fTx fB fAr fWr fLw fSt fHas fRep C : Addr} {fd fdD fdLt fdC fdLg fdSc fdTx fdB fdAr fdWr fdLw fdSt fdHas fdRep : FuncData} (F : Fun K "_law_right" "_law_right" sRight f fd)
    (aD : At K mg "_law_draw" fD fdD ["_law_rng_here", "_law_many"] []) (gD : FnOk P w K mg base CX0 1 fD fdD ["_law_rng_here", "_law_many"] spDraw)
    (aLt : At K mg "_law_letters" fLt fdLt ["_law_rng_here", "_law_many"] []) (gLt : FnOk P w K mg base CX0 2 fLt fdLt ["_law_rng_here", "_law_many"] spLetters)
    (aC : At K mg "_law_class" fC fdC ["_law_rng_here", "_law_cap", "_law_abc"] []) (gC : FnOk P w K mg base CX0 2 fC fdC ["_law_rng_here", "_law_cap", "_law_abc"] spClass)
    (aLg : At K mg "_law_language" fLg fdLg ["_law_machine"] []) (gLg : FnOk P w K mg base CX0 8 fLg fdLg ["_law_machine"] (spLanguage C T))
    (aSc : At K mg "_law_second" fSc fdSc ["_law_rng_here", "_law_machine"] []) (gSc : FnOk P w K mg base CX0 15 fSc fdSc ["_law_rng_here", "_law_machine"] (spSecond C T))
    (aTx : At K mg "_law_texts" fTx fdTx ["_law_abc", "_law_cap"] []) (gTx : FnOk P w K mg base CX0 1 fTx fdTx ["_law_abc", "_law_cap"] spTexts)
    (aB : At K mg "_law_belongs" fB fdB ["_law_machine", "_law_note"] []) (gB : FnOk P w K mg base CX0 1 fB fdB ["_law_machine", "_law_note"] spBelongs)
    (aAr : At K mg "_law_are" fAr fdAr ["_law_one", "_law_other", "_law_due"] []) (gAr : FnG P w K mg base CX0 3 fAr fdAr ["_law_one", "_law_other", "_law_due"] (spAre C))
    (aWr : At K mg "_law_is_within_right" fWr fdWr ["_law_one", "_law_other", "_law_first", "_law_second_here"] []) (gWr : FnG P w K mg base CX0 15 fWr fdWr ["_law_one", "_law_other", "_law_first", "_law_second_here"] (spWithinR C T))
    (aLw : At K mg "_law_laws" fLw fdLw ["_law_abc", "_law_one", "_law_other"] []) (gLw : FnOk P w K mg base CX0 15 fLw fdLw ["_law_abc", "_law_one", "_law_other"] (spLaws C T))
    (aSt : At K mg "_law_strange" fSt fdSt ["_law_made", "_law_abc"] []) (gSt : FnG P w K mg base CX0 9 fSt fdSt ["_law_made", "_law_abc"] (spStrange C T))
    (mHas : L2.Meth K C "__contains__" fHas) (bHas : L2.Binds K fdHas ["self", "value"] []) (gHas : FnOk P w K mg base CX0 3 fHas fdHas ["self", "value"] (spHasL K C))
    (mRep : L2.Meth K C "__repr__" fRep) (bRep : L2.Binds K fdRep ["self"] []) (gRep : FnG P w K mg base CX0 1 fRep fdRep ["self"] (spReprL C))
    (zp : mg "repr" = none) (zs : mg "sorted" = none) : FnG P w K mg base CX0 16 f fd ["_law_rng_here"] (spRight T) := by
  refine Sl.Fun.okG F scRight (fun vs H Q E h => ?_) (fun cdv A0 outer s H vs Q E gd hr h => ?_)
  · obtain ⟨a, rfl, _⟩ := h
    rfl
  · obtain ⟨a, rfl, hR, hT, kk⟩ := h
    have hr1 := hr.mono (show 1 ≤ 15 by omega)
    have hr2 := hr.mono (show 2 ≤ 15 by omega)
    have hr3 := hr.mono (show 3 ≤ 15 by omega)
    have hr8 := hr.mono (show 8 ≤ 15 by omega)
    have hr9 := hr.mono (show 9 ≤ 15 by omega)
    have hu64 : (A0.deeper (envOfC "_law_right" (defScope sRight) s.heap.objs.size f cdv)).units + 64 < cLine := by
      have := hr.un
      omega
    refine ⟨_, pss_cons (ps_set (i := 1) scRight.nd rfl (.inl rfl) (pe_join pe_str (pe_callB cr_sortedS (by rfl) zs (by decide +kernel) (pa_cons (pe_call (E := fun _ _ _ => False) gLt hr2 (by rfl) aLt.g aLt.kp aLt.b .nil pass0 (pa_cons (pv 0) (pa_cons (pe_op op_add pe_int (pe_call (E := fun _ _ _ => False) gD hr1 (by rfl) aD.g aD.kp aD.b .nil pass0 (pa_cons (pv 0) (pa_cons pe_int pa_nil)))) pa_nil))) pa_nil))))
      (pss_cons (ps_set (i := 2) scRight.nd rfl (.inr rfl) (pe_call (E := fun _ _ _ => False) gC hr2 (by rfl) aC.g aC.kp aC.b .nil pass0 (pa_cons (pv 0) (pa_cons pe_int (pa_cons (pv 1) pa_nil)))))
      (pss_cons (ps_asg (pe_tup (pa_cons (pe_call (E := fun _ _ _ => False) gLg hr8 (by rfl) aLg.g aLg.kp aLg.b .nil pass0 (pa_cons (pe_var (i := 2) rfl (.inr (.inl rfl))) pa_nil)) (pa_cons (pe_call (E := fun _ _ _ => False) gSc hr (by rfl) aSc.g aSc.kp aSc.b .nil pass0 (pa_cons (pv 0) (pa_cons (pe_var (i := 2) rfl (.inr (.inl rfl))) pa_nil))) pa_nil))) (pg_tup (by rfl) (pgs_cons (pg_name (i := 3) scRight.nd rfl (.inr rfl)) (pgs_cons (pg_name (i := 4) scRight.nd rfl (.inr rfl)) pgs_nil))))
      (pss_cons (ps_par (i := 5) (j := 6) (by rfl) scRight.nd rfl rfl (by decide) rfl rfl (pa_cons (pe_lst (pa_cons (pe_callB (call_reprO mRep gRep gd hr2 bRep) (by rfl) zp (by decide +kernel) (pa_cons (pe_var (i := 3) rfl (.inr (.inl rfl))) pa_nil)) (pa_cons (pe_callB (call_reprO mRep gRep gd hr2 bRep) (by rfl) zp (by decide +kernel) (pa_cons (pe_var (i := 4) rfl (.inr (.inl rfl))) pa_nil)) pa_nil)))
          (pa_cons (pe_call (E := fun _ _ _ => False) gTx hr1 (by rfl) aTx.g aTx.kp aTx.b .nil pass0 (pa_cons (pv 1) (pa_cons pe_int pa_nil))) pa_nil)) (by rfl))
      (pss_cons (ps_par (i := 7) (j := 8) (by rfl) scRight.nd rfl rfl (by decide) rfl rfl
          (pa_cons (pe_lc (own := [("_law_note", 9)]) (g := gName 9) (tt := tYes) (te := tOp (rInO C (spHasL K C)) (tVar 9) (tVar 3)) rfl scRight.nd (pi_list (pv 6)) (blkOk_by (N := nRight) (sc := defScope sRight) (by decide +kernel))
              (fun _ _ _ _ _ => pg_name (i := 9) scRight.nd rfl (Or.inl rfl)) (fun _ _ _ _ _ => pts_nil) (fun _ _ _ _ _ => pe_cmpR (op_inO mHas gHas hr3 bHas) (pv 9) (pe_var (i := 3) rfl (.inr (.inl rfl))) (by rfl)))
          (pa_cons (pe_lc (own := [("_law_note", 9)]) (g := gName 9) (tt := tYes) (te := tOp (rInO C (spHasL K C)) (tVar 9) (tVar 4)) rfl scRight.nd (pi_list (pv 6)) (blkOk_by (N := nRight) (sc := defScope sRight) (by decide +kernel))
              (fun _ _ _ _ _ => pg_name (i := 9) scRight.nd rfl (Or.inl rfl)) (fun _ _ _ _ _ => pts_nil) (fun _ _ _ _ _ => pe_cmpR (op_inO mHas gHas hr3 bHas) (pv 9) (pe_var (i := 4) rfl (.inr (.inl rfl))) (by rfl))) pa_nil)) (by rfl))
      (pss_cons (ps_if (PW.pt (pw_or (pt_cmpR (op_neD hu64) (pv 7) (pe_lc (own := [("_law_note", 9)]) (g := gName 9) (tt := tYes) (te := tCall spBelongs [] (fun _ _ _ => False) (tCons (tVar 2) (tCons (tVar 9) tNil))) rfl scRight.nd (pi_list (pv 6)) (blkOk_by (N := nRight) (sc := defScope sRight) (by decide +kernel))
              (fun _ _ _ _ _ => pg_name (i := 9) scRight.nd rfl (Or.inl rfl)) (fun _ _ _ _ _ => pts_nil) (fun _ _ _ _ _ => pe_call gB hr1 (by rfl) aB.g aB.kp aB.b .nil pass0 (pa_cons (pe_var (i := 2) rfl (.inr (.inl rfl))) (pa_cons (pv 9) pa_nil)))) (nomark _))
          (pw_or1 (pt_not (pt_val (pe_callG (E := fun _ _ _ => False) gAr gd hr3 (by rfl) aAr.g aAr.kp aAr.b pass0 (pa_cons (pe_var (i := 3) rfl (.inr (.inl rfl))) (pa_cons (pe_var (i := 4) rfl (.inr (.inl rfl))) (pa_cons (pe_cmpR (op_eqD hu64) (pv 7) (pv 8) (nomark _)) pa_nil))))))))) pss_dead pss_nil)
      (pss_cons (ps_if (PW.pt (pw_or (pt_not (pt_val (pe_callG (E := fun _ _ _ => False) gWr gd hr (by rfl) aWr.g aWr.kp aWr.b pass0 (pa_cons (pe_var (i := 3) rfl (.inr (.inl rfl))) (pa_cons (pe_var (i := 4) rfl (.inr (.inl rfl))) (pa_cons (pv 7) (pa_cons (pv 8) pa_nil)))))))
          (pw_or1 (pt_not (pt_val (pe_callG (E := fun _ _ _ => False) gWr gd hr (by rfl) aWr.g aWr.kp aWr.b pass0 (pa_cons (pe_var (i := 4) rfl (.inr (.inl rfl))) (pa_cons (pe_var (i := 3) rfl (.inr (.inl rfl))) (pa_cons (pv 8) (pa_cons (pv 7) pa_nil)))))))))) pss_dead pss_nil)
      (pss_cons (ps_if (PW.pt (pw_or (pt_not (pt_val (pe_call (E := fun _ _ _ => False) gLw hr (by rfl) aLw.g aLw.kp aLw.b .nil pass0 (pa_cons (pv 1) (pa_cons (pe_var (i := 3) rfl (.inr (.inl rfl))) (pa_cons (pe_var (i := 4) rfl (.inr (.inl rfl))) pa_nil))))))
          (pw_or (pt_not (pt_val (pe_callG (E := fun _ _ _ => False) gSt gd hr9 (by rfl) aSt.g aSt.kp aSt.b pass0 (pa_cons (pe_var (i := 3) rfl (.inr (.inl rfl))) (pa_cons (pv 1) pa_nil)))))
          (pw_or1 (pt_not (pt_val (pe_callG (E := fun _ _ _ => False) gSt gd hr9 (by rfl) aSt.g aSt.kp aSt.b pass0 (pa_cons (pe_var (i := 4) rfl (.inr (.inl rfl))) (pa_cons (pv 1) pa_nil))))))))) pss_dead pss_nil)
      (pss_one (ps_ret (pe_cmpR (op_eqV hu64) (pe_lst (pa_cons (pe_callB (call_reprO mRep gRep gd hr2 bRep) (by rfl) zp (by decide +kernel) (pa_cons (pe_var (i := 3) rfl (.inr (.inl rfl))) pa_nil)) (pa_cons (pe_callB (call_reprO mRep gRep gd hr2 bRep) (by rfl) zp (by decide +kernel) (pa_cons (pe_var (i := 4) rfl (.inr (.inl rfl))) pa_nil)) pa_nil))) (pv 5) (nomark _))))))))))), ?_⟩
    have nl : ∀ {u : List V} (ps : Array Value), HO.lst u ≠ .tbl ps := fun ps z => nomatch z
    have stE : ∀ {Ha Hb : Hp}, Ext Ha Hb → StayN Ha Hb := fun x b o e _ => x b o e
    refine ⟨⟨_, rfl⟩, _, rfl, _, rfl, a, 2, rfl, hR, by decide, by decide, fun d H1 d0 d2 hR1 kp1 => ?_⟩
    obtain ⟨md, rfl⟩ := Int.eq_ofNat_of_zero_le d0
    refine ⟨_, _, rfl, rfl, a, md + 1, ?_, hR1, by omega, fun H2 L zs hR2 kp2 nL hL ln nd mem => ?_⟩
    · show [V.ref a, V.int (1 + (md : Int))] = [V.ref a, V.int ((md + 1 : Nat) : Int)]
      rw [show (1 + (md : Int)) = ((md + 1 : Nat) : Int) by omega]
    refine ⟨L, zs, rfl, SqL.of hL, by omega, fun ys p pm hs np => ?_⟩
    obtain ⟨sg, es⟩ := sg_of (ys := ys) (by rw [pm.length_eq]; omega) (by rw [pm.length_eq]; omega) hs (pm.nodup_iff.mpr nd) fun z hz => mem z (pm.mem_iff.mp hz)
    refine ⟨Str.ofString "", p, ys, rfl, rfl, .inl (SqL.of upd_same), ?_, ?_⟩
    · have e0 : (Str.ofString "").length = 0 := rfl
      rw [e0, sum_one fun z hz => let ⟨c, e, _⟩ := abc_sign (mem z (pm.mem_iff.mp hz)); by rw [e]; rfl, pm.length_eq]
      omega
    generalize Txt.join "" ys = z at sg es ⊢
    have y3 := Ext.new np (o := .lst (ys.map V.str))
    generalize upd H2 p (.lst (ys.map V.str)) = H3 at y3 ⊢
    have hR3 := hR2.ext y3
    have l4 : (sgL z).length ≤ 4 := by
      rw [sgL_len]
      exact sg.le
    -- the machine
    refine ⟨_, rfl, _, rfl, a, 3, z, rfl, hR3, by decide, by decide, sg.nd, by omega, fun H4 t R E1 rs δ1 mem1 hR4 kp4 nR nE nt MA MO => ?_⟩
    have T4 : TabsN T H4 := tabs_keep ((tabs_keep (tabs_keep hT hR kp1) hR1 kp2).ext y3) hR3 kp4
    have le1 : rs.length ≤ 6 := Nat.le_trans MO.le (by decide)
    have nRa : R ≠ a := hR3.new nR
    have nEa : E1 ≠ a := hR3.new nE
    -- two languages
    refine ⟨_, rfl, t, R, E1, z, rs, δ1, mem1, rfl, MA, ⟨MO.pos, Nat.le_trans MO.le (by decide), MO.lt, MO.nd, MO.ml⟩, few_all le1, sg, T4, fun H5 x1 M1 d1 f1 l1 st5 nn5 T5 nx1 LN1 LO1 lv1 => ?_⟩
    have hR5 := hR4.stay' st5
    refine ⟨_, rfl, _, rfl, a, t, R, E1, z, rs, δ1, mem1, rfl, hR5, MA.stay st5, nRa, nEa, MO, sg, T5, fun H6 x2 M2 d2 f2 l2 N2 δ2 m2 hR6 kp6 T6 LA2 p2 le2 lt2 LM2 => ?_⟩
    refine ⟨by show 2 ≤ sizeLine; decide, fun t2 nt2 => ?_⟩
    have x7 := Ext.new nt2 (o := .tup [V.ref x1, V.ref x2])
    have ht2 : (upd H6 t2 (.tup [V.ref x1, V.ref x2])) t2 = some (.tup [V.ref x1, V.ref x2]) := upd_same
    generalize upd H6 t2 (.tup [V.ref x1, V.ref x2]) = H7 at x7 ht2 ⊢
    refine ⟨t2, _, rfl, SqT.of ht2, rfl, _, _, rfl, _, _, rfl, rfl, ?_⟩
    have six : rs.length * N2 ≤ 6 := Nat.le_trans (Nat.mul_le_mul MO.le le2) (by decide)
    have B : Bs z (rs.length * N2) (prD N2 δ1 δ2) := bs_prod sg MO.pos p2 six MO.lt lt2
    have LM1 : LgM (sgL z) M1 d1 f1 l1 (prD N2 δ1 δ2) fun n => decide (n / N2 ∈ mem1) := lgm_one p2 lt2 (Nat.le_trans LO1.le le1) LO1 lv1
    have A1 : Lg C H7 z (prD N2 δ1 δ2) x1 fun n => decide (n / N2 ∈ mem1) := ⟨M1, d1, f1, l1, (langNew_keepN LN1 nx1 hR4 kp6).stay (stE x7), LM1⟩
    have A2 : Lg C H7 z (prD N2 δ1 δ2) x2 m2 := ⟨M2, d2, f2, l2, LA2.stay (stE x7), LM2⟩
    have MA7 : MacAt H7 t z R E1 rs δ1 mem1 := (macAt_keep (MA.stay st5) hR5 nRa nEa kp6).ext x7
    have T7 : TabsN T H7 := T6.ext x7
    have k7 : KeepN a H H7 := fun b o e n nb => x7 _ _ (kp6 _ _ (st5 _ _ (kp4 _ _ (y3 _ _ (kp2 _ _ (kp1 _ _ e nb) nb)) nb) n) n nb)
    obtain ⟨m1, hm1⟩ : ∃ m1 : Nat → Bool, m1 = fun n => decide (n / N2 ∈ mem1) := ⟨_, rfl⟩
    rw [← hm1] at A1
    have bel : ∀ y : Str, NoteOk z y → decide (run δ1 0 (sgL y) ∈ mem1) = m1 (run (prD N2 δ1 δ2) 0 (sgL y)) := fun y ny => by
      have q := run_pr (d1 := δ1) lt2 (sgL y) 0 0 p2 ny.1
      rw [Nat.zero_mul, Nat.zero_add] at q
      rw [hm1, q]
      dsimp only
      rw [(pr_code (run_lt lt2 (sgL y) 0 p2 ny.1)).1]
    clear hm1
    generalize prD N2 δ1 δ2 = δ at A1 A2 B bel
    generalize rs.length * N2 = N at B
    -- what is shown, the notes
    obtain ⟨sh1, r1⟩ := rep_L sg A1
    obtain ⟨sh2, r2⟩ := rep_L sg A2
    refine ⟨_, rfl, ?_⟩
    dsimp only [tNil]
    refine r1 _ _ (fun _ _ e _ => e) ?_
    refine ⟨_, rfl, ?_⟩
    dsimp only [tNil]
    refine r2 _ _ (fun _ _ e _ => e) ?_
    refine ⟨by show 2 ≤ sizeLine; decide, fun S nS => ?_⟩
    have x8 := Ext.new nS (o := .lst [V.str sh1, V.str sh2])
    have hS : (upd H7 S (.lst [V.str sh1, V.str sh2])) S = some (.lst [V.str sh1, V.str sh2]) := upd_same
    generalize upd H7 S (.lst [V.str sh1, V.str sh2]) = H8 at x8 hS ⊢
    refine ⟨_, rfl, z, 8, rfl, sg.pos, sg.le, by decide, fun H9 Ln ns x9 nLn hLn en ln9 => ⟨_, _, rfl, ?_⟩⟩
    have nok := notes_ok en
    have x79 := x8.trans x9
    have B1 := A1.stay (stE x79)
    have B2 := A2.stay (stE x79)
    have MA9 := MA7.ext x79
    have T9 := T7.ext x79
    have hS9 := x9 _ _ hS
    have e1 := told_take (δ := δ) (m := m1) en
    have e2 := told_take (δ := δ) (m := m2) en
    have lall : (allW (sgL z) 8).length ≤ 600000 := by
      rw [← en, List.length_map]
      exact ln9
    -- which notes are in them
    refine ⟨_, rfl, Ln, rfl, ⟨_, SqL.of hLn⟩, fun D1 nD1 => ?_⟩
    have acc : ∀ {Hb G1 G : Hp} {D : Addr} {i : Nat} {g : Str → Bool} {y : Str}, Hb D = none → Ext Hb G1 → Ext G1 G → G1 D = some (.lst (((ns.take i).map g).map V.bl)) → ns[i]? = some y →
        ∃ acc, G D = some (.lst acc) ∧ acc.length < sizeLine ∧ Ext Hb (upd G D (.lst (acc ++ [V.bl (g y)]))) ∧ (upd G D (.lst (acc ++ [V.bl (g y)]))) D = some (.lst (((ns.take (i + 1)).map g).map V.bl)) := fun {Hb G1 G D i g y} nD xa xb hD hy => by
      have hi' : i < ns.length := (List.getElem?_eq_some_iff.mp hy).1
      refine ⟨_, xb _ _ hD, ?_, fun b o e => ?_, ?_⟩
      · rw [List.length_map, List.length_map, List.length_take, sizeLine_eq]
        omega
      · rw [upd_ne (ne_of_none e nD)]
        exact xb _ _ (xa _ _ e)
      · rw [upd_same, take_more hy, List.map_append, List.map_append]
        rfl
    refine lc_it (walk_list (xs := ns.map V.str)) (fun i H' => Ext H9 H' ∧ H' D1 = some (.lst (((ns.take i).map fun y => m1 (run δ 0 (sgL y))).map V.bl))) ⟨Ext.new nD1, upd_same⟩ (fun i H' _ h => SqL.of (h.1 _ _ hLn)) ?_ ?_
    · rintro i v G1 G2 hi ⟨x6, hD⟩ ⟨rfl, hv⟩
      obtain ⟨y, hy, rfl⟩ := at_map hv
      refine ⟨rfl, ?_⟩
      dsimp only [tYes]
      rw [if_pos rfl]
      exact ⟨_, rfl, _, rfl, has_L sg (B1.stay (stE x6)) (nok y (List.mem_of_getElem? hy)) fun G xG => acc (g := fun y => m1 (run δ 0 (sgL y))) nD1 x6 xG hD hy⟩
    rintro H10 ⟨x10, hD1⟩
    rw [List.length_map, List.take_length, ← e1] at hD1
    refine ⟨_, rfl, Ln, rfl, ⟨_, SqL.of (x10 _ _ hLn)⟩, fun D2 nD2 => ?_⟩
    refine lc_it (walk_list (xs := ns.map V.str)) (fun i H' => Ext H10 H' ∧ H' D2 = some (.lst (((ns.take i).map fun y => m2 (run δ 0 (sgL y))).map V.bl))) ⟨Ext.new nD2, upd_same⟩ (fun i H' _ h => SqL.of (h.1 _ _ (x10 _ _ hLn))) ?_ ?_
    · rintro i v G1 G2 hi ⟨x6, hD⟩ ⟨rfl, hv⟩
      obtain ⟨y, hy, rfl⟩ := at_map hv
      refine ⟨rfl, ?_⟩
      dsimp only [tYes]
      rw [if_pos rfl]
      exact ⟨_, rfl, _, rfl, has_L sg (B2.stay (stE (x10.trans x6))) (nok y (List.mem_of_getElem? hy)) fun G xG => acc (g := fun y => m2 (run δ 0 (sgL y))) nD2 x6 xG hD hy⟩
    rintro H11 ⟨x11, hD2⟩
    rw [List.length_map, List.take_length, ← e2] at hD2
    refine ⟨_, _, rfl, ?_⟩
    have x911 := x10.trans x11
    have hD1 := x11 _ _ hD1
    -- as the machine
    refine ⟨_, rfl, _, rfl, Ln, rfl, ⟨_, SqL.of (x911 _ _ hLn)⟩, fun D3 nD3 => ?_⟩
    refine lc_it (walk_list (xs := ns.map V.str)) (fun i H' => Ext H11 H' ∧ H' D3 = some (.lst (((ns.take i).map fun y => m1 (run δ 0 (sgL y))).map V.bl))) ⟨Ext.new nD3, upd_same⟩ (fun i H' _ h => SqL.of (h.1 _ _ (x911 _ _ hLn))) ?_ ?_
    · rintro i v G1 G2 hi ⟨x6, hD⟩ ⟨rfl, hv⟩
      obtain ⟨y, hy, rfl⟩ := at_map hv
      refine ⟨rfl, ?_⟩
      dsimp only [tYes]
      rw [if_pos rfl]
      have ny := nok y (List.mem_of_getElem? hy)
      refine ⟨_, rfl, _, rfl, t, y, z, R, E1, rs, δ1, mem1, 3, rfl, MA9.ext (x911.trans x6), MO, ny.1, ?_⟩
      rw [bel y ny]
      exact acc (g := fun y => m1 (run δ 0 (sgL y))) nD3 x6 (fun _ _ e => e) hD hy
    rintro H12 ⟨x12, hD3⟩
    rw [List.length_map, List.take_length, ← e1] at hD3
    have hD1 := x12 _ _ hD1
    have hD2 := x12 _ _ hD2
    have x912 := x911.trans x12
    refine ⟨_, _, .lst (SqL.of hD1) (dp_bools _), .lst (SqL.of hD3) (dp_bools _), bools_shaped _, bools_shaped _, ?_⟩
    rw [eqv_bools]
    refine ⟨_, rfl, iteF ?_⟩
    refine ⟨_, rfl, _, rfl, _, rfl, _, rfl, _, _, .lst (SqL.of hD1) (dp_bools _), .lst (SqL.of hD2) (dp_bools _), bools_shaped _, bools_shaped _, ?_⟩
    dsimp only [tNil]
    rw [bools_eqv]
    have C1 := B1.stay (stE x912)
    have C2 := B2.stay (stE x912)
    have T12 := T9.ext x912
    refine ⟨x1, x2, z, δ, m1, m2, _, rfl, C1, C2, told_same B, fun H13 x13 => ?_⟩
    refine ⟨true, rfl, iteF ?_⟩
    refine ⟨_, rfl, _, rfl, _, rfl, _, rfl, x1, x2, D1, D2, z, N, δ, m1, m2, rfl, B, C1.stay (stE x13), C2.stay (stE x13), T12.ext x13, x13 _ _ hD1, x13 _ _ hD2, lall, fun H14 st14 T14 => ?_⟩
    have s14 : StayN H12 H14 := fun b o e n => st14 _ _ (x13 _ _ e) n
    refine ⟨true, rfl, iteF ?_⟩
    refine ⟨_, rfl, _, rfl, _, rfl, _, rfl, x2, x1, D2, D1, z, N, δ, m2, m1, rfl, B, C2.stay s14, C1.stay s14, T14, s14 _ _ hD2 nl, s14 _ _ hD1 nl, lall, fun H15 st15 T15 => ?_⟩
    have s15 : StayN H12 H15 := fun b o e n => st15 _ _ (s14 _ _ e n) n
    refine ⟨true, rfl, iteF ?_⟩
    refine ⟨_, rfl, _, rfl, _, rfl, x1, x2, z, N, δ, m1, m2, rfl, B, C1.stay s15, C2.stay s15, T15, fun H16 st16 T16 => ?_⟩
    have s16 : StayN H12 H16 := fun b o e n => st16 _ _ (s15 _ _ e n) n
    refine ⟨true, rfl, iteF ?_⟩
    refine ⟨_, rfl, _, rfl, x1, z, δ, m1, rfl, sg, C1.stay s16, T16, fun H17 st17 T17 => ?_⟩
    have s17 : StayN H12 H17 := fun b o e n => st17 _ _ (s16 _ _ e n) n
    refine ⟨true, rfl, iteF ?_⟩
    refine ⟨_, rfl, _, rfl, x2, z, δ, m2, rfl, sg, C2.stay s17, T17, fun H18 st18 T18 => ?_⟩
    have s18 : StayN H12 H18 := fun b o e n => st18 _ _ (s17 _ _ e n) n
    refine ⟨true, rfl, iteF ?_⟩
    have s718 : StayN H7 H18 := fun b o e n => s18 _ _ (x912 _ _ (x79 _ _ e)) n
    refine ⟨_, rfl, ?_⟩
    dsimp only [tNil]
    refine r1 _ _ s718 ?_
    refine ⟨_, rfl, ?_⟩
    dsimp only [tNil]
    refine r2 _ _ s718 ?_
    refine ⟨by show 2 ≤ sizeLine; decide, fun S2 nS2 => ?_⟩
    have y6 := Ext.new nS2 (o := .lst [V.str sh1, V.str sh2])
    have hS2 : (upd H18 S2 (.lst [V.str sh1, V.str sh2])) S2 = some (.lst [V.str sh1, V.str sh2]) := upd_same
    generalize upd H18 S2 (.lst [V.str sh1, V.str sh2]) = H19 at y6 hS2 ⊢
    obtain ⟨n, hn, he⟩ := eq_list (K := K) hS2 (y6 _ _ (s18 _ _ (x912 _ _ hS9) nl)) (fun x hx => by
      rcases List.mem_cons.mp hx with rfl | hx
      · rfl
      · rw [List.mem_singleton.mp hx]
        rfl)
    refine ⟨_, rfl, n, hn, he, ?_⟩
    exact kk H19 (fun b o e n nb => y6 _ _ (s718 _ _ (k7 _ _ e n nb) n)) (T18.ext y6)
end
end Sl
/-! ## L9 -/
set_option Elab.async false
set_option linter.all false
set_option maxRecDepth 100000
set_option maxHeartbeats 4000000
/-! _law_rng (k11), law -/
namespace Sl
open PySem PySem.Spec PyProof.Rows L2 TxS LamX NdefX
theorem tabs_put {T : List NTab} {H : Hp} {p : Addr} {o o' : HO} (t : TabsN T H) (hp : H p = some o) (h1 : ∀ ps, o ≠ .tbl ps) (h2 : ∀ c q, o ≠ CodeO c q) : TabsN T (upd H p o') := fun q hq => by
  obtain ⟨ps, a1, a2, a3⟩ := t q hq
  refine ⟨ps, by rw [upd_ne (ne_of a1 hp (fun z => h1 ps z.symm))]; exact a1, a2, fun pos cv hc => ?_⟩
  obtain ⟨c, e, a4⟩ := a3 pos cv hc
  exact ⟨c, e, by rw [upd_ne (ne_of a4 hp (fun z => h2 _ _ z.symm))]; exact a4⟩
/-- a new drawing object -/
def spRng (K : PySem.W.Frag) : Sp := fun vs H Q _ => ∃ (S : Addr) (ns : List Int) (k : Nat), vs = [.ref S, .int k] ∧ SqL K H S (ns.map V.int) ∧ ns.length ≤ 63 ∧ k ≤ 100 ∧ ∀ (H' : Hp) (a : Addr), Ext H H' → H a = none → Rng H' a → Q (.ref a) H'
section
variable {P : Program} {w : World} {K : PySem.W.Frag} {mg : Str → Option Value} {base : Heap}
theorem scRng : FnScope ["_law_script", "_law_k", "_law_cell"] ["_law_script", "_law_k"] (defScope sRng) := ⟨rfl, rfl, rfl, by decide +kernel, rfl, by decide +kernel, by decide +kernel⟩
theorem ok_rng {f : Addr} {fd : FuncData} (F : Fun K "_law_rng" "_law_rng" sRng f fd) (zn : mg "len" = none) (zm : mg "max" = none) (za : mg "abs" = none) (zi : mg "int" = none) : FnOk P w K mg base CX0 1 f fd ["_law_script", "_law_k"] (spRng K) := by
  refine F.ok scRng (fun vs H Q E h => ?_) (fun cdv A0 outer s H vs Q E0 hr h => ?_)
  · obtain ⟨S, ns, k, rfl, _⟩ := h
    rfl
  · obtain ⟨S, ns, kk, rfl, hS, h63, k100, k⟩ := h
    refine ⟨_, pss_cons (ps_set (i := 2) scRng.nd rfl (.inl rfl) (pe_op op_add (pe_op op_mul pe_int (pv 1)) pe_int))
      (pss_cons (ps_if (pt_cmpR op_lt (pv 1) (pe_callB call_len_seq (by rfl) zn PySem.boot_len (pa_cons (pv 0) pa_nil)) (nomark _)) (pss_one (ps_set (i := 2) scRng.nd rfl (.inl rfl) (pe_ix ix_list (pv 0) (pv 1) (fun _ _ => rfl)))) pss_nil)
      (pss_one (ps_ret (pe_lst (pa_cons (pe_callB (call_max2 rfl) (by rfl) zm (by decide +kernel) (pa_cons pe_int (pa_cons (pe_op op_sub (pe_callB call_abs (by rfl) za (by decide +kernel) (pa_cons (pv 2) pa_nil)) (pe_op op_pow pe_int pe_int)) pa_nil)))
        (pa_cons (pe_op op_add (pe_op op_mod (pe_op op_mul (pe_callTy call_int1 (by rfl) zi (by decide +kernel) (pa_cons (pe_op op_add (pe_op op_mod (pe_callTy call_int1 (by rfl) zi (by decide +kernel) (pa_cons (pe_callB call_abs (by rfl) za (by decide +kernel) (pa_cons (pv 2) pa_nil)) pa_nil)) pe_int) pe_int) pa_nil))
          (pe_op op_pow (pe_op op_add (pe_op op_mul pe_int (pv 1)) pe_int) pe_int)) pe_int) pe_int) pa_nil)))))), ?_⟩
    have fin : ∀ c : Int, ∃ x y : Int, (0 ≤ (if (if c < 0 then -c else c) - 10 ^ (18 : Int).toNat > 0 then (if c < 0 then -c else c) - 10 ^ (18 : Int).toNat else 0)) ∧ (0 ≤ ((if c < 0 then -c else c) % 2147483549 + 1) * (2 * (kk : Int) + 3) ^ (3 : Int).toNat % 2147483543 + 1 ∧ ((if c < 0 then -c else c) % 2147483549 + 1) * (2 * (kk : Int) + 3) ^ (3 : Int).toNat % 2147483543 + 1 < 2147483648) ∧
        (0 ≤ (if c < 0 then -c else c) % 2147483549 ∧ (if c < 0 then -c else c) % 2147483549 < 2147483549) := fun c => by
      refine ⟨0, 0, ?_, ?_, Int.emod_nonneg _ (by decide), Int.emod_lt_of_pos _ (by decide)⟩
      · split <;> omega
      · have h1 := Int.emod_nonneg (((if c < 0 then -c else c) % 2147483549 + 1) * (2 * (kk : Int) + 3) ^ (3 : Int).toNat) (show (2147483543 : Int) ≠ 0 by decide)
        have h2 := Int.emod_lt_of_pos (((if c < 0 then -c else c) % 2147483549 + 1) * (2 * (kk : Int) + 3) ^ (3 : Int).toNat) (show (0 : Int) < 2147483543 by decide)
        omega
    refine ⟨_, rfl, _, _, rfl, rfl, .inl ⟨by decide, by decide⟩, _, _, rfl, rfl, ?_⟩
    refine ⟨_, rfl, _, rfl, S, _, rfl, .inl hS, _, _, rfl, rfl, _, rfl, ?_⟩
    refine ite2 (fun c => ?_) (fun c => ?_)
    · have c := of_decide_eq_true c
      rw [List.length_map] at c
      have hk : kk < ns.length := by omega
      refine ⟨_, rfl, _, rfl, S, _, _, .int ns[kk], rfl, rfl, hS, atI_nat (by rw [List.getElem?_map, List.getElem?_eq_getElem hk]; rfl), ?_⟩
      obtain ⟨_, _, f1, f2, f3⟩ := fin ns[kk]
      refine ⟨_, rfl, _, rfl, _, _, rfl, rfl, ⟨by decide, by decide, by decide⟩, _, _, rfl, rfl, _, _, rfl, _, rfl, _, rfl, .inl ⟨_, rfl, _, _, rfl, rfl, (by show (0 : Int) < 2147483549; decide), _, _, rfl, rfl, .inl ⟨_, rfl, _, rfl, _, _, rfl, rfl, .inl ⟨by decide, by decide⟩, _, _, rfl, rfl, _, _, rfl, rfl, ⟨by decide, by decide, ?_⟩, _, _, rfl, rfl, .inl ⟨by omega, by omega⟩, _, _, rfl, rfl, (by show (0 : Int) < 2147483543; decide), _, _, rfl, rfl, by show 2 ≤ sizeLine; decide, fun p np => k _ p (Ext.new np) np ⟨_, _, upd_same, f1, f2.1, f2.2⟩⟩⟩⟩
      show (2 * (kk : Int) + 3).natAbs < 2 ^ 64
      omega
    · obtain ⟨_, _, f1, f2, f3⟩ := fin (11 * kk + 5)
      refine ⟨_, rfl, _, rfl, _, _, rfl, rfl, ⟨by decide, by decide, by decide⟩, _, _, rfl, rfl, _, _, rfl, _, rfl, _, rfl, .inl ⟨_, rfl, _, _, rfl, rfl, (by show (0 : Int) < 2147483549; decide), _, _, rfl, rfl, .inl ⟨_, rfl, _, rfl, _, _, rfl, rfl, .inl ⟨by decide, by decide⟩, _, _, rfl, rfl, _, _, rfl, rfl, ⟨by decide, by decide, ?_⟩, _, _, rfl, rfl, .inl ⟨by omega, by omega⟩, _, _, rfl, rfl, (by show (0 : Int) < 2147483543; decide), _, _, rfl, rfl, by show 2 ≤ sizeLine; decide, fun p np => k _ p (Ext.new np) np ⟨_, _, upd_same, f1, f2.1, f2.2⟩⟩⟩⟩
      show (2 * (kk : Int) + 3).natAbs < 2 ^ 64
      omega
end
abbrev sLaw : Stmt := top 62
def spLaw (K : PySem.W.Frag) (T : List NTab) : Sp := fun vs H Q _ => ∃ (S : Addr) (ns : List Int), vs = [.ref S] ∧ SqL K H S (ns.map V.int) ∧ ns.length ≤ 63 ∧ TabsN T H ∧ ∀ H', Q (.bl true) H'
theorem sql_keepN {K : PySem.W.Frag} {H H' : Hp} {S : Addr} {xs : List V} (x : StayN H H') (h : SqL K H S xs) : SqL K H' S xs := by
  rcases h with (h | ⟨o, h⟩) | h
  · exact .inl (.inl (x _ _ h (by intro ps q; cases q)))
  · exact .inl (.inr ⟨o, x _ _ h (by intro ps q; cases q)⟩)
  · exact .inr h
section
variable {P : Program} {w : World} {K : PySem.W.Frag} {mg : Str → Option Value} {base : Heap}
theorem scLaw : FnScope ["_law_script", "_law_k"] ["_law_script"] (defScope sLaw) := ⟨rfl, rfl, rfl, by decide +kernel, rfl, by decide +kernel, by decide +kernel⟩
theorem ok_law {T : List NTab} {f fR fG : Addr} {fd fdR fdG : FuncData} (F : Fun K "law" "law" sLaw f fd) (aR : At K mg "_law_right" fR fdR ["_law_rng_here"] []) (gR : FnG P w K mg base CX0 16 fR fdR ["_law_rng_here"] (spRight T))
    (aG : At K mg "_law_rng" fG fdG ["_law_script", "_law_k"] []) (gG : FnOk P w K mg base CX0 1 fG fdG ["_law_script", "_law_k"] (spRng K))
    (za : mg "all" = none) (zr : mg "range" = none) (zx : mg "max" = none) (zm : mg "min" = none) (zn : mg "len" = none) : FnG P w K mg base CX0 17 f fd ["_law_script"] (spLaw K T) := by
  refine Sl.Fun.okG F scLaw (fun vs H Q E h => ?_) (fun cdv A0 outer s H vs Q E0 gd hr h => ?_)
  · obtain ⟨S, ns, rfl, _⟩ := h
    rfl
  · obtain ⟨S, ns, rfl, hS, h63, hT, k⟩ := h
    have hr1 : Room 1 _ := hr.mono (by decide)
    refine ⟨_, pss_one (ps_ret (pe_callB (cr_all rfl) (by rfl) za (by decide +kernel) (pa_cons (pe_lc (own := [("_law_k", 1)]) (g := gName 1) (tt := tYes) (te := tCall (spRight T) [] (fun _ _ _ => False) (tCons (tCall (spRng K) [] (fun _ _ _ => False) (tCons (tVar 0) (tCons (tVar 1) tNil))) tNil)) rfl scLaw.nd
        (pi_range1 rfl zr (pa_cons (pe_callB (call_max2 rfl) (by rfl) zx (by decide +kernel) (pa_cons pe_int (pa_cons (pe_callB (call_min2 rfl) (by rfl) zm (by decide +kernel) (pa_cons (pe_callB call_len_seq (by rfl) zn PySem.boot_len (pa_cons (pv 0) pa_nil)) (pa_cons pe_int pa_nil))) pa_nil))) pa_nil)) (blkOk_by (N := ["_law_script", "_law_k"]) (sc := defScope sLaw) (by decide +kernel))
        (fun _ _ _ _ _ => pg_name (i := 1) scLaw.nd rfl (Or.inl rfl)) (fun _ _ _ _ _ => pts_nil) (fun _ _ _ _ _ => pe_callG gR gd hr (by rfl) aR.g aR.kp aR.b pass0 (pa_cons (pe_call gG hr1 (by rfl) aG.g aG.kp aG.b .nil pass0 (pa_cons (pe_var (i := 0) rfl (.inr (.inl rfl))) (pa_cons (pv 1) pa_nil))) pa_nil))) pa_nil))), ?_⟩
    have hl : (ns.map V.int).length = ns.length := List.length_map _
    refine ⟨_, rfl, S, _, rfl, .inl hS, _, _, rfl, _, _, rfl, ?_⟩
    rw [hl]
    generalize hm : (if (4 : Int) < (ns.length : Nat) then (4 : Int) else ((ns.length : Nat) : Int)) = m
    generalize hn : (if m > 1 then m else 1) = n0
    have n1 : 0 ≤ n0 ∧ n0 ≤ 5 := by
      have : m ≤ 5 := by
        rw [← hm]
        split <;> omega
      rw [← hn]
      split <;> omega
    obtain ⟨n, rfl⟩ : ∃ n : Nat, n0 = (n : Int) := ⟨n0.toNat, by omega⟩
    refine ⟨(n : Int), rfl, by omega, by omega, fun D nD => ?_⟩
    rw [show ((n : Int)).toNat = n by omega]
    refine lc_it (walk_range (lo := 0) (n := n)) (fun i H' => StayN H H' ∧ TabsN T H' ∧ H' D = some (.lst ((List.replicate i true).map V.bl))) ⟨fun b o e _ => Ext.new nD _ _ e, hT.ext (Ext.new nD), upd_same⟩ (fun _ _ _ _ => trivial) ?_ ?_
    · rintro i v H0 H1 hi ⟨x1, T1, d1⟩ ⟨rfl, rfl⟩
      refine ⟨rfl, ?_⟩
      dsimp only [tYes]
      rw [if_pos rfl]
      refine ⟨_, rfl, _, rfl, S, ns, i, by simp, sql_keepN x1 hS, h63, by omega, fun H2 a x2 na ra => ⟨a, rfl, ra, T1.ext x2, fun H3 k3 T3 => ?_⟩⟩
      have d2 := x2 _ _ d1
      have nDa : D ≠ a := fun e => by
        rw [e, na] at d1
        cases d1
      have d3 := k3 _ _ d2 (by intro ps q; cases q) nDa
      refine ⟨_, d3, by rw [List.length_map, List.length_replicate]; exact small_list (by omega), fun b o e n => ?_, tabs_put T3 d3 (by intro ps q; cases q) (by intro c q z; unfold CodeO at z; cases z), ?_⟩
      · rw [upd_ne (ne_of_none e nD)]
        exact k3 _ _ (x2 _ _ (x1 _ _ e n)) n (ne_of_none (x1 _ _ e n) na)
      · rw [upd_same, List.replicate_succ', List.map_append]
        rfl
    · rintro H1 ⟨x1, T1, d1⟩
      refine ⟨D, List.replicate n true, rfl, SqL.of d1, ?_⟩
      have e : (List.replicate n true).all id = true := by
        rw [List.all_eq_true]
        intro b hb
        rw [(List.mem_replicate.mp hb).2]
        rfl
      rw [e]
      exact k H1
end
end Sl
/-! ## E1 -/
set_option Elab.async false
set_option linter.all false
set_option maxRecDepth 100000
set_option maxHeartbeats 4000000
/-! the end: seven defs make lambdas; the tables of their code objects are taken out of the written part and told besides -/
namespace Sl
open PySem PySem.Spec PyProof.Rows L2 LamX NdefX
/-- all but what stands at ps -/
def dropL (ps : List Addr) (K : PySem.W.Frag) : PySem.W.Frag := K.filter fun q => !(ps.elem q.1)
theorem dropL_self {ps : List Addr} {p : Addr} (hp : p ∈ ps) : ∀ K : PySem.W.Frag, (dropL ps K).lookup p = none
  | [] => rfl
  | (b, u) :: r => by
    unfold dropL
    rw [List.filter_cons]
    cases e : ps.elem b with
    | true =>
      simp only [Bool.not_true, Bool.false_eq_true, if_false]
      exact dropL_self hp r
    | false =>
      have q : (p == b) = false := beq_eq_false_iff_ne.mpr fun c => by
        subst c
        rw [List.elem_eq_true_of_mem hp] at e
        cases e
      simp only [Bool.not_false, if_true]
      rw [List.lookup_cons, q]
      exact dropL_self hp r
theorem dropL_at {ps : List Addr} {a : Addr} {o : Obj} : ∀ {K : PySem.W.Frag}, (dropL ps K).lookup a = some o → K.lookup a = some o
  | [], h => h
  | (b, u) :: r, h => by
    by_cases m : a ∈ ps
    · rw [dropL_self m] at h
      cases h
    unfold dropL at h
    rw [List.filter_cons] at h
    cases e : ps.elem b with
    | true =>
      rw [e] at h
      simp only [Bool.not_true, Bool.false_eq_true, if_false] at h
      have q : (a == b) = false := beq_eq_false_iff_ne.mpr fun c => m (by
        subst c
        exact List.elem_iff.mp e)
      rw [List.lookup_cons, q]
      exact dropL_at h
    | false =>
      rw [e] at h
      simp only [Bool.not_false, if_true] at h
      rw [List.lookup_cons] at h ⊢
      cases c : (a == b) with
      | true =>
        rw [c] at h
        exact h
      | false =>
        rw [c] at h
        exact dropL_at h
theorem dropL_in {ps : List Addr} {K : PySem.W.Frag} {h : Heap} (X : K.In h) : (dropL ps K).In h := fun b o e => X b o (dropL_at e)
theorem same {α : Type} {F : PySem.W.Frag → α} {ps : List Addr} {K K1 : PySem.W.Frag} {r : α} (h : K1 = dropL ps K) (_y : F K = r) (x : F (dropL ps K) = r) : F K1 = r := by
  rw [h]
  exact x
abbrev noRows : Obj := { cls := .none, data := .fields #[] }
section
variable {P : Program} {w : World} {K : PySem.W.Frag} {mg mb : Str → Option Value} {CX : CXT} {k : Nat} {fa a : Addr} {cs : List (Addr × Addr)} {fd : FuncData} {x : Str} {sp : Sp} {z : Shared} {us : List Value} {js : List Int}
abbrev EndOk (z : Shared) : Result → Shared → Prop := fun r t => r = .ok (.ret (.bool true)) ∧ OldK z.heap t.heap ∧ t.os = z.os ∧ AllBare t.gens
/-- what the head's heap says of the names and of the tables -/
structure EndAtL (K : PySem.W.Frag) (mg mb : Str → Option Value) (cs : List (Addr × Addr)) (z : Shared) : Prop where
  inz : K.In z.heap
  ng : z.heap.Ns mainGlobals mg
  nb : z.heap.Ns builtinsNs mb
  eb : ∀ y : Str, y ≠ "__name__" → mb y = bootBuiltins y
  nl : z.heap.NoLimit
  gn : z.gens = #[]
  bi : ∃ (m : Addr) (o : Obj), mg "__builtins__" = some (.ref m) ∧ m ≠ builtinsNs ∧ z.heap.get? m = some o ∧ o.cls = .type "module" ∧ o.dict = some builtinsNs ∧ o.data = .plain
  em : ∀ p ∈ cs, z.heap.get? p.2 = some noRows
  hd : ∀ p ∈ cs, PySem.W.CodeHd z.heap p.1 p.2
theorem end_tabs1 {T : Hp} (W : EndAtL K mg mb cs z) (at_ : z.heap.get? a = some { cls := .type "list", data := .seq us.toArray }) (rm : Room k callerA)
    (F : ∀ base : Heap, K.In base → base.Ns mainGlobals mg → (∀ p ∈ cs, TabB base mg p.1 p.2) → FnG P w K mg base CX k fa fd [x] sp) (bd : ∀ (t : Shared) (u : Value), BindsTo t fd ⟨[u], []⟩ [(x, u)])
    (pr : sp [.ref a] T (fun v _ => v = .bl true) fun _ _ _ => False) (no : ∀ H e t, CX [] H z (fun _ _ _ => False) e t → False)
    (tp : ∀ p ∈ cs, T p.2 = some (.tbl #[])) (on : ∀ b, (∀ p ∈ cs, b ≠ p.2) → T b = none ∨ ∃ o ys, T b = some (.frz o (.lst ys))) (ok : HOk P w T z.heap) (one : ∀ b, T b ≠ none → b = a ∨ ∃ p ∈ cs, b = p.2) (out : ∀ b, T b ≠ none → K.lookup b = none) :
    codeAny (model P w) callerA (.call (.ref fa) ⟨[.ref a], []⟩) (EndOk z) z := by
  have free : ∀ {b : Addr} {o : Obj}, z.heap.get? b = some o → o ≠ { cls := .type "list", data := .seq us.toArray } → o ≠ noRows → T b = none := fun {b o} e n1 n2 => by
    cases q : T b with
    | none => rfl
    | some u =>
      rcases one b (by rw [q]; exact Option.some_ne_none u) with r | ⟨p, hp, r⟩
      · rw [r] at e
        exact absurd (Option.some.inj (e.symm.trans at_)) n1
      · rw [r] at e
        exact absurd (Option.some.inj (e.symm.trans (W.em p hp))) n2
  have inB : K.In (hidT z.heap T) := fun b o e => hidT_get (W.inz b o e) (by
    cases q : T b with
    | none => rfl
    | some u =>
      have k := out b (by rw [q]; exact Option.some_ne_none u)
      rw [e] at k
      cases k)
  have spc : ∀ {b : Addr} {m : Str → Option Value}, z.heap.Ns b m → (hidT z.heap T).Ns b m := fun {b m} h => by
    obtain ⟨o, es, ep, e, d, r⟩ := h
    refine ⟨o, es, ep, hidT_get e (free e (fun c => ?_) fun c => ?_), d, r⟩
    · rw [c] at d
      cases d
    · rw [c] at d
      cases d
  have lm : (hidT z.heap T).NoLimit := by
    obtain ⟨m, n1, n2⟩ := W.nl
    exact ⟨m, spc n1, n2⟩
  have tb : ∀ p ∈ cs, TabB (hidT z.heap T) mg p.1 p.2 := fun p hp => by
    refine ⟨?_, ?_, fun y => ?_⟩
    · obtain ⟨o, vs, file, tf, fl, tg, inF, tx, tt, e1, e2, e3, r⟩ := W.hd p hp
      refine ⟨o, vs, file, tf, fl, tg, inF, tx, tt, hidT_get e1 (free e1 (fun c => ?_) fun c => ?_), e2, e3, r⟩
      · rw [c] at e3
        cases e3
      · rw [c] at e2
        cases e2
    · obtain ⟨m, o, e1, e2, e3, e4, e5, e6⟩ := W.bi
      have nG : m ≠ mainGlobals := fun c => by
        obtain ⟨o', es, ep, q1, q2, _⟩ := W.ng
        rw [c, q1] at e3
        cases e3
        rw [q2] at e6
        cases e6
      have nP : m ≠ p.2 := fun c => by
        rw [c, W.em p hp] at e3
        cases e3
        cases e6
      refine ⟨m, o, e1, e2, nG, nP, hidT_get e3 (free e3 (fun c => ?_) fun c => ?_), e4, e5, e6⟩
      · rw [c] at e6
        cases e6
      · rw [c] at e6
        cases e6
    · obtain ⟨o', es, ep, q1, q2, _⟩ := W.ng
      rw [y, W.em p hp] at q1
      cases q1
      cases q2
  have ev : Env0 P w K mg (hidT z.heap T) callerA [] z T :=
    ⟨rfl, ⟨inB, spc W.ng, ⟨mb, spc W.nb, W.eb⟩, lm⟩, fun _ _ e => of_hidT e, Nat.le_of_eq (hidT_size _ _), trivial, fun b hb => (List.not_mem_nil (show b ∈ ([] : List Addr) from hb)).elim, ok, .of_eq W.gn⟩
  refine codeAny_mono ((F _ inB (spc W.ng) tb).run callerA [] z T ⟨[.ref a], []⟩ [.ref a] [.ref a] _ _ rfl rm ev (bd z (.ref a)) (.cons rfl .nil) pr) fun r t q => ?_
  rcases r with e | fl
  · exact (no T e t q).elim
  cases fl with
  | next => exact q.elim
  | brk => exact q.elim
  | cont => exact q.elim
  | ret u =>
    obtain ⟨v, T', o1, o2, un, ok', rv, rfl⟩ := q
    obtain rfl : u = Value.bool true := rv
    have same : ∀ b o, (∀ p ∈ cs, b ≠ p.2) → z.heap.get? b = some o → t.heap.get? b = some o := fun b o ne e => by
      rcases on b ne with n | ⟨o', ys, n⟩
      · exact un.keep b o e n (fun c => (List.not_mem_nil (show b ∈ ([] : List Addr) from c)).elim) (List.not_mem_nil)
      · obtain ⟨e1, _⟩ := ok b _ n
        obtain ⟨e2, _⟩ := ok' b _ (un.frzs b o' _ n)
        rw [e1] at e
        cases e
        exact e2
    have grew : ∀ p ∈ cs, ∃ more : Array Value, t.heap.get? p.2 = some { cls := .none, data := .fields (#[] ++ more) } := fun p hp => by
      obtain ⟨more, um⟩ := un.tbls p.2 #[] (tp p hp)
      exact ⟨more, ok' p.2 _ um⟩
    refine ⟨rfl, ⟨fun b o e => ?_, fun b o e => ?_⟩, o1, o2⟩
    · by_cases q : ∃ p ∈ cs, b = p.2
      · obtain ⟨p, hp, rfl⟩ := q
        rw [W.em p hp] at e
        cases e
        obtain ⟨more, g⟩ := grew p hp
        exact .inr (.inl ⟨((W.hd p hp).tab (W.em p hp)).isCodeTable, rfl, #[], more, rfl, g⟩)
      · exact .inl (same b o (fun p hp c => q ⟨p, hp, c⟩) e)
    · by_cases q : ∃ p ∈ cs, b = p.2
      · obtain ⟨p, hp, rfl⟩ := q
        obtain ⟨more, g⟩ := grew p hp
        exact ⟨_, g⟩
      · exact ⟨o, same b o (fun p hp c => q ⟨p, hp, c⟩) e⟩
theorem end_tabs (W : EndAtL K mg mb cs z) (kp : ∀ p ∈ cs, K.lookup p.2 = none) (at_ : z.heap.get? a = some { cls := .type "list", data := .seq us.toArray }) (ia : IntsAre us js) (sz : js.length ≤ sizeLine) (rm : Room k callerA)
    (F : ∀ base : Heap, K.In base → base.Ns mainGlobals mg → (∀ p ∈ cs, TabB base mg p.1 p.2) → FnG P w K mg base CX k fa fd [x] sp) (bd : ∀ (t : Shared) (u : Value), BindsTo t fd ⟨[u], []⟩ [(x, u)])
    (pr : ∀ T : Hp, (∀ p ∈ cs, T p.2 = some (.tbl #[])) → SqL K T a (js.map V.int) → sp [.ref a] T (fun v _ => v = .bl true) fun _ _ _ => False) (no : ∀ H e t, CX [] H z (fun _ _ _ => False) e t → False) :
    codeAny (model P w) callerA (.call (.ref fa) ⟨[.ref a], []⟩) (EndOk z) z := by
  classical
  have rv := vals_ints ia
  have ln := ia.length
  have pa : ∀ p ∈ cs, a ≠ p.2 := fun p hp e => by
    rw [e, W.em p hp] at at_
    cases at_
  cases own : K.lookup a with
  | some o =>
    have e := W.inz a o own
    rw [at_] at e
    cases e
    let T0 : Hp := fun b => if ∃ p ∈ cs, b = p.2 then some (.tbl #[]) else none
    have tp : ∀ p ∈ cs, T0 p.2 = some (.tbl #[]) := fun p hp => if_pos ⟨p, hp, rfl⟩
    have tn : ∀ {b}, (¬ ∃ p ∈ cs, b = p.2) → T0 b = none := fun {b} q => if_neg q
    have to : ∀ {b}, T0 b ≠ none → ∃ p ∈ cs, b = p.2 := fun {b} q => Classical.byContradiction fun r => q (tn r)
    refine end_tabs1 (T := T0) W at_ rm F bd (pr T0 tp (.inr ⟨_, us.toArray, _, own, rfl, rfl, rfl, ?_, ?_⟩)) no tp (fun b q => .inl (tn fun ⟨p, hp, c⟩ => q p hp c)) (fun b u q => ?_) (fun b q => .inr (to q)) fun b q => ?_
    · rw [List.size_toArray, ln]
      exact sz
    · simpa using rv
    · obtain ⟨p, hp, r⟩ := to (b := b) (by rw [q]; exact Option.some_ne_none u)
      subst r
      rw [tp p hp] at q
      cases q
      exact W.em p hp
    · obtain ⟨p, hp, r⟩ := to q
      rw [r]
      exact kp p hp
  | none =>
    let T0 : Hp := fun b => if ∃ p ∈ cs, b = p.2 then some (.tbl #[]) else if b = a then some (.frz { cls := .type "list", data := .seq us.toArray } (.lst (js.map V.int))) else none
    have tp : ∀ p ∈ cs, T0 p.2 = some (.tbl #[]) := fun p hp => if_pos ⟨p, hp, rfl⟩
    have ta : T0 a = some (.frz { cls := .type "list", data := .seq us.toArray } (.lst (js.map V.int))) := (if_neg fun ⟨p, hp, c⟩ => pa p hp c).trans (if_pos rfl)
    have tn : ∀ {b}, (¬ ∃ p ∈ cs, b = p.2) → b ≠ a → T0 b = none := fun {b} q r => (if_neg q).trans (if_neg r)
    have to : ∀ {b}, T0 b ≠ none → b = a ∨ ∃ p ∈ cs, b = p.2 := fun {b} q => by
      by_cases r : ∃ p ∈ cs, b = p.2
      · exact .inr r
      by_cases s : b = a
      · exact .inl s
      exact absurd (tn r s) q
    refine end_tabs1 (T := T0) W at_ rm F bd (pr T0 tp (.inl (.inr ⟨_, ta⟩))) no tp (fun b q => ?_) (fun b u q => ?_) (fun b q => to q) fun b q => ?_
    · by_cases s : b = a
      · subst s
        exact .inr ⟨_, _, ta⟩
      · exact .inl (tn (fun ⟨p, hp, c⟩ => q p hp c) s)
    · rcases to (b := b) (by rw [q]; exact Option.some_ne_none u) with r | ⟨p, hp, r⟩
      · subst r
        rw [ta] at q
        cases q
        exact ⟨at_, by rw [List.length_map]; exact sz, us, _, rv, at_⟩
      · subst r
        rw [tp p hp] at q
        cases q
        exact W.em p hp
    · rcases to q with r | ⟨p, hp, r⟩
      · rw [r]
        exact own
      · rw [r]
        exact kp p hp
end
theorem walk_ofL {l : PySem.W.OpenLaw} {n k : Nat} {q : Program} {loose : List Str} {XP : (Str → Option Value) → Heap → Prop} {YP : World → Heap → Prop} {d : DefRec} {K : Params → PySem.W.Frag} {sp : PySem.W.Frag → Sp} {x : Str} {cs : List (Addr × Addr)}
    (m : l.most = some n) (m2 : n ≤ sizeLine) (nd : d.params.defaults = []) (rm : Room k callerA) (inY : ∀ (w : World) (h : Heap), YP w h → (K w.params).In h)
    (F : ∀ (w : World) (mg : Str → Option Value) (fa : Addr) (h : Heap) (K1 : PySem.W.Frag), K1 = dropL (cs.map (·.2)) (K w.params) → K1.In h → h.Ns mainGlobals mg → mg d.name = some (.ref fa) →
      (∀ p ∈ cs, (K w.params).lookup p.2 = some noRows) ∧ (∀ p ∈ cs, PySem.W.codeHdIn (K w.params) p.1 p.2 = true) ∧
      ∃ fd : FuncData, (∀ (t : Shared) (u : Value), BindsTo t fd ⟨[u], []⟩ [(x, u)]) ∧ ∀ base : Heap, K1.In base → base.Ns mainGlobals mg → (∀ p ∈ cs, TabB base mg p.1 p.2) → FnG l.prog w K1 mg base CX0 k fa fd [x] (sp K1))
    (pr : ∀ (K : PySem.W.Frag) (H : Hp) (a : Addr) (js : List Int), js.length ≤ n → (∀ p ∈ cs, H p.2 = some (.tbl #[])) → SqL K H a (js.map V.int) → sp K [.ref a] H (fun v _ => v = .bl true) fun _ _ _ => False) :
    PySem.W.WalkO q loose XP YP l.row.toRowW d [] (fun f vs => PySem.call f vs) := by
  refine Att.attach_call m nd fun w t0 t1 mg mb fa o pm cd doc a us js G Y ho hd hcd hmg hobj hints hlen hg => ?_
  have X := inY w _ Y
  obtain ⟨l1, l2, fd, b, f⟩ := F w mg fa _ _ rfl (dropL_in X) G.T.g hmg
  exact end_tabs (sp := sp _) ⟨dropL_in X, G.T.g, G.T.b, G.T.builtins, G.T.nolimit, hg, G.T.bmain, fun p hp => X _ _ (l1 p hp), fun p hp => PySem.W.codeHd_of_K X (l2 p hp)⟩ (fun p hp => dropL_self (List.mem_map.mpr ⟨p, hp, rfl⟩) _) hobj hints (Nat.le_trans hlen m2) rm f b (fun T h1 h2 => pr _ T a js hlen h1 h2) fun _ _ _ c => c
/-! ### what the top has written -/
/-- a def of the module -/
structure Std (K : PySem.W.Frag) (x : Str) (st : Stmt) (f : Addr) : Prop where
  ns : PySem.W.nsIn K mainGlobals x = some (some (.ref f))
  fn : ∃ fd, Fun K x x st f fd
theorem std_of {K : PySem.W.Frag} {x : Str} {st : Stmt} {f : Addr} {oc : Value} {od an : Option Addr} {osl : Array (Option Value)} {kV doc pm cdv ct : Value} (n : PySem.W.nsIn K mainGlobals x = some (some (.ref f)))
    (l : K.lookup f = some ⟨oc, od, .func (PySem.W.fnOf x x (defArgs st) (defBody st) (defScope st) .none kV doc pm an cdv ct), osl⟩) (c : PySem.W.codeIn K cdv x = true) (k : PySem.W.keepIn K (.ref f) = true) : Std K x st f := ⟨n, _, fun_mk l c k⟩
/-- a def that makes lambdas: its code object -/
structure StdT (K : PySem.W.Frag) (x : Str) (st : Stmt) (f c : Addr) : Prop where
  ns : PySem.W.nsIn K mainGlobals x = some (some (.ref f))
  fn : ∃ fd, Fun K x x st f fd ∧ fd.code = .ref c
theorem stdt_of {K : PySem.W.Frag} {x : Str} {st : Stmt} {f c : Addr} {oc : Value} {od an : Option Addr} {osl : Array (Option Value)} {kV doc pm ct : Value} (n : PySem.W.nsIn K mainGlobals x = some (some (.ref f)))
    (l : K.lookup f = some ⟨oc, od, .func (PySem.W.fnOf x x (defArgs st) (defBody st) (defScope st) .none kV doc pm an (.ref c) ct), osl⟩) (co : PySem.W.codeIn K (.ref c) x = true) (k : PySem.W.keepIn K (.ref f) = true) : StdT K x st f c := ⟨n, _, fun_mk l co k, rfl⟩
/-- a def of the class -/
structure InCls (K : PySem.W.Frag) (C : Addr) (x q : Str) (st : Stmt) (f : Addr) : Prop where
  m : Meth K C x f
  fn : ∃ fd, Fun K x q st f fd
theorem incls_of {K : PySem.W.Frag} {C : Addr} {x q : Str} {st : Stmt} {f : Addr} {oc : Value} {od an : Option Addr} {osl : Array (Option Value)} {kV doc pm cdv ct : Value} (n : PySem.W.findIn K (.ref C) x = some (some (.ref f))) (i : PySem.W.isFn K (.ref f) = true)
    (l : K.lookup f = some ⟨oc, od, .func (PySem.W.fnOf x q (defArgs st) (defBody st) (defScope st) .none kV doc pm an cdv ct), osl⟩) (c : PySem.W.codeIn K cdv q = true) (k : PySem.W.keepIn K (.ref f) = true) : InCls K C x q st f := ⟨⟨n, i, k⟩, _, fun_mk l c k⟩
/-- the property's getter -/
structure InProp (K : PySem.W.Frag) (C : Addr) (x q : Str) (st : Stmt) (p f : Addr) : Prop where
  m : PropOf K C x p f
  fn : ∃ fd, Fun K x q st f fd
theorem inprop_of {K : PySem.W.Frag} {C : Addr} {x q : Str} {st : Stmt} {p f : Addr} {rest : List Value} {oc : Value} {od an : Option Addr} {osl : Array (Option Value)} {kV doc pm cdv ct : Value} (n : PySem.W.findIn K (.ref C) x = some (some (.ref p)))
    (g : PySem.W.specialIn K (.ref p) "__get__" = some (some (.builtin "property.__get__"))) (t : PySem.W.takesIn K (.ref p) = some true) (r : PySem.W.recIn K p "property" = some (.ref f :: rest))
    (l : K.lookup f = some ⟨oc, od, .func (PySem.W.fnOf x q (defArgs st) (defBody st) (defScope st) .none kV doc pm an cdv ct), osl⟩) (c : PySem.W.codeIn K cdv q = true) (k : PySem.W.keepIn K (.ref f) = true) : InProp K C x q st p f := ⟨⟨n, g, t, rest, r⟩, _, fun_mk l c k⟩
/-- a class method -/
structure InCM (K : PySem.W.Frag) (C : Addr) (x q : Str) (st : Stmt) (p f : Addr) : Prop where
  m : ClX.CMet K C (.type "type") x p f
  fn : ∃ fd, Fun K x q st f fd
theorem incm_of {K : PySem.W.Frag} {C : Addr} {x q : Str} {st : Stmt} {p f : Addr} {rest : List Value} {oc : Value} {od an : Option Addr} {osl : Array (Option Value)} {kV doc pm cdv ct : Value} (m1 : PySem.W.findCls K (.ref C) (.type "type") x = some (.get (.builtin "classmethod.__get__") (.ref p) .none (.ref C))) (m2 : PySem.W.recIn K p "classmethod" = some (.ref f :: rest)) (m3 : PySem.W.fnIn K f = true)
    (l : K.lookup f = some ⟨oc, od, .func (PySem.W.fnOf x q (defArgs st) (defBody st) (defScope st) .none kV doc pm an cdv ct), osl⟩) (c : PySem.W.codeIn K cdv q = true) (k : PySem.W.keepIn K (.ref f) = true) : InCM K C x q st p f := ⟨⟨m1, ⟨rest, m2⟩, m3⟩, _, fun_mk l c k⟩
/-- the class, with its __init__ and its constant -/
structure LgAll (K : PySem.W.Frag) (C fI c : Addr) (u6 : Value) : Prop where
  ns : PySem.W.nsIn K mainGlobals "Language" = some (some (.ref C))
  lg : LgC K C
  isc : C8.InsC K C
  mak : Mk K C fI
  con : Con K C "MAX_STATES" (.int 6) u6
  ini : ∃ fd, Fun K "__init__" "Language.__init__" sLInit fI fd ∧ fd.code = .ref c
theorem lgall_of {K : PySem.W.Frag} {C fI cI : Addr} {t6 : Tok} {oc : Value} {od an : Option Addr} {osl : Array (Option Value)} {kV doc pm ct : Value}
    (ns : PySem.W.nsIn K mainGlobals "Language" = some (some (.ref C)))
    (pg : PySem.W.plainGet K C Str.empty = true) (hd : PySem.W.hasDictIn K C = true) (po : PySem.W.plainOver K C = true) (sa : PySem.W.findIn K (.ref C) "__setattr__" = some (some (.builtin "object.__setattr__")))
    (n1 : PySem.W.findIn K (.ref C) "_signs" = some none) (n2 : PySem.W.findIn K (.ref C) "_states" = some none) (n3 : PySem.W.findIn K (.ref C) "_members" = some none) (n4 : PySem.W.findIn K (.ref C) "_live" = some none)
    (mk : PySem.W.makesIn K C = true) (i : PySem.W.findIn K (.ref C) "__init__" = some (some (.ref fI))) (fn : PySem.W.isFn K (.ref fI) = true) (kC : PySem.W.keepIn K (.ref C) = true)
    (i1 : PySem.W.findIn K (.ref C) "__class__" = some (some (.builtin "object.__class__"))) (i2 : PySem.W.specialIn K (.builtin "object.__class__") "__get__" = some (some (.builtin "getset_descriptor.__get__"))) (i3 : PySem.W.takesIn K (.builtin "object.__class__") = some true) (i4 : PySem.W.mroIn K C (.type "object") = some true) (i5 : PySem.W.kitOne K (.ref C) (.ref C) = some true)
    (c1 : PySem.W.findIn K (.ref C) "MAX_STATES" = some (some (.int 6 t6))) (c2 : PySem.W.specialIn K (.int 6 t6) "__get__" = some none)
    (l : K.lookup fI = some ⟨oc, od, .func (PySem.W.fnOf "__init__" "Language.__init__" (defArgs sLInit) (defBody sLInit) (defScope sLInit) .none kV doc pm an (.ref cI) ct), osl⟩) (c : PySem.W.codeIn K (.ref cI) "Language.__init__" = true) (k : PySem.W.keepIn K (.ref fI) = true) : LgAll K C fI cI (.int 6 t6) :=
  ⟨ns, ⟨⟨pg, hd, po, sa⟩, n1, n2, n3, n4⟩, ⟨⟨pg, hd, po, sa⟩, i1, i2, i3, i4, i5⟩, ⟨mk, i, fn, kC⟩, ⟨c1, ⟨t6, rfl⟩, c2, by decide +kernel⟩, _, fun_mk l c k, rfl⟩
theorem vals_rev : ∀ {vs : List V} {us : List Value}, Vals vs us → Vals vs.reverse us.reverse
  | _, _, .nil => .nil
  | _, _, .cons r rs => by
    rw [List.reverse_cons, List.reverse_cons]
    exact (vals_rev rs).append (.cons r .nil)
theorem kb_both {K : PySem.W.Frag} {f : Addr} {fd : FuncData} (F : Fun K "both" "both" sBoth f fd) : KBn K fd ["one", "other"] 0 ["other", "one"] (fun us ws => us ++ ws.reverse) (fun vs zs => vs ++ zs.reverse) := by
  obtain ⟨oc, od, kV, doc, pm, an, cdv, ct, osl, e, _⟩ := F.ex
  subst e
  exact ⟨fun s us ws _ h1 h2 => match us, ws, h1, h2 with
    | [], [_, _], _, _ => .of_eq rfl, fun r1 r2 => r1.append (vals_rev r2)⟩
theorem kb_either {K : PySem.W.Frag} {f : Addr} {fd : FuncData} (F : Fun K "either" "either" sEither f fd) : KBn K fd ["one", "other"] 0 ["other", "one"] (fun us ws => us ++ ws.reverse) (fun vs zs => vs ++ zs.reverse) := by
  obtain ⟨oc, od, kV, doc, pm, an, cdv, ct, osl, e, _⟩ := F.ex
  subst e
  exact ⟨fun s us ws _ h1 h2 => match us, ws, h1, h2 with
    | [], [_, _], _, _ => .of_eq rfl, fun r1 r2 => r1.append (vals_rev r2)⟩
theorem kb_without {K : PySem.W.Frag} {f : Addr} {fd : FuncData} (F : Fun K "without" "without" sWithout f fd) : KBn K fd ["one", "other"] 0 ["other", "one"] (fun us ws => us ++ ws.reverse) (fun vs zs => vs ++ zs.reverse) := by
  obtain ⟨oc, od, kV, doc, pm, an, cdv, ct, osl, e, _⟩ := F.ex
  subst e
  exact ⟨fun s us ws _ h1 h2 => match us, ws, h1, h2 with
    | [], [_, _], _, _ => .of_eq rfl, fun r1 r2 => r1.append (vals_rev r2)⟩
theorem sys_of {K : PySem.W.Frag} {o : Obj} (h : K.lookup sysModules = some o) : ∃ o, K.lookup sysModules = some o := ⟨o, h⟩
/-- the tables -/
abbrev tbs (p1 p2 p3 p4 p5 p6 p7 p8 : Addr) : List NTab := [(p1, fun _ _ => "reached.<locals>.<lambda>"), (p2, fun _ _ => "least_machine.<locals>.<lambda>"), (p3, fun _ _ => "Language.__init__.<locals>.<lambda>"), (p4, nmComb), (p5, fun _ _ => "both.<locals>.<lambda>"), (p6, fun _ _ => "either.<locals>.<lambda>"), (p7, fun _ _ => "without.<locals>.<lambda>"), (p8, nmOut)]
abbrev cds (c1 p1 c2 p2 c3 p3 c4 p4 c5 p5 c6 p6 c7 p7 c8 p8 : Addr) : List (Addr × Addr) := [(c1, p1), (c2, p2), (c3, p3), (c4, p4), (c5, p5), (c6, p6), (c7, p7), (c8, p8)]
theorem tbs_nil {H : Hp} {c1 p1 c2 p2 c3 p3 c4 p4 c5 p5 c6 p6 c7 p7 c8 p8 : Addr} (h : ∀ p ∈ cds c1 p1 c2 p2 c3 p3 c4 p4 c5 p5 c6 p6 c7 p7 c8 p8, H p.2 = some (.tbl #[])) : TabsN (tbs p1 p2 p3 p4 p5 p6 p7 p8) H := fun q hq => by
  simp only [List.mem_cons, List.not_mem_nil, or_false] at hq
  rcases hq with rfl | rfl | rfl | rfl | rfl | rfl | rfl | rfl
  · exact TabN.nil (h (c1, p1) (by simp))
  · exact TabN.nil (h (c2, p2) (by simp))
  · exact TabN.nil (h (c3, p3) (by simp))
  · exact TabN.nil (h (c4, p4) (by simp))
  · exact TabN.nil (h (c5, p5) (by simp))
  · exact TabN.nil (h (c6, p6) (by simp))
  · exact TabN.nil (h (c7, p7) (by simp))
  · exact TabN.nil (h (c8, p8) (by simp))
theorem tab_uniq {p : Addr} {nm : Nat → Nat → Str} : ∀ {T : List NTab}, (T.map (·.1)).Nodup → (p, nm) ∈ T → ∀ q ∈ T, q.1 = p → q.2 = nm
  | [], _, h, _, _, _ => nomatch h
  | t :: T, nd, h, q, hq, e => by
    rw [List.map_cons] at nd
    obtain ⟨n1, n2⟩ := List.nodup_cons.mp nd
    rcases List.mem_cons.mp h with rfl | h'
    · rcases List.mem_cons.mp hq with rfl | hq
      · rfl
      · exact absurd (List.mem_map.mpr ⟨q, hq, e⟩) n1
    · rcases List.mem_cons.mp hq with rfl | hq
      · exact absurd (show q.1 ∈ T.map (·.1) from List.mem_map.mpr ⟨(p, nm), h', e.symm⟩) n1
      · exact tab_uniq n2 h' q hq e
theorem TabB.up {base b : Heap} {mg : Str → Option Value} {c P : Addr} (k : ∀ a o, base.get? a = some o → b.get? a = some o) (t : TabB base mg c P) : TabB b mg c P := ⟨t.code.keeps k, t.bm.keeps k, t.gP⟩

theorem pin7 {K K1 : PySem.W.Frag} {C : Addr} {f1 d1 c1 p1 : Addr} {oc1 : Value} {od1 an1 : Option Addr} {osl1 : Array (Option Value)} {kV1 doc1 pm1 ct1 cc1 : Value} {cd1 : Option Addr} {vs1 : Array Value} {cs1 : Array (Option Value)} {f2 d2 c2 p2 : Addr} {oc2 : Value} {od2 an2 : Option Addr} {osl2 : Array (Option Value)} {kV2 doc2 pm2 ct2 cc2 : Value} {cd2 : Option Addr} {vs2 : Array Value} {cs2 : Array (Option Value)} {f3 d3 c3 p3 : Addr} {oc3 : Value} {od3 an3 : Option Addr} {osl3 : Array (Option Value)} {kV3 doc3 pm3 ct3 cc3 : Value} {cd3 : Option Addr} {vs3 : Array Value} {cs3 : Array (Option Value)} {f4 d4 c4 p4 : Addr} {oc4 : Value} {od4 an4 : Option Addr} {osl4 : Array (Option Value)} {kV4 doc4 pm4 ct4 cc4 : Value} {cd4 : Option Addr} {vs4 : Array Value} {cs4 : Array (Option Value)} {f5 d5 c5 p5 : Addr} {oc5 : Value} {od5 an5 : Option Addr} {osl5 : Array (Option Value)} {kV5 doc5 pm5 ct5 cc5 : Value} {cd5 : Option Addr} {vs5 : Array Value} {cs5 : Array (Option Value)} {f6 d6 c6 p6 : Addr} {oc6 : Value} {od6 an6 : Option Addr} {osl6 : Array (Option Value)} {kV6 doc6 pm6 ct6 cc6 : Value} {cd6 : Option Addr} {vs6 : Array Value} {cs6 : Array (Option Value)} {f7 d7 c7 p7 : Addr} {oc7 : Value} {od7 an7 : Option Addr} {osl7 : Array (Option Value)} {kV7 doc7 pm7 ct7 cc7 : Value} {cd7 : Option Addr} {vs7 : Array Value} {cs7 : Array (Option Value)} {f8 d8 c8 p8 : Addr} {oc8 : Value} {od8 an8 : Option Addr} {osl8 : Array (Option Value)} {kV8 doc8 pm8 ct8 cc8 : Value} {cd8 : Option Addr} {vs8 : Array Value} {cs8 : Array (Option Value)} {goal : Prop} (_h : K1 = dropL (List.map (fun q => q.2) (cds c1 p1 c2 p2 c3 p3 c4 p4 c5 p5 c6 p6 c7 p7 c8 p8)) K) (_nC : PySem.W.nsIn K mainGlobals "Language" = some (some (.ref C)))
    (_n1 : PySem.W.nsIn K mainGlobals "reached" = some (some (.ref f1))) (_l1 : K.lookup f1 = some ⟨oc1, od1, .func (PySem.W.fnOf "reached" "reached" (defArgs sReached) (defBody sReached) (defScope sReached) .none kV1 doc1 pm1 an1 (.ref d1) ct1), osl1⟩) (_e1 : d1 = c1) (_lc1 : K.lookup d1 = some ⟨cc1, cd1, .fields vs1, cs1⟩) (_v1 : vs1[11]? = some (.ref p1))
    (_n2 : PySem.W.nsIn K mainGlobals "least_machine" = some (some (.ref f2))) (_l2 : K.lookup f2 = some ⟨oc2, od2, .func (PySem.W.fnOf "least_machine" "least_machine" (defArgs sLeast) (defBody sLeast) (defScope sLeast) .none kV2 doc2 pm2 an2 (.ref d2) ct2), osl2⟩) (_e2 : d2 = c2) (_lc2 : K.lookup d2 = some ⟨cc2, cd2, .fields vs2, cs2⟩) (_v2 : vs2[11]? = some (.ref p2))
    (_n3 : PySem.W.findIn K (.ref C) "__init__" = some (some (.ref f3))) (_l3 : K.lookup f3 = some ⟨oc3, od3, .func (PySem.W.fnOf "__init__" "Language.__init__" (defArgs sLInit) (defBody sLInit) (defScope sLInit) .none kV3 doc3 pm3 an3 (.ref d3) ct3), osl3⟩) (_e3 : d3 = c3) (_lc3 : K.lookup d3 = some ⟨cc3, cd3, .fields vs3, cs3⟩) (_v3 : vs3[11]? = some (.ref p3))
    (_n4 : PySem.W.nsIn K mainGlobals "_combined" = some (some (.ref f4))) (_l4 : K.lookup f4 = some ⟨oc4, od4, .func (PySem.W.fnOf "_combined" "_combined" (defArgs sComb) (defBody sComb) (defScope sComb) .none kV4 doc4 pm4 an4 (.ref d4) ct4), osl4⟩) (_e4 : d4 = c4) (_lc4 : K.lookup d4 = some ⟨cc4, cd4, .fields vs4, cs4⟩) (_v4 : vs4[11]? = some (.ref p4))
    (_n5 : PySem.W.nsIn K mainGlobals "both" = some (some (.ref f5))) (_l5 : K.lookup f5 = some ⟨oc5, od5, .func (PySem.W.fnOf "both" "both" (defArgs sBoth) (defBody sBoth) (defScope sBoth) .none kV5 doc5 pm5 an5 (.ref d5) ct5), osl5⟩) (_e5 : d5 = c5) (_lc5 : K.lookup d5 = some ⟨cc5, cd5, .fields vs5, cs5⟩) (_v5 : vs5[11]? = some (.ref p5))
    (_n6 : PySem.W.nsIn K mainGlobals "either" = some (some (.ref f6))) (_l6 : K.lookup f6 = some ⟨oc6, od6, .func (PySem.W.fnOf "either" "either" (defArgs sEither) (defBody sEither) (defScope sEither) .none kV6 doc6 pm6 an6 (.ref d6) ct6), osl6⟩) (_e6 : d6 = c6) (_lc6 : K.lookup d6 = some ⟨cc6, cd6, .fields vs6, cs6⟩) (_v6 : vs6[11]? = some (.ref p6))
    (_n7 : PySem.W.nsIn K mainGlobals "without" = some (some (.ref f7))) (_l7 : K.lookup f7 = some ⟨oc7, od7, .func (PySem.W.fnOf "without" "without" (defArgs sWithout) (defBody sWithout) (defScope sWithout) .none kV7 doc7 pm7 an7 (.ref d7) ct7), osl7⟩) (_e7 : d7 = c7) (_lc7 : K.lookup d7 = some ⟨cc7, cd7, .fields vs7, cs7⟩) (_v7 : vs7[11]? = some (.ref p7))
    (_n8 : PySem.W.nsIn K mainGlobals "first_outside" = some (some (.ref f8))) (_l8 : K.lookup f8 = some ⟨oc8, od8, .func (PySem.W.fnOf "first_outside" "first_outside" (defArgs sOutsideG) (defBody sOutsideG) (defScope sOutsideG) .none kV8 doc8 pm8 an8 (.ref d8) ct8), osl8⟩) (_e8 : d8 = c8) (_lc8 : K.lookup d8 = some ⟨cc8, cd8, .fields vs8, cs8⟩) (_v8 : vs8[11]? = some (.ref p8)) (g : goal) : goal := g
theorem all7 {K : PySem.W.Frag} {c1 p1 c2 p2 c3 p3 c4 p4 c5 p5 c6 p6 c7 p7 c8 p8 : Addr} {R : Prop} (l1 : K.lookup p1 = some noRows) (l2 : K.lookup p2 = some noRows) (l3 : K.lookup p3 = some noRows) (l4 : K.lookup p4 = some noRows) (l5 : K.lookup p5 = some noRows) (l6 : K.lookup p6 = some noRows) (l7 : K.lookup p7 = some noRows) (l8 : K.lookup p8 = some noRows) (h1 : PySem.W.codeHdIn K c1 p1 = true) (h2 : PySem.W.codeHdIn K c2 p2 = true) (h3 : PySem.W.codeHdIn K c3 p3 = true) (h4 : PySem.W.codeHdIn K c4 p4 = true) (h5 : PySem.W.codeHdIn K c5 p5 = true) (h6 : PySem.W.codeHdIn K c6 p6 = true) (h7 : PySem.W.codeHdIn K c7 p7 = true) (h8 : PySem.W.codeHdIn K c8 p8 = true) (r : R) :
    (∀ p ∈ (cds c1 p1 c2 p2 c3 p3 c4 p4 c5 p5 c6 p6 c7 p7 c8 p8), K.lookup p.2 = some noRows) ∧ (∀ p ∈ (cds c1 p1 c2 p2 c3 p3 c4 p4 c5 p5 c6 p6 c7 p7 c8 p8), PySem.W.codeHdIn K p.1 p.2 = true) ∧ R := by
  refine ⟨fun p hp => ?_, fun p hp => ?_, r⟩
  · simp only [List.mem_cons, List.not_mem_nil, or_false] at hp
    rcases hp with rfl | rfl | rfl | rfl | rfl | rfl | rfl | rfl
    · exact l1
    · exact l2
    · exact l3
    · exact l4
    · exact l5
    · exact l6
    · exact l7
    · exact l8
  · simp only [List.mem_cons, List.not_mem_nil, or_false] at hp
    rcases hp with rfl | rfl | rfl | rfl | rfl | rfl | rfl | rfl
    · exact h1
    · exact h2
    · exact h3
    · exact h4
    · exact h5
    · exact h6
    · exact h7
    · exact h8

theorem notb_of {K : PySem.W.Frag} {C : Addr} (s_NoneType : PySem.W.subIn K (.ref C) (.type "NoneType") = some false) (s_int : PySem.W.subIn K (.ref C) (.type "int") = some false) (s_str : PySem.W.subIn K (.ref C) (.type "str") = some false) (s_list : PySem.W.subIn K (.ref C) (.type "list") = some false) (s_tuple : PySem.W.subIn K (.ref C) (.type "tuple") = some false) (s_dict : PySem.W.subIn K (.ref C) (.type "dict") = some false) (k_NoneType : PySem.W.kitOne K (.type "NoneType") (.ref C) = some false) (k_int : PySem.W.kitOne K (.type "int") (.ref C) = some false) (k_str : PySem.W.kitOne K (.type "str") (.ref C) = some false) (k_list : PySem.W.kitOne K (.type "list") (.ref C) = some false) (k_tuple : PySem.W.kitOne K (.type "tuple") (.ref C) = some false) (k_dict : PySem.W.kitOne K (.type "dict") (.ref C) = some false) (f_NoneType : PySem.W.notFirst K C (.type "NoneType") = true) (f_int : PySem.W.notFirst K C (.type "int") = true) (f_str : PySem.W.notFirst K C (.type "str") = true) (f_list : PySem.W.notFirst K C (.type "list") = true) (f_tuple : PySem.W.notFirst K C (.type "tuple") = true) (f_dict : PySem.W.notFirst K C (.type "dict") = true) : NotB K C := ⟨fun T h => by
    simp only [builtT, List.mem_cons, List.not_mem_nil, or_false] at h
    rcases h with rfl | rfl | rfl | rfl | rfl | rfl
    · exact s_NoneType
    · exact s_int
    · exact s_str
    · exact s_list
    · exact s_tuple
    · exact s_dict, fun T h => by
    simp only [builtT, List.mem_cons, List.not_mem_nil, or_false] at h
    rcases h with rfl | rfl | rfl | rfl | rfl | rfl
    · exact k_NoneType
    · exact k_int
    · exact k_str
    · exact k_list
    · exact k_tuple
    · exact k_dict, fun T h => by
    simp only [builtT, List.mem_cons, List.not_mem_nil, or_false] at h
    rcases h with rfl | rfl | rfl | rfl | rfl | rfl
    · exact f_NoneType
    · exact f_int
    · exact f_str
    · exact f_list
    · exact f_tuple
    · exact f_dict⟩
theorem sm_readsIn {ps : List Addr} {K K1 : PySem.W.Frag} {a : _} {b : _} {r : _} (h : K1 = dropL ps K) (y : PySem.W.readsIn K a b = r) (z : PySem.W.readsIn (dropL ps K) a b = r) : PySem.W.readsIn K1 a b = r := same (F := fun k => PySem.W.readsIn k a b) h y z
theorem sm_notFirst {ps : List Addr} {K K1 : PySem.W.Frag} {a : _} {b : _} {r : _} (h : K1 = dropL ps K) (y : PySem.W.notFirst K a b = r) (z : PySem.W.notFirst (dropL ps K) a b = r) : PySem.W.notFirst K1 a b = r := same (F := fun k => PySem.W.notFirst k a b) h y z
theorem sm_findCls {ps : List Addr} {K K1 : PySem.W.Frag} {a : _} {b : _} {c : _} {r : _} (h : K1 = dropL ps K) (y : PySem.W.findCls K a b c = r) (z : PySem.W.findCls (dropL ps K) a b c = r) : PySem.W.findCls K1 a b c = r := same (F := fun k => PySem.W.findCls k a b c) h y z
theorem sm_exmOne {ps : List Addr} {K K1 : PySem.W.Frag} {a : _} {b : _} {r : _} (h : K1 = dropL ps K) (y : PySem.W.exmOne K a b = r) (z : PySem.W.exmOne (dropL ps K) a b = r) : PySem.W.exmOne K1 a b = r := same (F := fun k => PySem.W.exmOne k a b) h y z
theorem sm_ks_superIn {ps : List Addr} {K K1 : PySem.W.Frag} {a : _} {b : _} {c : _} {r : _} (h : K1 = dropL ps K) (y : PySem.W.ks_superIn K a b c = r) (z : PySem.W.ks_superIn (dropL ps K) a b c = r) : PySem.W.ks_superIn K1 a b c = r := same (F := fun k => PySem.W.ks_superIn k a b c) h y z
theorem sm_nsIn {ps : List Addr} {K K1 : PySem.W.Frag} {a : _} {b : _} {r : _} (h : K1 = dropL ps K) (y : PySem.W.nsIn K a b = r) (z : PySem.W.nsIn (dropL ps K) a b = r) : PySem.W.nsIn K1 a b = r := same (F := fun k => PySem.W.nsIn k a b) h y z
theorem sm_findIn {ps : List Addr} {K K1 : PySem.W.Frag} {a : _} {b : _} {r : _} (h : K1 = dropL ps K) (y : PySem.W.findIn K a b = r) (z : PySem.W.findIn (dropL ps K) a b = r) : PySem.W.findIn K1 a b = r := same (F := fun k => PySem.W.findIn k a b) h y z
theorem sm_typeIn {ps : List Addr} {K K1 : PySem.W.Frag} {a : _} {r : _} (h : K1 = dropL ps K) (y : PySem.W.typeIn K a = r) (z : PySem.W.typeIn (dropL ps K) a = r) : PySem.W.typeIn K1 a = r := same (F := fun k => PySem.W.typeIn k a) h y z
theorem sm_specialIn {ps : List Addr} {K K1 : PySem.W.Frag} {a : _} {b : _} {r : _} (h : K1 = dropL ps K) (y : PySem.W.specialIn K a b = r) (z : PySem.W.specialIn (dropL ps K) a b = r) : PySem.W.specialIn K1 a b = r := same (F := fun k => PySem.W.specialIn k a b) h y z
theorem sm_takesIn {ps : List Addr} {K K1 : PySem.W.Frag} {a : _} {r : _} (h : K1 = dropL ps K) (y : PySem.W.takesIn K a = r) (z : PySem.W.takesIn (dropL ps K) a = r) : PySem.W.takesIn K1 a = r := same (F := fun k => PySem.W.takesIn k a) h y z
theorem sm_subIn {ps : List Addr} {K K1 : PySem.W.Frag} {a : _} {b : _} {r : _} (h : K1 = dropL ps K) (y : PySem.W.subIn K a b = r) (z : PySem.W.subIn (dropL ps K) a b = r) : PySem.W.subIn K1 a b = r := same (F := fun k => PySem.W.subIn k a b) h y z
theorem sm_recIn {ps : List Addr} {K K1 : PySem.W.Frag} {a : _} {b : _} {r : _} (h : K1 = dropL ps K) (y : PySem.W.recIn K a b = r) (z : PySem.W.recIn (dropL ps K) a b = r) : PySem.W.recIn K1 a b = r := same (F := fun k => PySem.W.recIn k a b) h y z
theorem sm_makesIn {ps : List Addr} {K K1 : PySem.W.Frag} {a : _} {r : _} (h : K1 = dropL ps K) (y : PySem.W.makesIn K a = r) (z : PySem.W.makesIn (dropL ps K) a = r) : PySem.W.makesIn K1 a = r := same (F := fun k => PySem.W.makesIn k a) h y z
theorem sm_plainOver {ps : List Addr} {K K1 : PySem.W.Frag} {a : _} {r : _} (h : K1 = dropL ps K) (y : PySem.W.plainOver K a = r) (z : PySem.W.plainOver (dropL ps K) a = r) : PySem.W.plainOver K1 a = r := same (F := fun k => PySem.W.plainOver k a) h y z
theorem sm_kitOne {ps : List Addr} {K K1 : PySem.W.Frag} {a : _} {b : _} {r : _} (h : K1 = dropL ps K) (y : PySem.W.kitOne K a b = r) (z : PySem.W.kitOne (dropL ps K) a b = r) : PySem.W.kitOne K1 a b = r := same (F := fun k => PySem.W.kitOne k a b) h y z
theorem sm_codeIn {ps : List Addr} {K K1 : PySem.W.Frag} {a : _} {b : _} {r : _} (h : K1 = dropL ps K) (y : PySem.W.codeIn K a b = r) (z : PySem.W.codeIn (dropL ps K) a b = r) : PySem.W.codeIn K1 a b = r := same (F := fun k => PySem.W.codeIn k a b) h y z
theorem sm_hasDictIn {ps : List Addr} {K K1 : PySem.W.Frag} {a : _} {r : _} (h : K1 = dropL ps K) (y : PySem.W.hasDictIn K a = r) (z : PySem.W.hasDictIn (dropL ps K) a = r) : PySem.W.hasDictIn K1 a = r := same (F := fun k => PySem.W.hasDictIn k a) h y z
theorem sm_plainGet {ps : List Addr} {K K1 : PySem.W.Frag} {a : _} {b : _} {r : _} (h : K1 = dropL ps K) (y : PySem.W.plainGet K a b = r) (z : PySem.W.plainGet (dropL ps K) a b = r) : PySem.W.plainGet K1 a b = r := same (F := fun k => PySem.W.plainGet k a b) h y z
theorem sm_keepIn {ps : List Addr} {K K1 : PySem.W.Frag} {a : _} {r : _} (h : K1 = dropL ps K) (y : PySem.W.keepIn K a = r) (z : PySem.W.keepIn (dropL ps K) a = r) : PySem.W.keepIn K1 a = r := same (F := fun k => PySem.W.keepIn k a) h y z
theorem sm_fnIn {ps : List Addr} {K K1 : PySem.W.Frag} {a : _} {r : _} (h : K1 = dropL ps K) (y : PySem.W.fnIn K a = r) (z : PySem.W.fnIn (dropL ps K) a = r) : PySem.W.fnIn K1 a = r := same (F := fun k => PySem.W.fnIn k a) h y z
theorem sm_isFn {ps : List Addr} {K K1 : PySem.W.Frag} {a : _} {r : _} (h : K1 = dropL ps K) (y : PySem.W.isFn K a = r) (z : PySem.W.isFn (dropL ps K) a = r) : PySem.W.isFn K1 a = r := same (F := fun k => PySem.W.isFn k a) h y z
theorem sm_mroIn {ps : List Addr} {K K1 : PySem.W.Frag} {a : _} {b : _} {r : _} (h : K1 = dropL ps K) (y : PySem.W.mroIn K a b = r) (z : PySem.W.mroIn (dropL ps K) a b = r) : PySem.W.mroIn K1 a b = r := same (F := fun k => PySem.W.mroIn k a b) h y z
theorem sm_codeHdIn {ps : List Addr} {K K1 : PySem.W.Frag} {a : _} {b : _} {r : _} (h : K1 = dropL ps K) (y : PySem.W.codeHdIn K a b = r) (z : PySem.W.codeHdIn (dropL ps K) a b = r) : PySem.W.codeHdIn K1 a b = r := same (F := fun k => PySem.W.codeHdIn k a b) h y z
theorem sm_lookup {ps : List Addr} {K K1 : PySem.W.Frag} {a : Addr} {r : Option Obj} (h : K1 = dropL ps K) (y : K.lookup a = r) (z : (dropL ps K).lookup a = r) : K1.lookup a = r := same (F := fun k => k.lookup a) h y z
theorem all_mk {P : Program} {w : World} {K : PySem.W.Frag} {h : Heap} {mg : Str → Option Value} {fa C fI c1 p1 c2 p2 c3 p3 c4 p4 c5 p5 c6 p6 c7 p7 c8 p8 f_expl f_reac f_lead f_dist f_leas f_spli f_firs f_mafr f_isint f_below f_chst f_ares f_hasl f_word f_lasg f_wdof f_chks f_last f_both f_eith f_with f_comb f_lfro f_agre f_next f_outs f_wthn f_retr f_way f_mof f_rng f_draw f_lett f_clas f_belo f_text f_lang f_seco f_laws f_are f_wr f_stra f_rght f_law f_mv f_mb f_has f_rep f_eq p_sgs f_sgs p_emp f_emp p_evr f_evr p_lof f_lof : Addr} {u6 : Value} {t4 t40 : Tok} (X : K.In h) (G : h.Ns mainGlobals mg) (hfa : mg "law" = some (.ref fa))
    (s_expl : Std K "explored" sExplored f_expl)
    (s_reac : StdT K "reached" sReached f_reac c1)
    (s_lead : Std K "leading_into" sLeading f_lead)
    (s_dist : Std K "distances_to" sDist f_dist)
    (s_leas : StdT K "least_machine" sLeast f_leas c2)
    (s_spli : Std K "_split" sSplit f_spli)
    (s_firs : Std K "_firsts" sFirsts f_firs)
    (s_mafr : Std K "machine_from" sMachFrom f_mafr)
    (s_isint : Std K "is_integer" sIsInt f_isint)
    (s_below : Std K "is_below" sBelow f_below)
    (s_chst : Std K "check_state" sCheckState f_chst)
    (s_ares : Std K "are_states" sAreStates f_ares)
    (s_hasl : Std K "has_length" sHasLen f_hasl)
    (s_word : Std K "is_word" sIsWord f_word)
    (s_lasg : Std K "are_language_signs" sLangSg f_lasg)
    (s_wdof : Std K "is_word_of" sWordOf f_wdof)
    (s_chks : Std K "_check_signs" sChkSg f_chks)
    (s_last : Std K "_is_language_state" sLangSt f_last)
    (s_both : StdT K "both" sBoth f_both c5)
    (s_eith : StdT K "either" sEither f_eith c6)
    (s_with : StdT K "without" sWithout f_with c7)
    (s_comb : StdT K "_combined" sComb f_comb c4)
    (s_lfro : Std K "language_from" sLangFrom f_lfro)
    (s_agre : Std K "_check_signs_agree" sAgree f_agre)
    (s_next : Std K "_next_pairs" sNext f_next)
    (s_outs : StdT K "first_outside" sOutsideG f_outs c8)
    (s_wthn : Std K "is_within" sWithinG f_wthn)
    (s_retr : Std K "retraced" sRetr f_retr)
    (s_way : Std K "least_way" sWay f_way)
    (s_mof : Std K "machine_of" sMachOf f_mof)
    (s_rng : Std K "_law_rng" sRng f_rng)
    (s_draw : Std K "_law_draw" sDraw f_draw)
    (s_lett : Std K "_law_letters" sLetters f_lett)
    (s_clas : Std K "_law_class" sClass f_clas)
    (s_belo : Std K "_law_belongs" sBelongs f_belo)
    (s_text : Std K "_law_texts" sTexts f_text)
    (s_lang : Std K "_law_language" sLanguage f_lang)
    (s_seco : Std K "_law_second" sSecond f_seco)
    (s_laws : Std K "_law_laws" sLaws f_laws)
    (s_are : Std K "_law_are" sAre f_are)
    (s_wr : Std K "_law_is_within_right" sWithinR f_wr)
    (s_stra : Std K "_law_strange" sStrange f_stra)
    (s_rght : Std K "_law_right" sRight f_rght)
    (s_law : Std K "law" sLaw f_law)
    (rd : LgAll K C fI c3 u6)
    (s_mv : InCls K C "move" "Language.move" sMoveL f_mv)
    (s_mb : InCls K C "is_member" "Language.is_member" sMember f_mb)
    (s_has : InCls K C "__contains__" "Language.__contains__" sHasL f_has)
    (s_rep : InCls K C "__repr__" "Language.__repr__" sReprL f_rep)
    (s_eq : InCls K C "__eq__" "Language.__eq__" sEqL f_eq)
    (s_sgs : InProp K C "signs" "Language.signs" sSigns p_sgs f_sgs)
    (s_emp : InProp K C "is_empty" "Language.is_empty" sEmpty p_emp f_emp)
    (k4 : PySem.W.nsIn K mainGlobals "MAX_SIGNS" = some (some (.int 4 t4))) (k40 : PySem.W.nsIn K mainGlobals "MAX_GIVEN_STATES" = some (some (.int 40 t40)))
    (s_evr : InCM K C "every" "Language.every" sEvery p_evr f_evr)
    (s_lof : InCM K C "of" "Language.of" sLOf p_lof f_lof)
    (nb : NotB K C) (ne : PySem.W.findIn K (.ref C) "__ne__" = some (some (.builtin "object.__ne__"))) (hm : PySem.W.mroIn K C (.type "object") = some true)
    (r1 : PySem.W.readsIn K C (.type "type") = true) (r2 : PySem.W.specialIn K (.ref C) "__getattribute__" = some (some (.builtin "type.__getattribute__"))) (r3 : PySem.W.findCls K (.ref C) (.type "type") "MAX_STATES" = some (.val u6))
    (sys0 : ∃ o, K.lookup sysModules = some o) (pd : [p1, p2, p3, p4, p5, p6, p7, p8].Nodup)
    (z_isinstance : PySem.W.nsIn K mainGlobals "isinstance" = some none)
    (z_int : PySem.W.nsIn K mainGlobals "int" = some none)
    (z_bool : PySem.W.nsIn K mainGlobals "bool" = some none)
    (z_list : PySem.W.nsIn K mainGlobals "list" = some none)
    (z_tuple : PySem.W.nsIn K mainGlobals "tuple" = some none)
    (z_len : PySem.W.nsIn K mainGlobals "len" = some none)
    (z_all : PySem.W.nsIn K mainGlobals "all" = some none)
    (z_any : PySem.W.nsIn K mainGlobals "any" = some none)
    (z_set : PySem.W.nsIn K mainGlobals "set" = some none)
    (z_str : PySem.W.nsIn K mainGlobals "str" = some none)
    (z_dict : PySem.W.nsIn K mainGlobals "dict" = some none)
    (z_sorted : PySem.W.nsIn K mainGlobals "sorted" = some none)
    (z_enumerate : PySem.W.nsIn K mainGlobals "enumerate" = some none)
    (z_divmod : PySem.W.nsIn K mainGlobals "divmod" = some none)
    (z_range : PySem.W.nsIn K mainGlobals "range" = some none)
    (z_max : PySem.W.nsIn K mainGlobals "max" = some none)
    (z_min : PySem.W.nsIn K mainGlobals "min" = some none)
    (z_abs : PySem.W.nsIn K mainGlobals "abs" = some none)
    (z_repr : PySem.W.nsIn K mainGlobals "repr" = some none)
    (z_zip : PySem.W.nsIn K mainGlobals "zip" = some none)
    (z_reversed : PySem.W.nsIn K mainGlobals "reversed" = some none)
    : ∃ fd : FuncData, (∀ (s : Shared) (u : Value), BindsTo s fd ⟨[u], []⟩ [("_law_script", u)]) ∧ ∀ base : Heap, K.In base → base.Ns mainGlobals mg → (∀ p ∈ (cds c1 p1 c2 p2 c3 p3 c4 p4 c5 p5 c6 p6 c7 p7 c8 p8), TabB base mg p.1 p.2) → FnG P w K mg base CX0 17 fa fd ["_law_script"] (spLaw K (tbs p1 p2 p3 p4 p5 p6 p7 p8)) := by
  have e0 := hfa.symm.trans (PySem.W.mg_of X G s_law.ns)
  cases e0
  have z_isinstance := PySem.W.mg_none_of X G z_isinstance
  have z_int := PySem.W.mg_none_of X G z_int
  have z_bool := PySem.W.mg_none_of X G z_bool
  have z_list := PySem.W.mg_none_of X G z_list
  have z_tuple := PySem.W.mg_none_of X G z_tuple
  have z_len := PySem.W.mg_none_of X G z_len
  have z_all := PySem.W.mg_none_of X G z_all
  have z_any := PySem.W.mg_none_of X G z_any
  have z_set := PySem.W.mg_none_of X G z_set
  have z_str := PySem.W.mg_none_of X G z_str
  have z_dict := PySem.W.mg_none_of X G z_dict
  have z_sorted := PySem.W.mg_none_of X G z_sorted
  have z_enumerate := PySem.W.mg_none_of X G z_enumerate
  have z_divmod := PySem.W.mg_none_of X G z_divmod
  have z_range := PySem.W.mg_none_of X G z_range
  have z_max := PySem.W.mg_none_of X G z_max
  have z_min := PySem.W.mg_none_of X G z_min
  have z_abs := PySem.W.mg_none_of X G z_abs
  have z_repr := PySem.W.mg_none_of X G z_repr
  have z_zip := PySem.W.mg_none_of X G z_zip
  have z_reversed := PySem.W.mg_none_of X G z_reversed
  obtain ⟨d_expl, F_expl⟩ := s_expl.fn
  have a_expl : At K mg "explored" f_expl d_expl ["first", "leads", "is_goal"] [] := ⟨PySem.W.mg_of X G s_expl.ns, F_expl.kp, F_expl.binds (ps := ["first", "leads", "is_goal"]) fun _ _ _ _ _ _ us hl => match us, hl with | [_, _, _], _ => rfl⟩
  obtain ⟨d_reac, F_reac, hc1⟩ := s_reac.fn
  have a_reac : At K mg "reached" f_reac d_reac ["first", "leads"] [] := ⟨PySem.W.mg_of X G s_reac.ns, F_reac.kp, F_reac.binds (ps := ["first", "leads"]) fun _ _ _ _ _ _ us hl => match us, hl with | [_, _], _ => rfl⟩
  obtain ⟨d_lead, F_lead⟩ := s_lead.fn
  have a_lead : At K mg "leading_into" f_lead d_lead ["goals", "many", "leads"] [] := ⟨PySem.W.mg_of X G s_lead.ns, F_lead.kp, F_lead.binds (ps := ["goals", "many", "leads"]) fun _ _ _ _ _ _ us hl => match us, hl with | [_, _, _], _ => rfl⟩
  obtain ⟨d_dist, F_dist⟩ := s_dist.fn
  have a_dist : At K mg "distances_to" f_dist d_dist ["goals", "graph"] [] := ⟨PySem.W.mg_of X G s_dist.ns, F_dist.kp, F_dist.binds (ps := ["goals", "graph"]) fun _ _ _ _ _ _ us hl => match us, hl with | [_, _], _ => rfl⟩
  obtain ⟨d_leas, F_leas, hc2⟩ := s_leas.fn
  have a_leas : At K mg "least_machine" f_leas d_leas ["signs", "states", "member_states", "limit"] [] := ⟨PySem.W.mg_of X G s_leas.ns, F_leas.kp, F_leas.binds (ps := ["signs", "states", "member_states", "limit"]) fun _ _ _ _ _ _ us hl => match us, hl with | [_, _, _, _], _ => rfl⟩
  obtain ⟨d_spli, F_spli⟩ := s_spli.fn
  have a_spli : At K mg "_split" f_spli d_spli ["signs", "states", "order", "blocks"] [] := ⟨PySem.W.mg_of X G s_spli.ns, F_spli.kp, F_spli.binds (ps := ["signs", "states", "order", "blocks"]) fun _ _ _ _ _ _ us hl => match us, hl with | [_, _, _, _], _ => rfl⟩
  obtain ⟨d_firs, F_firs⟩ := s_firs.fn
  have a_firs : At K mg "_firsts" f_firs d_firs ["order", "blocks"] [] := ⟨PySem.W.mg_of X G s_firs.ns, F_firs.kp, F_firs.binds (ps := ["order", "blocks"]) fun _ _ _ _ _ _ us hl => match us, hl with | [_, _], _ => rfl⟩
  obtain ⟨d_mafr, F_mafr⟩ := s_mafr.fn
  have a_mafr : At K mg "machine_from" f_mafr d_mafr ["first", "leads", "is_in"] [] := ⟨PySem.W.mg_of X G s_mafr.ns, F_mafr.kp, F_mafr.binds (ps := ["first", "leads", "is_in"]) fun _ _ _ _ _ _ us hl => match us, hl with | [_, _, _], _ => rfl⟩
  obtain ⟨d_isint, F_isint⟩ := s_isint.fn
  have a_isint : At K mg "is_integer" f_isint d_isint ["value"] [] := ⟨PySem.W.mg_of X G s_isint.ns, F_isint.kp, F_isint.binds (ps := ["value"]) fun _ _ _ _ _ _ us hl => match us, hl with | [_], _ => rfl⟩
  obtain ⟨d_below, F_below⟩ := s_below.fn
  have a_below : At K mg "is_below" f_below d_below ["value", "limit"] [] := ⟨PySem.W.mg_of X G s_below.ns, F_below.kp, F_below.binds (ps := ["value", "limit"]) fun _ _ _ _ _ _ us hl => match us, hl with | [_, _], _ => rfl⟩
  obtain ⟨d_chst, F_chst⟩ := s_chst.fn
  have a_chst : At K mg "check_state" f_chst d_chst ["value", "many"] [] := ⟨PySem.W.mg_of X G s_chst.ns, F_chst.kp, F_chst.binds (ps := ["value", "many"]) fun _ _ _ _ _ _ us hl => match us, hl with | [_, _], _ => rfl⟩
  obtain ⟨d_ares, F_ares⟩ := s_ares.fn
  have a_ares : At K mg "are_states" f_ares d_ares ["value", "many"] [] := ⟨PySem.W.mg_of X G s_ares.ns, F_ares.kp, F_ares.binds (ps := ["value", "many"]) fun _ _ _ _ _ _ us hl => match us, hl with | [_, _], _ => rfl⟩
  obtain ⟨d_hasl, F_hasl⟩ := s_hasl.fn
  have a_hasl : At K mg "has_length" f_hasl d_hasl ["value", "least", "most"] [] := ⟨PySem.W.mg_of X G s_hasl.ns, F_hasl.kp, F_hasl.binds (ps := ["value", "least", "most"]) fun _ _ _ _ _ _ us hl => match us, hl with | [_, _, _], _ => rfl⟩
  obtain ⟨d_word, F_word⟩ := s_word.fn
  have a_word : At K mg "is_word" f_word d_word ["value"] [] := ⟨PySem.W.mg_of X G s_word.ns, F_word.kp, F_word.binds (ps := ["value"]) fun _ _ _ _ _ _ us hl => match us, hl with | [_], _ => rfl⟩
  obtain ⟨d_lasg, F_lasg⟩ := s_lasg.fn
  have a_lasg : At K mg "are_language_signs" f_lasg d_lasg ["value"] [] := ⟨PySem.W.mg_of X G s_lasg.ns, F_lasg.kp, F_lasg.binds (ps := ["value"]) fun _ _ _ _ _ _ us hl => match us, hl with | [_], _ => rfl⟩
  obtain ⟨d_wdof, F_wdof⟩ := s_wdof.fn
  have a_wdof : At K mg "is_word_of" f_wdof d_wdof ["value", "signs"] [] := ⟨PySem.W.mg_of X G s_wdof.ns, F_wdof.kp, F_wdof.binds (ps := ["value", "signs"]) fun _ _ _ _ _ _ us hl => match us, hl with | [_, _], _ => rfl⟩
  obtain ⟨d_chks, F_chks⟩ := s_chks.fn
  have a_chks : At K mg "_check_signs" f_chks d_chks ["value"] [] := ⟨PySem.W.mg_of X G s_chks.ns, F_chks.kp, F_chks.binds (ps := ["value"]) fun _ _ _ _ _ _ us hl => match us, hl with | [_], _ => rfl⟩
  obtain ⟨d_last, F_last⟩ := s_last.fn
  have a_last : At K mg "_is_language_state" f_last d_last ["value", "signs", "many"] [] := ⟨PySem.W.mg_of X G s_last.ns, F_last.kp, F_last.binds (ps := ["value", "signs", "many"]) fun _ _ _ _ _ _ us hl => match us, hl with | [_, _, _], _ => rfl⟩
  obtain ⟨d_both, F_both, hc5⟩ := s_both.fn
  have a_both : At K mg "both" f_both d_both ["one", "other"] [] := ⟨PySem.W.mg_of X G s_both.ns, F_both.kp, F_both.binds (ps := ["one", "other"]) fun _ _ _ _ _ _ us hl => match us, hl with | [_, _], _ => rfl⟩
  obtain ⟨d_eith, F_eith, hc6⟩ := s_eith.fn
  have a_eith : At K mg "either" f_eith d_eith ["one", "other"] [] := ⟨PySem.W.mg_of X G s_eith.ns, F_eith.kp, F_eith.binds (ps := ["one", "other"]) fun _ _ _ _ _ _ us hl => match us, hl with | [_, _], _ => rfl⟩
  obtain ⟨d_with, F_with, hc7⟩ := s_with.fn
  have a_with : At K mg "without" f_with d_with ["one", "other"] [] := ⟨PySem.W.mg_of X G s_with.ns, F_with.kp, F_with.binds (ps := ["one", "other"]) fun _ _ _ _ _ _ us hl => match us, hl with | [_, _], _ => rfl⟩
  obtain ⟨d_comb, F_comb, hc4⟩ := s_comb.fn
  have a_comb : At K mg "_combined" f_comb d_comb ["one", "other", "belongs"] [] := ⟨PySem.W.mg_of X G s_comb.ns, F_comb.kp, F_comb.binds (ps := ["one", "other", "belongs"]) fun _ _ _ _ _ _ us hl => match us, hl with | [_, _, _], _ => rfl⟩
  obtain ⟨d_lfro, F_lfro⟩ := s_lfro.fn
  have a_lfro : At K mg "language_from" f_lfro d_lfro ["signs", "first", "leads", "is_in"] [] := ⟨PySem.W.mg_of X G s_lfro.ns, F_lfro.kp, F_lfro.binds (ps := ["signs", "first", "leads", "is_in"]) fun _ _ _ _ _ _ us hl => match us, hl with | [_, _, _, _], _ => rfl⟩
  obtain ⟨d_agre, F_agre⟩ := s_agre.fn
  have a_agre : At K mg "_check_signs_agree" f_agre d_agre ["one", "other"] [] := ⟨PySem.W.mg_of X G s_agre.ns, F_agre.kp, F_agre.binds (ps := ["one", "other"]) fun _ _ _ _ _ _ us hl => match us, hl with | [_, _], _ => rfl⟩
  obtain ⟨d_next, F_next⟩ := s_next.fn
  have a_next : At K mg "_next_pairs" f_next d_next ["one", "other", "pair"] [] := ⟨PySem.W.mg_of X G s_next.ns, F_next.kp, F_next.binds (ps := ["one", "other", "pair"]) fun _ _ _ _ _ _ us hl => match us, hl with | [_, _, _], _ => rfl⟩
  obtain ⟨d_outs, F_outs, hc8⟩ := s_outs.fn
  have a_outs : At K mg "first_outside" f_outs d_outs ["one", "other"] [] := ⟨PySem.W.mg_of X G s_outs.ns, F_outs.kp, F_outs.binds (ps := ["one", "other"]) fun _ _ _ _ _ _ us hl => match us, hl with | [_, _], _ => rfl⟩
  obtain ⟨d_wthn, F_wthn⟩ := s_wthn.fn
  have a_wthn : At K mg "is_within" f_wthn d_wthn ["one", "other"] [] := ⟨PySem.W.mg_of X G s_wthn.ns, F_wthn.kp, F_wthn.binds (ps := ["one", "other"]) fun _ _ _ _ _ _ us hl => match us, hl with | [_, _], _ => rfl⟩
  obtain ⟨d_retr, F_retr⟩ := s_retr.fn
  have a_retr : At K mg "retraced" f_retr d_retr ["before", "node"] [] := ⟨PySem.W.mg_of X G s_retr.ns, F_retr.kp, F_retr.binds (ps := ["before", "node"]) fun _ _ _ _ _ _ us hl => match us, hl with | [_, _], _ => rfl⟩
  obtain ⟨d_way, F_way⟩ := s_way.fn
  have a_way : At K mg "least_way" f_way d_way ["first", "leads", "is_goal"] [] := ⟨PySem.W.mg_of X G s_way.ns, F_way.kp, F_way.binds (ps := ["first", "leads", "is_goal"]) fun _ _ _ _ _ _ us hl => match us, hl with | [_, _, _], _ => rfl⟩
  obtain ⟨d_mof, F_mof⟩ := s_mof.fn
  have a_mof : At K mg "machine_of" f_mof d_mof ["signs", "texts"] [] := ⟨PySem.W.mg_of X G s_mof.ns, F_mof.kp, F_mof.binds (ps := ["signs", "texts"]) fun _ _ _ _ _ _ us hl => match us, hl with | [_, _], _ => rfl⟩
  obtain ⟨d_rng, F_rng⟩ := s_rng.fn
  have a_rng : At K mg "_law_rng" f_rng d_rng ["_law_script", "_law_k"] [] := ⟨PySem.W.mg_of X G s_rng.ns, F_rng.kp, F_rng.binds (ps := ["_law_script", "_law_k"]) fun _ _ _ _ _ _ us hl => match us, hl with | [_, _], _ => rfl⟩
  obtain ⟨d_draw, F_draw⟩ := s_draw.fn
  have a_draw : At K mg "_law_draw" f_draw d_draw ["_law_rng_here", "_law_many"] [] := ⟨PySem.W.mg_of X G s_draw.ns, F_draw.kp, F_draw.binds (ps := ["_law_rng_here", "_law_many"]) fun _ _ _ _ _ _ us hl => match us, hl with | [_, _], _ => rfl⟩
  obtain ⟨d_lett, F_lett⟩ := s_lett.fn
  have a_lett : At K mg "_law_letters" f_lett d_lett ["_law_rng_here", "_law_many"] [] := ⟨PySem.W.mg_of X G s_lett.ns, F_lett.kp, F_lett.binds (ps := ["_law_rng_here", "_law_many"]) fun _ _ _ _ _ _ us hl => match us, hl with | [_, _], _ => rfl⟩
  obtain ⟨d_clas, F_clas⟩ := s_clas.fn
  have a_clas : At K mg "_law_class" f_clas d_clas ["_law_rng_here", "_law_cap", "_law_abc"] [] := ⟨PySem.W.mg_of X G s_clas.ns, F_clas.kp, F_clas.binds (ps := ["_law_rng_here", "_law_cap", "_law_abc"]) fun _ _ _ _ _ _ us hl => match us, hl with | [_, _, _], _ => rfl⟩
  obtain ⟨d_belo, F_belo⟩ := s_belo.fn
  have a_belo : At K mg "_law_belongs" f_belo d_belo ["_law_machine", "_law_note"] [] := ⟨PySem.W.mg_of X G s_belo.ns, F_belo.kp, F_belo.binds (ps := ["_law_machine", "_law_note"]) fun _ _ _ _ _ _ us hl => match us, hl with | [_, _], _ => rfl⟩
  obtain ⟨d_text, F_text⟩ := s_text.fn
  have a_text : At K mg "_law_texts" f_text d_text ["_law_abc", "_law_cap"] [] := ⟨PySem.W.mg_of X G s_text.ns, F_text.kp, F_text.binds (ps := ["_law_abc", "_law_cap"]) fun _ _ _ _ _ _ us hl => match us, hl with | [_, _], _ => rfl⟩
  obtain ⟨d_lang, F_lang⟩ := s_lang.fn
  have a_lang : At K mg "_law_language" f_lang d_lang ["_law_machine"] [] := ⟨PySem.W.mg_of X G s_lang.ns, F_lang.kp, F_lang.binds (ps := ["_law_machine"]) fun _ _ _ _ _ _ us hl => match us, hl with | [_], _ => rfl⟩
  obtain ⟨d_seco, F_seco⟩ := s_seco.fn
  have a_seco : At K mg "_law_second" f_seco d_seco ["_law_rng_here", "_law_machine"] [] := ⟨PySem.W.mg_of X G s_seco.ns, F_seco.kp, F_seco.binds (ps := ["_law_rng_here", "_law_machine"]) fun _ _ _ _ _ _ us hl => match us, hl with | [_, _], _ => rfl⟩
  obtain ⟨d_laws, F_laws⟩ := s_laws.fn
  have a_laws : At K mg "_law_laws" f_laws d_laws ["_law_abc", "_law_one", "_law_other"] [] := ⟨PySem.W.mg_of X G s_laws.ns, F_laws.kp, F_laws.binds (ps := ["_law_abc", "_law_one", "_law_other"]) fun _ _ _ _ _ _ us hl => match us, hl with | [_, _, _], _ => rfl⟩
  obtain ⟨d_are, F_are⟩ := s_are.fn
  have a_are : At K mg "_law_are" f_are d_are ["_law_one", "_law_other", "_law_due"] [] := ⟨PySem.W.mg_of X G s_are.ns, F_are.kp, F_are.binds (ps := ["_law_one", "_law_other", "_law_due"]) fun _ _ _ _ _ _ us hl => match us, hl with | [_, _, _], _ => rfl⟩
  obtain ⟨d_wr, F_wr⟩ := s_wr.fn
  have a_wr : At K mg "_law_is_within_right" f_wr d_wr ["_law_one", "_law_other", "_law_first", "_law_second_here"] [] := ⟨PySem.W.mg_of X G s_wr.ns, F_wr.kp, F_wr.binds (ps := ["_law_one", "_law_other", "_law_first", "_law_second_here"]) fun _ _ _ _ _ _ us hl => match us, hl with | [_, _, _, _], _ => rfl⟩
  obtain ⟨d_stra, F_stra⟩ := s_stra.fn
  have a_stra : At K mg "_law_strange" f_stra d_stra ["_law_made", "_law_abc"] [] := ⟨PySem.W.mg_of X G s_stra.ns, F_stra.kp, F_stra.binds (ps := ["_law_made", "_law_abc"]) fun _ _ _ _ _ _ us hl => match us, hl with | [_, _], _ => rfl⟩
  obtain ⟨d_rght, F_rght⟩ := s_rght.fn
  have a_rght : At K mg "_law_right" f_rght d_rght ["_law_rng_here"] [] := ⟨PySem.W.mg_of X G s_rght.ns, F_rght.kp, F_rght.binds (ps := ["_law_rng_here"]) fun _ _ _ _ _ _ us hl => match us, hl with | [_], _ => rfl⟩
  obtain ⟨d_law, F_law⟩ := s_law.fn
  obtain ⟨d_mv, F_mv⟩ := s_mv.fn
  have b_mv : L2.Binds K d_mv ["self", "state", "sign"] [] := F_mv.binds (ps := ["self", "state", "sign"]) fun _ _ _ _ _ _ us hl => match us, hl with | [_, _, _], _ => rfl
  obtain ⟨d_mb, F_mb⟩ := s_mb.fn
  have b_mb : L2.Binds K d_mb ["self", "state"] [] := F_mb.binds (ps := ["self", "state"]) fun _ _ _ _ _ _ us hl => match us, hl with | [_, _], _ => rfl
  obtain ⟨d_has, F_has⟩ := s_has.fn
  have b_has : L2.Binds K d_has ["self", "value"] [] := F_has.binds (ps := ["self", "value"]) fun _ _ _ _ _ _ us hl => match us, hl with | [_, _], _ => rfl
  obtain ⟨d_rep, F_rep⟩ := s_rep.fn
  have b_rep : L2.Binds K d_rep ["self"] [] := F_rep.binds (ps := ["self"]) fun _ _ _ _ _ _ us hl => match us, hl with | [_], _ => rfl
  obtain ⟨d_eq, F_eq⟩ := s_eq.fn
  have b_eq : L2.Binds K d_eq ["self", "other"] [] := F_eq.binds (ps := ["self", "other"]) fun _ _ _ _ _ _ us hl => match us, hl with | [_, _], _ => rfl
  obtain ⟨d_sgs, F_sgs⟩ := s_sgs.fn
  have b_sgs : L2.Binds K d_sgs ["self"] [] := F_sgs.binds (ps := ["self"]) fun _ _ _ _ _ _ us hl => match us, hl with | [_], _ => rfl
  obtain ⟨d_emp, F_emp⟩ := s_emp.fn
  have b_emp : L2.Binds K d_emp ["self"] [] := F_emp.binds (ps := ["self"]) fun _ _ _ _ _ _ us hl => match us, hl with | [_], _ => rfl
  obtain ⟨d_evr, F_evr⟩ := s_evr.fn
  obtain ⟨d_lof, F_lof⟩ := s_lof.fn
  obtain ⟨d_init, F_init, hc3⟩ := rd.ini
  have b_init : L2.Binds K d_init ["self", "signs", "states", "member_states"] [] := F_init.binds (ps := ["self", "signs", "states", "member_states"]) fun _ _ _ _ _ _ us hl => match us, hl with | [_, _, _, _], _ => rfl
  have q4 := PySem.W.mg_of X G k4
  have q40 := PySem.W.mg_of X G k40
  have gC := PySem.W.mg_of X G rd.ns
  have eC : EqC K C f_eq d_eq := ⟨s_eq.m.at_, s_eq.m.fn, b_eq, ne, hm, by unfold PySem.W.notFirst; simp⟩
  have cr : ClX.CRead K C (.type "type") := ⟨r1, r2⟩
  have cv : ClX.CVal K C (.type "type") "MAX_STATES" (.int 6) u6 := ⟨r3, rd.con.rel⟩
  refine ⟨d_law, fun s v => ?_, fun base KB NB TB => ?_⟩
  · obtain ⟨oc, od, kV, doc, pm, an, cdv, ct, osl, e, _⟩ := F_law.ex
    subst e
    exact .of_eq rfl
  · have nd : ((tbs p1 p2 p3 p4 p5 p6 p7 p8).map (·.1)).Nodup := pd
    have TB1 : TabB base mg c1 p1 := TB (c1, p1) (by simp)
    have TB2 : TabB base mg c2 p2 := TB (c2, p2) (by simp)
    have TB3 : TabB base mg c3 p3 := TB (c3, p3) (by simp)
    have TB4 : TabB base mg c4 p4 := TB (c4, p4) (by simp)
    have TB5 : TabB base mg c5 p5 := TB (c5, p5) (by simp)
    have TB6 : TabB base mg c6 p6 := TB (c6, p6) (by simp)
    have TB7 : TabB base mg c7 p7 := TB (c7, p7) (by simp)
    have TB8 : TabB base mg c8 p8 := TB (c8, p8) (by simp)
    have m1 : (p1, (fun _ _ => "reached.<locals>.<lambda>" : Nat → Nat → Str)) ∈ (tbs p1 p2 p3 p4 p5 p6 p7 p8) := by simp
    have m2 : (p2, (fun _ _ => "least_machine.<locals>.<lambda>" : Nat → Nat → Str)) ∈ (tbs p1 p2 p3 p4 p5 p6 p7 p8) := by simp
    have m3 : (p3, (fun _ _ => "Language.__init__.<locals>.<lambda>" : Nat → Nat → Str)) ∈ (tbs p1 p2 p3 p4 p5 p6 p7 p8) := by simp
    have m4 : (p4, (nmComb : Nat → Nat → Str)) ∈ (tbs p1 p2 p3 p4 p5 p6 p7 p8) := by simp
    have m5 : (p5, (fun _ _ => "both.<locals>.<lambda>" : Nat → Nat → Str)) ∈ (tbs p1 p2 p3 p4 p5 p6 p7 p8) := by simp
    have m6 : (p6, (fun _ _ => "either.<locals>.<lambda>" : Nat → Nat → Str)) ∈ (tbs p1 p2 p3 p4 p5 p6 p7 p8) := by simp
    have m7 : (p7, (fun _ _ => "without.<locals>.<lambda>" : Nat → Nat → Str)) ∈ (tbs p1 p2 p3 p4 p5 p6 p7 p8) := by simp
    have m8 : (p8, (nmOut : Nat → Nat → Str)) ∈ (tbs p1 p2 p3 p4 p5 p6 p7 p8) := by simp
    have L1' : Lams base mg (tbs p1 p2 p3 p4 p5 p6 p7 p8) d_reac "reached.<locals>.<lambda>" := ⟨c1, p1, hc1, TB1, m1, tab_uniq nd m1⟩
    have L2' : Lams base mg (tbs p1 p2 p3 p4 p5 p6 p7 p8) d_leas "least_machine.<locals>.<lambda>" := ⟨c2, p2, hc2, TB2, m2, tab_uniq nd m2⟩
    have L3' : Lams base mg (tbs p1 p2 p3 p4 p5 p6 p7 p8) d_init "Language.__init__.<locals>.<lambda>" := ⟨c3, p3, hc3, TB3, m3, tab_uniq nd m3⟩
    have L5' : Lams base mg (tbs p1 p2 p3 p4 p5 p6 p7 p8) d_both "both.<locals>.<lambda>" := ⟨c5, p5, hc5, TB5, m5, tab_uniq nd m5⟩
    have L6' : Lams base mg (tbs p1 p2 p3 p4 p5 p6 p7 p8) d_eith "either.<locals>.<lambda>" := ⟨c6, p6, hc6, TB6, m6, tab_uniq nd m6⟩
    have L7' : Lams base mg (tbs p1 p2 p3 p4 p5 p6 p7 p8) d_with "without.<locals>.<lambda>" := ⟨c7, p7, hc7, TB7, m7, tab_uniq nd m7⟩
    have L1b : ∀ b : Heap, (∀ a o, base.get? a = some o → b.get? a = some o) → Lams b mg (tbs p1 p2 p3 p4 p5 p6 p7 p8) d_reac "reached.<locals>.<lambda>" := fun b k => ⟨c1, p1, hc1, TabB.up k TB1, m1, tab_uniq nd m1⟩
    have L4' : LamsN base mg (tbs p1 p2 p3 p4 p5 p6 p7 p8) d_comb nmComb := ⟨c4, p4, hc4, TB4, m4, tab_uniq nd m4⟩
    have L8' : LamsN base mg (tbs p1 p2 p3 p4 p5 p6 p7 p8) d_outs nmOut := ⟨c8, p8, hc8, TB8, m8, tab_uniq nd m8⟩
    generalize (tbs p1 p2 p3 p4 p5 p6 p7 p8) = T at L1' L2' L3' L4' L5' L6' L7' L8' L1b ⊢
    have G_expl : FnV P w K mg base CX0 3 f_expl d_expl ["first", "leads", "is_goal"] (spExplored P w K mg base 2) := ok_explored F_expl z_len
    have G_reac : FnV P w K mg base CX0 4 f_reac d_reac ["first", "leads"] (spReached P w K mg base T 2) := ok_reached F_reac L1' a_expl G_expl z_list
    have G_dist : ∀ b, FnOk P w K mg b CX0 1 f_dist d_dist ["goals", "graph"] (spDist K) := fun b => ok_dist F_dist z_len z_list
    have G_lead : FnV P w K mg base CX0 2 f_lead d_lead ["goals", "many", "leads"] (spLeading P w K mg 1 base) := ok_leading F_lead a_dist G_dist z_range z_sorted
    have G_spli : FnOk P w K mg base CX0 1 f_spli d_spli ["signs", "states", "order", "blocks"] (spSplit P w K) := ok_split F_spli z_len z_tuple
    have G_firs : FnOk P w K mg base CX0 1 f_firs d_firs ["order", "blocks"] spFirsts := ok_firsts F_firs z_len
    have G_leas := ok_least F_leas L2' a_reac G_reac a_spli G_spli a_firs G_firs z_enumerate
    have G_isint : FnOk P w K mg base CX0 1 f_isint d_isint ["value"] (spIsInt K) := ok_isint F_isint z_isinstance z_int z_bool
    have G_below := ok_below (base := base) F_below a_isint G_isint
    have G_hasl : FnOk P w K mg base CX0 1 f_hasl d_hasl ["value", "least", "most"] (spHasLenK K) := ok_haslenK F_hasl z_isinstance z_list z_tuple z_len
    have G_ares := ok_arestatesK F_ares a_below G_below z_isinstance z_list z_tuple z_len z_all z_set
    have G_word : FnOk P w K mg base CX0 1 f_word d_word ["value"] (spIsWord K) := ok_isword F_word z_isinstance z_str z_all
    have sys : ∃ o, base.get? sysModules = some o := by
      obtain ⟨o, e⟩ := sys0
      exact ⟨o, KB _ _ e⟩
    have G_lasg := ok_langsg F_lasg a_word G_word z_len q4 z_list z_set z_sorted
    have G_chks := ok_chksg F_chks a_lasg G_lasg
    have G_last := ok_langst F_last a_below G_below z_isinstance z_dict z_len z_all
    have G_init := ok_linit F_init L3' rd.lg a_chks G_chks a_hasl G_hasl a_last G_last a_ares G_ares a_leas G_leas a_lead G_lead rd.con q40 z_len z_enumerate z_tuple z_list
    have G_chst := ok_checkstate F_chst a_below G_below
    have G_mv := ok_moveL F_mv rd.lg a_chst G_chst z_len
    have G_mb : ∀ b : Heap, FnOk P w K mg b CX0 4 f_mb d_mb ["self", "state"] (spMember C) := fun b => ok_member F_mb rd.lg a_chst (ok_checkstate F_chst a_below (ok_below (base := b) F_below a_isint (ok_isint F_isint z_isinstance z_int z_bool))) z_len
    have G_sgs : FnOk P w K mg base CX0 1 f_sgs d_sgs ["self"] (spSigns C) := ok_signs F_sgs rd.lg
    have G_wdof := ok_wordof F_wdof a_word G_word z_all
    have G_has := ok_hasL F_has rd.lg a_wdof G_wdof
    have G_nextB : ∀ b : Heap, FnOk P w K mg b CX0 5 f_next d_next ["one", "other", "pair"] (spNext C) := fun b => ok_next F_next rd.lg s_sgs.m b_sgs (ok_signs F_sgs rd.lg) s_mv.m b_mv (ok_moveL F_mv rd.lg a_chst (ok_checkstate F_chst a_below (ok_below (base := b) F_below a_isint (ok_isint F_isint z_isinstance z_int z_bool))) z_len)
    have G_reaT : ∀ b : Heap, (∀ a o, base.get? a = some o → b.get? a = some o) → L2.Mod K mg b → FnV P w K mg b CX0 8 f_reac d_reac ["first", "leads"] (spReachedT P w K mg b T 6) := fun b k _ => ok_reachedT (k := 5) F_reac (L1b b k) a_expl (ok_exploredT (k := 6) F_expl z_len) z_list
    have G_mafr : FnV P w K mg base CX0 9 f_mafr d_mafr ["first", "leads", "is_in"] (spMachFrom P w K mg T 6 base) := ok_machfrom (k := 5) F_mafr a_reac G_reaT z_enumerate
    have G_lfro : FnV P w K mg base CX0 12 f_lfro d_lfro ["signs", "first", "leads", "is_in"] (spLangFrom C P w K mg T 6 base) := ok_langfrom (k := 4) F_lfro a_mafr G_mafr a_leas G_leas gC rd.mak G_init b_init cr cv
    have G_agre := ok_agree (base := base) (P := P) (w := w) F_agre rd.lg s_sgs.m b_sgs G_sgs
    have G_comb := ok_comb F_comb L4' rd.lg s_sgs.m b_sgs G_sgs a_agre G_agre a_next G_nextB s_mb.m b_mb G_mb a_lfro G_lfro
    have G_both := ok_both F_both L5' a_comb G_comb
    have G_eith := ok_either F_eith L6' a_comb G_comb
    have G_with := ok_without F_with L7' a_comb G_comb
    have G_explG := ok_exploredG (P := P) (w := w) (base := base) (k := 6) F_expl z_len
    have G_retr : FnOk P w K mg base CX0 1 f_retr d_retr ["before", "node"] spRetr := ok_retr F_retr z_list z_reversed
    have G_way := ok_way (k := 5) F_way a_expl G_explG a_retr G_retr
    have G_outs := ok_outG F_outs L8' rd.lg a_agre G_agre a_next (G_nextB base) s_mb.m b_mb (G_mb base) a_way G_way
    have G_wthn := ok_withG F_wthn a_outs G_outs
    have G_evr := ok_every F_evr a_chks G_chks rd.mak G_init b_init
    have R_evr : FnR P w K mg base CX0 8 f_evr (spEvery C T) := FnR.imp (G_evr.raw (ds := []) (dvs := []) (F_evr.binds (ps := ["cls", "signs"]) (fun _ _ _ _ _ _ us hl => match us, hl with | [_, _], _ => rfl)) .nil) fun vs H Q E h => by rw [List.append_nil]; exact h
    have G_mof : FnOk P w K mg base CX0 1 f_mof d_mof ["signs", "texts"] (spMachOf0 K) := ok_machOf0 F_mof z_len
    have R_lof := ok_lof0 F_lof a_chks G_chks a_mof G_mof a_leas G_leas rd.mak G_init b_init cr cv
    have G_eq : FnOk P w K mg base CX0 1 f_eq d_eq ["self", "other"] (spEqG K C) := ok_eqLG F_eq rd.lg rd.isc gC z_isinstance
    have G_emp : FnOk P w K mg base CX0 1 f_emp d_emp ["self"] (spEmpty C) := ok_empty F_emp rd.lg
    have G_rep : FnG P w K mg base CX0 1 f_rep d_rep ["self"] (spReprL C) := ok_reprL F_rep rd.lg sys
    have G_rng : FnOk P w K mg base CX0 1 f_rng d_rng ["_law_script", "_law_k"] (spRng K) := ok_rng F_rng z_len z_max z_abs z_int
    have G_draw : FnOk P w K mg base CX0 1 f_draw d_draw ["_law_rng_here", "_law_many"] spDraw := ok_draw F_draw z_divmod z_int
    have G_lett := ok_letters F_lett a_draw G_draw z_len z_list z_range
    have G_clas := ok_class F_clas a_draw G_draw z_dict z_range
    have G_text : FnOk P w K mg base CX0 1 f_text d_text ["_law_abc", "_law_cap"] spTexts := ok_texts F_text z_range
    have G_lang := ok_language F_lang gC rd.mak G_init b_init
    have G_belo : FnOk P w K mg base CX0 1 f_belo d_belo ["_law_machine", "_law_note"] spBelongs := ok_belongs F_belo
    have G_seco := ok_second F_seco a_draw G_draw a_clas G_clas a_lang G_lang a_both G_both a_eith G_eith a_with G_with gC cr s_evr.m R_evr z_int
    have G_laws := ok_laws F_laws a_both G_both a_eith G_eith a_with G_with gC cr s_evr.m R_evr rd.isc eC G_eq rd.lg s_emp.m b_emp G_emp z_all
    have G_are := ok_are F_are rd.isc eC G_eq z_repr
    have G_wr := ok_withinR F_wr a_both G_both a_eith G_eith a_wthn G_wthn rd.isc eC G_eq z_repr z_any z_zip
    have G_stra := ok_strange F_stra gC cr s_evr.m R_evr s_lof.m R_lof rd.isc eC G_eq nb s_rep.m b_rep G_rep z_repr z_any z_len
    have G_rght := ok_right F_rght a_draw G_draw a_lett G_lett a_clas G_clas a_lang G_lang a_seco G_seco a_text G_text a_belo G_belo a_are G_are a_wr G_wr a_laws G_laws a_stra G_stra s_has.m b_has G_has s_rep.m b_rep G_rep z_repr z_sorted
    exact ok_law F_law a_rght G_rght a_rng G_rng z_all z_range z_max z_min z_len
end Sl
/-! ## E2 -/
set_option Elab.async false
open PySem PySem.W PyProof.Rows
set_option pp.maxSteps 60
set_option pp.deepTerms false
set_option maxRecDepth 100000 in
set_option maxHeartbeats 0 in
theorem PySem.Challenge.cw_sealedslots_k23_whole_equal_and_within_holds : PySem.Challenge.rw_sealedslots_k23_whole_equal_and_within.Holds := by
  w_on; o_law; x_head; (case hw => w_witness2)
  k_fill
  refine' Sl.walk_ofL (l := PySem.Challenge.rw_sealedslots_k23_whole_equal_and_within) (n := 63) (k := 17) (x := "_law_script") (cs := Sl.cds _ _ _ _ _ _ _ _ _ _ _ _ _ _ _ _) (sp := fun K => Sl.spLaw K (Sl.tbs _ _ _ _ _ _ _ _)) rfl (by decide) rfl ⟨rfl, by decide, by decide⟩ (fun w h Y => PySem.W.kIn_of Y) ?F (fun _ _ a ns hl hT hS => ⟨a, ns, rfl, hS, hl, Sl.tbs_nil hT, fun _ => rfl⟩)
  case F =>
    intro w mg fa h K1 hK KX G hmg
    refine' Sl.pin7 hK ?nC ?n1 ?l1 ?e1 ?lc1 ?v1 ?n2 ?l2 ?e2 ?lc2 ?v2 ?n3 ?l3 ?e3 ?lc3 ?v3 ?n4 ?l4 ?e4 ?lc4 ?v4 ?n5 ?l5 ?e5 ?lc5 ?v5 ?n6 ?l6 ?e6 ?lc6 ?v6 ?n7 ?l7 ?e7 ?lc7 ?v7 ?n8 ?l8 ?e8 ?lc8 ?v8 ?_
    (case nC => k_is)
    (case n1 => k_is)
    (case l1 => k_is)
    (case e1 => exact rfl)
    (case lc1 => k_is)
    (case v1 => exact rfl)
    (case n2 => k_is)
    (case l2 => k_is)
    (case e2 => exact rfl)
    (case lc2 => k_is)
    (case v2 => exact rfl)
    (case n3 => k_is)
    (case l3 => k_is)
    (case e3 => exact rfl)
    (case lc3 => k_is)
    (case v3 => exact rfl)
    (case n4 => k_is)
    (case l4 => k_is)
    (case e4 => exact rfl)
    (case lc4 => k_is)
    (case v4 => exact rfl)
    (case n5 => k_is)
    (case l5 => k_is)
    (case e5 => exact rfl)
    (case lc5 => k_is)
    (case v5 => exact rfl)
    (case n6 => k_is)
    (case l6 => k_is)
    (case e6 => exact rfl)
    (case lc6 => k_is)
    (case v6 => exact rfl)
    (case n7 => k_is)
    (case l7 => k_is)
    (case e7 => exact rfl)
    (case lc7 => k_is)
    (case v7 => exact rfl)
    (case n8 => k_is)
    (case l8 => k_is)
    (case e8 => exact rfl)
    (case lc8 => k_is)
    (case v8 => exact rfl)
    refine' Sl.all7 ?l1 ?l2 ?l3 ?l4 ?l5 ?l6 ?l7 ?l8 ?h1 ?h2 ?h3 ?h4 ?h5 ?h6 ?h7 ?h8 ?_
    (case l1 => kernel_rfl)
    (case l2 => kernel_rfl)
    (case l3 => kernel_rfl)
    (case l4 => kernel_rfl)
    (case l5 => kernel_rfl)
    (case l6 => kernel_rfl)
    (case l7 => kernel_rfl)
    (case l8 => kernel_rfl)
    (case h1 => kernel_rfl)
    (case h2 => kernel_rfl)
    (case h3 => kernel_rfl)
    (case h4 => kernel_rfl)
    (case h5 => kernel_rfl)
    (case h6 => kernel_rfl)
    (case h7 => kernel_rfl)
    (case h8 => kernel_rfl)
    refine' Sl.all_mk (P := PySem.Challenge.pw_sealedslots_k23_whole_equal_and_within) KX G hmg ?s_expl ?s_reac ?s_lead ?s_dist ?s_leas ?s_spli ?s_firs ?s_mafr ?s_isint ?s_below ?s_chst ?s_ares ?s_hasl ?s_word ?s_lasg ?s_wdof ?s_chks ?s_last ?s_both ?s_eith ?s_with ?s_comb ?s_lfro ?s_agre ?s_next ?s_outs ?s_wthn ?s_retr ?s_way ?s_mof ?s_rng ?s_draw ?s_lett ?s_clas ?s_belo ?s_text ?s_lang ?s_seco ?s_laws ?s_are ?s_wr ?s_stra ?s_rght ?s_law ?rd ?s_mv ?s_mb ?s_has ?s_rep ?s_eq ?s_sgs ?s_emp ?k4 ?k40 ?s_evr ?s_lof ?nb ?ne ?hm ?r1 ?r2 ?r3 ?sys0 ?pd ?z_isinstance ?z_int ?z_bool ?z_list ?z_tuple ?z_len ?z_all ?z_any ?z_set ?z_str ?z_dict ?z_sorted ?z_enumerate ?z_divmod ?z_range ?z_max ?z_min ?z_abs ?z_repr ?z_zip ?z_reversed
    (case s_expl => refine' Sl.std_of ?n ?l ?c ?k; (case n => refine' Sl.sm_nsIn hK ?zy ?zz; (case zy => k_is); (case zz => kernel_rfl)); (case l => refine' Sl.sm_lookup hK ?zy ?zz; (case zy => k_is); (case zz => kernel_rfl)); (case c => refine' Sl.sm_codeIn hK ?zy ?zz; (case zy => k_is); (case zz => kernel_rfl)); (case k => refine' Sl.sm_keepIn hK ?zy ?zz; (case zy => k_is); (case zz => kernel_rfl)))
    (case s_reac => refine' Sl.stdt_of ?n ?l ?co ?k; (case n => refine' Sl.sm_nsIn hK ?zy ?zz; (case zy => k_is); (case zz => kernel_rfl)); (case l => refine' Sl.sm_lookup hK ?zy ?zz; (case zy => k_is); (case zz => kernel_rfl)); (case co => refine' Sl.sm_codeIn hK ?zy ?zz; (case zy => k_is); (case zz => kernel_rfl)); (case k => refine' Sl.sm_keepIn hK ?zy ?zz; (case zy => k_is); (case zz => kernel_rfl)))
    (case s_lead => refine' Sl.std_of ?n ?l ?c ?k; (case n => refine' Sl.sm_nsIn hK ?zy ?zz; (case zy => k_is); (case zz => kernel_rfl)); (case l => refine' Sl.sm_lookup hK ?zy ?zz; (case zy => k_is); (case zz => kernel_rfl)); (case c => refine' Sl.sm_codeIn hK ?zy ?zz; (case zy => k_is); (case zz => kernel_rfl)); (case k => refine' Sl.sm_keepIn hK ?zy ?zz; (case zy => k_is); (case zz => kernel_rfl)))
    (case s_dist => refine' Sl.std_of ?n ?l ?c ?k; (case n => refine' Sl.sm_nsIn hK ?zy ?zz; (case zy => k_is); (case zz => kernel_rfl)); (case l => refine' Sl.sm_lookup hK ?zy ?zz; (case zy => k_is); (case zz => kernel_rfl)); (case c => refine' Sl.sm_codeIn hK ?zy ?zz; (case zy => k_is); (case zz => kernel_rfl)); (case k => refine' Sl.sm_keepIn hK ?zy ?zz; (case zy => k_is); (case zz => kernel_rfl)))
    (case s_leas => refine' Sl.stdt_of ?n ?l ?co ?k; (case n => refine' Sl.sm_nsIn hK ?zy ?zz; (case zy => k_is); (case zz => kernel_rfl)); (case l => refine' Sl.sm_lookup hK ?zy ?zz; (case zy => k_is); (case zz => kernel_rfl)); (case co => refine' Sl.sm_codeIn hK ?zy ?zz; (case zy => k_is); (case zz => kernel_rfl)); (case k => refine' Sl.sm_keepIn hK ?zy ?zz; (case zy => k_is); (case zz => kernel_rfl)))
    (case s_spli => refine' Sl.std_of ?n ?l ?c ?k; (case n => refine' Sl.sm_nsIn hK ?zy ?zz; (case zy => k_is); (case zz => kernel_rfl)); (case l => refine' Sl.sm_lookup hK ?zy ?zz; (case zy => k_is); (case zz => kernel_rfl)); (case c => refine' Sl.sm_codeIn hK ?zy ?zz; (case zy => k_is); (case zz => kernel_rfl)); (case k => refine' Sl.sm_keepIn hK ?zy ?zz; (case zy => k_is); (case zz => kernel_rfl)))
    (case s_firs => refine' Sl.std_of ?n ?l ?c ?k; (case n => refine' Sl.sm_nsIn hK ?zy ?zz; (case zy => k_is); (case zz => kernel_rfl)); (case l => refine' Sl.sm_lookup hK ?zy ?zz; (case zy => k_is); (case zz => kernel_rfl)); (case c => refine' Sl.sm_codeIn hK ?zy ?zz; (case zy => k_is); (case zz => kernel_rfl)); (case k => refine' Sl.sm_keepIn hK ?zy ?zz; (case zy => k_is); (case zz => kernel_rfl)))
    (case s_mafr => refine' Sl.std_of ?n ?l ?c ?k; (case n => refine' Sl.sm_nsIn hK ?zy ?zz; (case zy => k_is); (case zz => kernel_rfl)); (case l => refine' Sl.sm_lookup hK ?zy ?zz; (case zy => k_is); (case zz => kernel_rfl)); (case c => refine' Sl.sm_codeIn hK ?zy ?zz; (case zy => k_is); (case zz => kernel_rfl)); (case k => refine' Sl.sm_keepIn hK ?zy ?zz; (case zy => k_is); (case zz => kernel_rfl)))
    (case s_isint => refine' Sl.std_of ?n ?l ?c ?k; (case n => refine' Sl.sm_nsIn hK ?zy ?zz; (case zy => k_is); (case zz => kernel_rfl)); (case l => refine' Sl.sm_lookup hK ?zy ?zz; (case zy => k_is); (case zz => kernel_rfl)); (case c => refine' Sl.sm_codeIn hK ?zy ?zz; (case zy => k_is); (case zz => kernel_rfl)); (case k => refine' Sl.sm_keepIn hK ?zy ?zz; (case zy => k_is); (case zz => kernel_rfl)))
    (case s_below => refine' Sl.std_of ?n ?l ?c ?k; (case n => refine' Sl.sm_nsIn hK ?zy ?zz; (case zy => k_is); (case zz => kernel_rfl)); (case l => refine' Sl.sm_lookup hK ?zy ?zz; (case zy => k_is); (case zz => kernel_rfl)); (case c => refine' Sl.sm_codeIn hK ?zy ?zz; (case zy => k_is); (case zz => kernel_rfl)); (case k => refine' Sl.sm_keepIn hK ?zy ?zz; (case zy => k_is); (case zz => kernel_rfl)))
    (case s_chst => refine' Sl.std_of ?n ?l ?c ?k; (case n => refine' Sl.sm_nsIn hK ?zy ?zz; (case zy => k_is); (case zz => kernel_rfl)); (case l => refine' Sl.sm_lookup hK ?zy ?zz; (case zy => k_is); (case zz => kernel_rfl)); (case c => refine' Sl.sm_codeIn hK ?zy ?zz; (case zy => k_is); (case zz => kernel_rfl)); (case k => refine' Sl.sm_keepIn hK ?zy ?zz; (case zy => k_is); (case zz => kernel_rfl)))
    (case s_ares => refine' Sl.std_of ?n ?l ?c ?k; (case n => refine' Sl.sm_nsIn hK ?zy ?zz; (case zy => k_is); (case zz => kernel_rfl)); (case l => refine' Sl.sm_lookup hK ?zy ?zz; (case zy => k_is); (case zz => kernel_rfl)); (case c => refine' Sl.sm_codeIn hK ?zy ?zz; (case zy => k_is); (case zz => kernel_rfl)); (case k => refine' Sl.sm_keepIn hK ?zy ?zz; (case zy => k_is); (case zz => kernel_rfl)))
    (case s_hasl => refine' Sl.std_of ?n ?l ?c ?k; (case n => refine' Sl.sm_nsIn hK ?zy ?zz; (case zy => k_is); (case zz => kernel_rfl)); (case l => refine' Sl.sm_lookup hK ?zy ?zz; (case zy => k_is); (case zz => kernel_rfl)); (case c => refine' Sl.sm_codeIn hK ?zy ?zz; (case zy => k_is); (case zz => kernel_rfl)); (case k => refine' Sl.sm_keepIn hK ?zy ?zz; (case zy => k_is); (case zz => kernel_rfl)))
    (case s_word => refine' Sl.std_of ?n ?l ?c ?k; (case n => refine' Sl.sm_nsIn hK ?zy ?zz; (case zy => k_is); (case zz => kernel_rfl)); (case l => refine' Sl.sm_lookup hK ?zy ?zz; (case zy => k_is); (case zz => kernel_rfl)); (case c => refine' Sl.sm_codeIn hK ?zy ?zz; (case zy => k_is); (case zz => kernel_rfl)); (case k => refine' Sl.sm_keepIn hK ?zy ?zz; (case zy => k_is); (case zz => kernel_rfl)))
    (case s_lasg => refine' Sl.std_of ?n ?l ?c ?k; (case n => refine' Sl.sm_nsIn hK ?zy ?zz; (case zy => k_is); (case zz => kernel_rfl)); (case l => refine' Sl.sm_lookup hK ?zy ?zz; (case zy => k_is); (case zz => kernel_rfl)); (case c => refine' Sl.sm_codeIn hK ?zy ?zz; (case zy => k_is); (case zz => kernel_rfl)); (case k => refine' Sl.sm_keepIn hK ?zy ?zz; (case zy => k_is); (case zz => kernel_rfl)))
    (case s_wdof => refine' Sl.std_of ?n ?l ?c ?k; (case n => refine' Sl.sm_nsIn hK ?zy ?zz; (case zy => k_is); (case zz => kernel_rfl)); (case l => refine' Sl.sm_lookup hK ?zy ?zz; (case zy => k_is); (case zz => kernel_rfl)); (case c => refine' Sl.sm_codeIn hK ?zy ?zz; (case zy => k_is); (case zz => kernel_rfl)); (case k => refine' Sl.sm_keepIn hK ?zy ?zz; (case zy => k_is); (case zz => kernel_rfl)))
    (case s_chks => refine' Sl.std_of ?n ?l ?c ?k; (case n => refine' Sl.sm_nsIn hK ?zy ?zz; (case zy => k_is); (case zz => kernel_rfl)); (case l => refine' Sl.sm_lookup hK ?zy ?zz; (case zy => k_is); (case zz => kernel_rfl)); (case c => refine' Sl.sm_codeIn hK ?zy ?zz; (case zy => k_is); (case zz => kernel_rfl)); (case k => refine' Sl.sm_keepIn hK ?zy ?zz; (case zy => k_is); (case zz => kernel_rfl)))
    (case s_last => refine' Sl.std_of ?n ?l ?c ?k; (case n => refine' Sl.sm_nsIn hK ?zy ?zz; (case zy => k_is); (case zz => kernel_rfl)); (case l => refine' Sl.sm_lookup hK ?zy ?zz; (case zy => k_is); (case zz => kernel_rfl)); (case c => refine' Sl.sm_codeIn hK ?zy ?zz; (case zy => k_is); (case zz => kernel_rfl)); (case k => refine' Sl.sm_keepIn hK ?zy ?zz; (case zy => k_is); (case zz => kernel_rfl)))
    (case s_both => refine' Sl.stdt_of ?n ?l ?co ?k; (case n => refine' Sl.sm_nsIn hK ?zy ?zz; (case zy => k_is); (case zz => kernel_rfl)); (case l => refine' Sl.sm_lookup hK ?zy ?zz; (case zy => k_is); (case zz => kernel_rfl)); (case co => refine' Sl.sm_codeIn hK ?zy ?zz; (case zy => k_is); (case zz => kernel_rfl)); (case k => refine' Sl.sm_keepIn hK ?zy ?zz; (case zy => k_is); (case zz => kernel_rfl)))
    (case s_eith => refine' Sl.stdt_of ?n ?l ?co ?k; (case n => refine' Sl.sm_nsIn hK ?zy ?zz; (case zy => k_is); (case zz => kernel_rfl)); (case l => refine' Sl.sm_lookup hK ?zy ?zz; (case zy => k_is); (case zz => kernel_rfl)); (case co => refine' Sl.sm_codeIn hK ?zy ?zz; (case zy => k_is); (case zz => kernel_rfl)); (case k => refine' Sl.sm_keepIn hK ?zy ?zz; (case zy => k_is); (case zz => kernel_rfl)))
    (case s_with => refine' Sl.stdt_of ?n ?l ?co ?k; (case n => refine' Sl.sm_nsIn hK ?zy ?zz; (case zy => k_is); (case zz => kernel_rfl)); (case l => refine' Sl.sm_lookup hK ?zy ?zz; (case zy => k_is); (case zz => kernel_rfl)); (case co => refine' Sl.sm_codeIn hK ?zy ?zz; (case zy => k_is); (case zz => kernel_rfl)); (case k => refine' Sl.sm_keepIn hK ?zy ?zz; (case zy => k_is); (case zz => kernel_rfl)))
    (case s_comb => refine' Sl.stdt_of ?n ?l ?co ?k; (case n => refine' Sl.sm_nsIn hK ?zy ?zz; (case zy => k_is); (case zz => kernel_rfl)); (case l => refine' Sl.sm_lookup hK ?zy ?zz; (case zy => k_is); (case zz => kernel_rfl)); (case co => refine' Sl.sm_codeIn hK ?zy ?zz; (case zy => k_is); (case zz => kernel_rfl)); (case k => refine' Sl.sm_keepIn hK ?zy ?zz; (case zy => k_is); (case zz => kernel_rfl)))
    (case s_lfro => refine' Sl.std_of ?n ?l ?c ?k; (case n => refine' Sl.sm_nsIn hK ?zy ?zz; (case zy => k_is); (case zz => kernel_rfl)); (case l => refine' Sl.sm_lookup hK ?zy ?zz; (case zy => k_is); (case zz => kernel_rfl)); (case c => refine' Sl.sm_codeIn hK ?zy ?zz; (case zy => k_is); (case zz => kernel_rfl)); (case k => refine' Sl.sm_keepIn hK ?zy ?zz; (case zy => k_is); (case zz => kernel_rfl)))
    (case s_agre => refine' Sl.std_of ?n ?l ?c ?k; (case n => refine' Sl.sm_nsIn hK ?zy ?zz; (case zy => k_is); (case zz => kernel_rfl)); (case l => refine' Sl.sm_lookup hK ?zy ?zz; (case zy => k_is); (case zz => kernel_rfl)); (case c => refine' Sl.sm_codeIn hK ?zy ?zz; (case zy => k_is); (case zz => kernel_rfl)); (case k => refine' Sl.sm_keepIn hK ?zy ?zz; (case zy => k_is); (case zz => kernel_rfl)))
    (case s_next => refine' Sl.std_of ?n ?l ?c ?k; (case n => refine' Sl.sm_nsIn hK ?zy ?zz; (case zy => k_is); (case zz => kernel_rfl)); (case l => refine' Sl.sm_lookup hK ?zy ?zz; (case zy => k_is); (case zz => kernel_rfl)); (case c => refine' Sl.sm_codeIn hK ?zy ?zz; (case zy => k_is); (case zz => kernel_rfl)); (case k => refine' Sl.sm_keepIn hK ?zy ?zz; (case zy => k_is); (case zz => kernel_rfl)))
    (case s_outs => refine' Sl.stdt_of ?n ?l ?co ?k; (case n => refine' Sl.sm_nsIn hK ?zy ?zz; (case zy => k_is); (case zz => kernel_rfl)); (case l => refine' Sl.sm_lookup hK ?zy ?zz; (case zy => k_is); (case zz => kernel_rfl)); (case co => refine' Sl.sm_codeIn hK ?zy ?zz; (case zy => k_is); (case zz => kernel_rfl)); (case k => refine' Sl.sm_keepIn hK ?zy ?zz; (case zy => k_is); (case zz => kernel_rfl)))
    (case s_wthn => refine' Sl.std_of ?n ?l ?c ?k; (case n => refine' Sl.sm_nsIn hK ?zy ?zz; (case zy => k_is); (case zz => kernel_rfl)); (case l => refine' Sl.sm_lookup hK ?zy ?zz; (case zy => k_is); (case zz => kernel_rfl)); (case c => refine' Sl.sm_codeIn hK ?zy ?zz; (case zy => k_is); (case zz => kernel_rfl)); (case k => refine' Sl.sm_keepIn hK ?zy ?zz; (case zy => k_is); (case zz => kernel_rfl)))
    (case s_retr => refine' Sl.std_of ?n ?l ?c ?k; (case n => refine' Sl.sm_nsIn hK ?zy ?zz; (case zy => k_is); (case zz => kernel_rfl)); (case l => refine' Sl.sm_lookup hK ?zy ?zz; (case zy => k_is); (case zz => kernel_rfl)); (case c => refine' Sl.sm_codeIn hK ?zy ?zz; (case zy => k_is); (case zz => kernel_rfl)); (case k => refine' Sl.sm_keepIn hK ?zy ?zz; (case zy => k_is); (case zz => kernel_rfl)))
    (case s_way => refine' Sl.std_of ?n ?l ?c ?k; (case n => refine' Sl.sm_nsIn hK ?zy ?zz; (case zy => k_is); (case zz => kernel_rfl)); (case l => refine' Sl.sm_lookup hK ?zy ?zz; (case zy => k_is); (case zz => kernel_rfl)); (case c => refine' Sl.sm_codeIn hK ?zy ?zz; (case zy => k_is); (case zz => kernel_rfl)); (case k => refine' Sl.sm_keepIn hK ?zy ?zz; (case zy => k_is); (case zz => kernel_rfl)))
    (case s_mof => refine' Sl.std_of ?n ?l ?c ?k; (case n => refine' Sl.sm_nsIn hK ?zy ?zz; (case zy => k_is); (case zz => kernel_rfl)); (case l => refine' Sl.sm_lookup hK ?zy ?zz; (case zy => k_is); (case zz => kernel_rfl)); (case c => refine' Sl.sm_codeIn hK ?zy ?zz; (case zy => k_is); (case zz => kernel_rfl)); (case k => refine' Sl.sm_keepIn hK ?zy ?zz; (case zy => k_is); (case zz => kernel_rfl)))
    (case s_rng => refine' Sl.std_of ?n ?l ?c ?k; (case n => refine' Sl.sm_nsIn hK ?zy ?zz; (case zy => k_is); (case zz => kernel_rfl)); (case l => refine' Sl.sm_lookup hK ?zy ?zz; (case zy => k_is); (case zz => kernel_rfl)); (case c => refine' Sl.sm_codeIn hK ?zy ?zz; (case zy => k_is); (case zz => kernel_rfl)); (case k => refine' Sl.sm_keepIn hK ?zy ?zz; (case zy => k_is); (case zz => kernel_rfl)))
    (case s_draw => refine' Sl.std_of ?n ?l ?c ?k; (case n => refine' Sl.sm_nsIn hK ?zy ?zz; (case zy => k_is); (case zz => kernel_rfl)); (case l => refine' Sl.sm_lookup hK ?zy ?zz; (case zy => k_is); (case zz => kernel_rfl)); (case c => refine' Sl.sm_codeIn hK ?zy ?zz; (case zy => k_is); (case zz => kernel_rfl)); (case k => refine' Sl.sm_keepIn hK ?zy ?zz; (case zy => k_is); (case zz => kernel_rfl)))
    (case s_lett => refine' Sl.std_of ?n ?l ?c ?k; (case n => refine' Sl.sm_nsIn hK ?zy ?zz; (case zy => k_is); (case zz => kernel_rfl)); (case l => refine' Sl.sm_lookup hK ?zy ?zz; (case zy => k_is); (case zz => kernel_rfl)); (case c => refine' Sl.sm_codeIn hK ?zy ?zz; (case zy => k_is); (case zz => kernel_rfl)); (case k => refine' Sl.sm_keepIn hK ?zy ?zz; (case zy => k_is); (case zz => kernel_rfl)))
    (case s_clas => refine' Sl.std_of ?n ?l ?c ?k; (case n => refine' Sl.sm_nsIn hK ?zy ?zz; (case zy => k_is); (case zz => kernel_rfl)); (case l => refine' Sl.sm_lookup hK ?zy ?zz; (case zy => k_is); (case zz => kernel_rfl)); (case c => refine' Sl.sm_codeIn hK ?zy ?zz; (case zy => k_is); (case zz => kernel_rfl)); (case k => refine' Sl.sm_keepIn hK ?zy ?zz; (case zy => k_is); (case zz => kernel_rfl)))
    (case s_belo => refine' Sl.std_of ?n ?l ?c ?k; (case n => refine' Sl.sm_nsIn hK ?zy ?zz; (case zy => k_is); (case zz => kernel_rfl)); (case l => refine' Sl.sm_lookup hK ?zy ?zz; (case zy => k_is); (case zz => kernel_rfl)); (case c => refine' Sl.sm_codeIn hK ?zy ?zz; (case zy => k_is); (case zz => kernel_rfl)); (case k => refine' Sl.sm_keepIn hK ?zy ?zz; (case zy => k_is); (case zz => kernel_rfl)))
    (case s_text => refine' Sl.std_of ?n ?l ?c ?k; (case n => refine' Sl.sm_nsIn hK ?zy ?zz; (case zy => k_is); (case zz => kernel_rfl)); (case l => refine' Sl.sm_lookup hK ?zy ?zz; (case zy => k_is); (case zz => kernel_rfl)); (case c => refine' Sl.sm_codeIn hK ?zy ?zz; (case zy => k_is); (case zz => kernel_rfl)); (case k => refine' Sl.sm_keepIn hK ?zy ?zz; (case zy => k_is); (case zz => kernel_rfl)))
    (case s_lang => refine' Sl.std_of ?n ?l ?c ?k; (case n => refine' Sl.sm_nsIn hK ?zy ?zz; (case zy => k_is); (case zz => kernel_rfl)); (case l => refine' Sl.sm_lookup hK ?zy ?zz; (case zy => k_is); (case zz => kernel_rfl)); (case c => refine' Sl.sm_codeIn hK ?zy ?zz; (case zy => k_is); (case zz => kernel_rfl)); (case k => refine' Sl.sm_keepIn hK ?zy ?zz; (case zy => k_is); (case zz => kernel_rfl)))
    (case s_seco => refine' Sl.std_of ?n ?l ?c ?k; (case n => refine' Sl.sm_nsIn hK ?zy ?zz; (case zy => k_is); (case zz => kernel_rfl)); (case l => refine' Sl.sm_lookup hK ?zy ?zz; (case zy => k_is); (case zz => kernel_rfl)); (case c => refine' Sl.sm_codeIn hK ?zy ?zz; (case zy => k_is); (case zz => kernel_rfl)); (case k => refine' Sl.sm_keepIn hK ?zy ?zz; (case zy => k_is); (case zz => kernel_rfl)))
    (case s_laws => refine' Sl.std_of ?n ?l ?c ?k; (case n => refine' Sl.sm_nsIn hK ?zy ?zz; (case zy => k_is); (case zz => kernel_rfl)); (case l => refine' Sl.sm_lookup hK ?zy ?zz; (case zy => k_is); (case zz => kernel_rfl)); (case c => refine' Sl.sm_codeIn hK ?zy ?zz; (case zy => k_is); (case zz => kernel_rfl)); (case k => refine' Sl.sm_keepIn hK ?zy ?zz; (case zy => k_is); (case zz => kernel_rfl)))
    (case s_are => refine' Sl.std_of ?n ?l ?c ?k; (case n => refine' Sl.sm_nsIn hK ?zy ?zz; (case zy => k_is); (case zz => kernel_rfl)); (case l => refine' Sl.sm_lookup hK ?zy ?zz; (case zy => k_is); (case zz => kernel_rfl)); (case c => refine' Sl.sm_codeIn hK ?zy ?zz; (case zy => k_is); (case zz => kernel_rfl)); (case k => refine' Sl.sm_keepIn hK ?zy ?zz; (case zy => k_is); (case zz => kernel_rfl)))
    (case s_wr => refine' Sl.std_of ?n ?l ?c ?k; (case n => refine' Sl.sm_nsIn hK ?zy ?zz; (case zy => k_is); (case zz => kernel_rfl)); (case l => refine' Sl.sm_lookup hK ?zy ?zz; (case zy => k_is); (case zz => kernel_rfl)); (case c => refine' Sl.sm_codeIn hK ?zy ?zz; (case zy => k_is); (case zz => kernel_rfl)); (case k => refine' Sl.sm_keepIn hK ?zy ?zz; (case zy => k_is); (case zz => kernel_rfl)))
    (case s_stra => refine' Sl.std_of ?n ?l ?c ?k; (case n => refine' Sl.sm_nsIn hK ?zy ?zz; (case zy => k_is); (case zz => kernel_rfl)); (case l => refine' Sl.sm_lookup hK ?zy ?zz; (case zy => k_is); (case zz => kernel_rfl)); (case c => refine' Sl.sm_codeIn hK ?zy ?zz; (case zy => k_is); (case zz => kernel_rfl)); (case k => refine' Sl.sm_keepIn hK ?zy ?zz; (case zy => k_is); (case zz => kernel_rfl)))
    (case s_rght => refine' Sl.std_of ?n ?l ?c ?k; (case n => refine' Sl.sm_nsIn hK ?zy ?zz; (case zy => k_is); (case zz => kernel_rfl)); (case l => refine' Sl.sm_lookup hK ?zy ?zz; (case zy => k_is); (case zz => kernel_rfl)); (case c => refine' Sl.sm_codeIn hK ?zy ?zz; (case zy => k_is); (case zz => kernel_rfl)); (case k => refine' Sl.sm_keepIn hK ?zy ?zz; (case zy => k_is); (case zz => kernel_rfl)))
    (case s_law => refine' Sl.std_of ?n ?l ?c ?k; (case n => refine' Sl.sm_nsIn hK ?zy ?zz; (case zy => k_is); (case zz => kernel_rfl)); (case l => refine' Sl.sm_lookup hK ?zy ?zz; (case zy => k_is); (case zz => kernel_rfl)); (case c => refine' Sl.sm_codeIn hK ?zy ?zz; (case zy => k_is); (case zz => kernel_rfl)); (case k => refine' Sl.sm_keepIn hK ?zy ?zz; (case zy => k_is); (case zz => kernel_rfl)))
    (case rd => refine' Sl.lgall_of ?ns ?pg ?hd ?po ?sa ?n1 ?n2 ?n3 ?n4 ?mk ?i ?fn ?kC ?i1 ?i2 ?i3 ?i4 ?i5 ?c1 ?c2 ?l ?c ?k; (case ns => refine' Sl.sm_nsIn hK ?zy ?zz; (case zy => k_is); (case zz => kernel_rfl)); (case pg => refine' Sl.sm_plainGet hK ?zy ?zz; (case zy => k_is); (case zz => kernel_rfl)); (case hd => refine' Sl.sm_hasDictIn hK ?zy ?zz; (case zy => k_is); (case zz => kernel_rfl)); (case po => refine' Sl.sm_plainOver hK ?zy ?zz; (case zy => k_is); (case zz => kernel_rfl)); (case sa => refine' Sl.sm_findIn hK ?zy ?zz; (case zy => k_is); (case zz => kernel_rfl)); (case n1 => refine' Sl.sm_findIn hK ?zy ?zz; (case zy => k_is); (case zz => kernel_rfl)); (case n2 => refine' Sl.sm_findIn hK ?zy ?zz; (case zy => k_is); (case zz => kernel_rfl)); (case n3 => refine' Sl.sm_findIn hK ?zy ?zz; (case zy => k_is); (case zz => kernel_rfl)); (case n4 => refine' Sl.sm_findIn hK ?zy ?zz; (case zy => k_is); (case zz => kernel_rfl)); (case mk => refine' Sl.sm_makesIn hK ?zy ?zz; (case zy => k_is); (case zz => kernel_rfl)); (case i => refine' Sl.sm_findIn hK ?zy ?zz; (case zy => k_is); (case zz => kernel_rfl)); (case fn => refine' Sl.sm_isFn hK ?zy ?zz; (case zy => k_is); (case zz => kernel_rfl)); (case kC => refine' Sl.sm_keepIn hK ?zy ?zz; (case zy => k_is); (case zz => kernel_rfl)); (case i1 => refine' Sl.sm_findIn hK ?zy ?zz; (case zy => k_is); (case zz => kernel_rfl)); (case i2 => refine' Sl.sm_specialIn hK ?zy ?zz; (case zy => k_is); (case zz => kernel_rfl)); (case i3 => refine' Sl.sm_takesIn hK ?zy ?zz; (case zy => k_is); (case zz => kernel_rfl)); (case i4 => refine' Sl.sm_mroIn hK ?zy ?zz; (case zy => k_is); (case zz => kernel_rfl)); (case i5 => refine' Sl.sm_kitOne hK ?zy ?zz; (case zy => kit_is); (case zz => kernel_rfl)); (case c1 => refine' Sl.sm_findIn hK ?zy ?zz; (case zy => k_is); (case zz => kernel_rfl)); (case c2 => refine' Sl.sm_specialIn hK ?zy ?zz; (case zy => k_is); (case zz => kernel_rfl)); (case l => refine' Sl.sm_lookup hK ?zy ?zz; (case zy => k_is); (case zz => kernel_rfl)); (case c => refine' Sl.sm_codeIn hK ?zy ?zz; (case zy => k_is); (case zz => kernel_rfl)); (case k => refine' Sl.sm_keepIn hK ?zy ?zz; (case zy => k_is); (case zz => kernel_rfl)))
    (case s_mv => refine' Sl.incls_of ?n ?i ?l ?c ?k; (case n => refine' Sl.sm_findIn hK ?zy ?zz; (case zy => k_is); (case zz => kernel_rfl)); (case i => refine' Sl.sm_isFn hK ?zy ?zz; (case zy => k_is); (case zz => kernel_rfl)); (case l => refine' Sl.sm_lookup hK ?zy ?zz; (case zy => k_is); (case zz => kernel_rfl)); (case c => refine' Sl.sm_codeIn hK ?zy ?zz; (case zy => k_is); (case zz => kernel_rfl)); (case k => refine' Sl.sm_keepIn hK ?zy ?zz; (case zy => k_is); (case zz => kernel_rfl)))
    (case s_mb => refine' Sl.incls_of ?n ?i ?l ?c ?k; (case n => refine' Sl.sm_findIn hK ?zy ?zz; (case zy => k_is); (case zz => kernel_rfl)); (case i => refine' Sl.sm_isFn hK ?zy ?zz; (case zy => k_is); (case zz => kernel_rfl)); (case l => refine' Sl.sm_lookup hK ?zy ?zz; (case zy => k_is); (case zz => kernel_rfl)); (case c => refine' Sl.sm_codeIn hK ?zy ?zz; (case zy => k_is); (case zz => kernel_rfl)); (case k => refine' Sl.sm_keepIn hK ?zy ?zz; (case zy => k_is); (case zz => kernel_rfl)))
    (case s_has => refine' Sl.incls_of ?n ?i ?l ?c ?k; (case n => refine' Sl.sm_findIn hK ?zy ?zz; (case zy => k_is); (case zz => kernel_rfl)); (case i => refine' Sl.sm_isFn hK ?zy ?zz; (case zy => k_is); (case zz => kernel_rfl)); (case l => refine' Sl.sm_lookup hK ?zy ?zz; (case zy => k_is); (case zz => kernel_rfl)); (case c => refine' Sl.sm_codeIn hK ?zy ?zz; (case zy => k_is); (case zz => kernel_rfl)); (case k => refine' Sl.sm_keepIn hK ?zy ?zz; (case zy => k_is); (case zz => kernel_rfl)))
    (case s_rep => refine' Sl.incls_of ?n ?i ?l ?c ?k; (case n => refine' Sl.sm_findIn hK ?zy ?zz; (case zy => k_is); (case zz => kernel_rfl)); (case i => refine' Sl.sm_isFn hK ?zy ?zz; (case zy => k_is); (case zz => kernel_rfl)); (case l => refine' Sl.sm_lookup hK ?zy ?zz; (case zy => k_is); (case zz => kernel_rfl)); (case c => refine' Sl.sm_codeIn hK ?zy ?zz; (case zy => k_is); (case zz => kernel_rfl)); (case k => refine' Sl.sm_keepIn hK ?zy ?zz; (case zy => k_is); (case zz => kernel_rfl)))
    (case s_eq => refine' Sl.incls_of ?n ?i ?l ?c ?k; (case n => refine' Sl.sm_findIn hK ?zy ?zz; (case zy => k_is); (case zz => kernel_rfl)); (case i => refine' Sl.sm_isFn hK ?zy ?zz; (case zy => k_is); (case zz => kernel_rfl)); (case l => refine' Sl.sm_lookup hK ?zy ?zz; (case zy => k_is); (case zz => kernel_rfl)); (case c => refine' Sl.sm_codeIn hK ?zy ?zz; (case zy => k_is); (case zz => kernel_rfl)); (case k => refine' Sl.sm_keepIn hK ?zy ?zz; (case zy => k_is); (case zz => kernel_rfl)))
    (case s_sgs => refine' Sl.inprop_of ?n ?g ?t ?r ?l ?c ?k; (case n => refine' Sl.sm_findIn hK ?zy ?zz; (case zy => k_is); (case zz => kernel_rfl)); (case g => refine' Sl.sm_specialIn hK ?zy ?zz; (case zy => k_is); (case zz => kernel_rfl)); (case t => refine' Sl.sm_takesIn hK ?zy ?zz; (case zy => k_is); (case zz => kernel_rfl)); (case r => refine' Sl.sm_recIn hK ?zy ?zz; (case zy => k_is); (case zz => kernel_rfl)); (case l => refine' Sl.sm_lookup hK ?zy ?zz; (case zy => k_is); (case zz => kernel_rfl)); (case c => refine' Sl.sm_codeIn hK ?zy ?zz; (case zy => k_is); (case zz => kernel_rfl)); (case k => refine' Sl.sm_keepIn hK ?zy ?zz; (case zy => k_is); (case zz => kernel_rfl)))
    (case s_emp => refine' Sl.inprop_of ?n ?g ?t ?r ?l ?c ?k; (case n => refine' Sl.sm_findIn hK ?zy ?zz; (case zy => k_is); (case zz => kernel_rfl)); (case g => refine' Sl.sm_specialIn hK ?zy ?zz; (case zy => k_is); (case zz => kernel_rfl)); (case t => refine' Sl.sm_takesIn hK ?zy ?zz; (case zy => k_is); (case zz => kernel_rfl)); (case r => refine' Sl.sm_recIn hK ?zy ?zz; (case zy => k_is); (case zz => kernel_rfl)); (case l => refine' Sl.sm_lookup hK ?zy ?zz; (case zy => k_is); (case zz => kernel_rfl)); (case c => refine' Sl.sm_codeIn hK ?zy ?zz; (case zy => k_is); (case zz => kernel_rfl)); (case k => refine' Sl.sm_keepIn hK ?zy ?zz; (case zy => k_is); (case zz => kernel_rfl)))
    (case k4 => refine' Sl.sm_nsIn hK ?zy ?zz; (case zy => k_is); (case zz => kernel_rfl))
    (case k40 => refine' Sl.sm_nsIn hK ?zy ?zz; (case zy => k_is); (case zz => kernel_rfl))
    (case s_evr => refine' Sl.incm_of ?m1 ?m2 ?m3 ?l ?c ?k; (case m1 => refine' Sl.sm_findCls hK ?zy ?zz; (case zy => k_is); (case zz => kernel_rfl)); (case m2 => refine' Sl.sm_recIn hK ?zy ?zz; (case zy => k_is); (case zz => kernel_rfl)); (case m3 => refine' Sl.sm_fnIn hK ?zy ?zz; (case zy => k_is); (case zz => kernel_rfl)); (case l => refine' Sl.sm_lookup hK ?zy ?zz; (case zy => k_is); (case zz => kernel_rfl)); (case c => refine' Sl.sm_codeIn hK ?zy ?zz; (case zy => k_is); (case zz => kernel_rfl)); (case k => refine' Sl.sm_keepIn hK ?zy ?zz; (case zy => k_is); (case zz => kernel_rfl)))
    (case s_lof => refine' Sl.incm_of ?m1 ?m2 ?m3 ?l ?c ?k; (case m1 => refine' Sl.sm_findCls hK ?zy ?zz; (case zy => k_is); (case zz => kernel_rfl)); (case m2 => refine' Sl.sm_recIn hK ?zy ?zz; (case zy => k_is); (case zz => kernel_rfl)); (case m3 => refine' Sl.sm_fnIn hK ?zy ?zz; (case zy => k_is); (case zz => kernel_rfl)); (case l => refine' Sl.sm_lookup hK ?zy ?zz; (case zy => k_is); (case zz => kernel_rfl)); (case c => refine' Sl.sm_codeIn hK ?zy ?zz; (case zy => k_is); (case zz => kernel_rfl)); (case k => refine' Sl.sm_keepIn hK ?zy ?zz; (case zy => k_is); (case zz => kernel_rfl)))
    (case nb => refine' Sl.notb_of ?y_s_NoneType ?y_s_int ?y_s_str ?y_s_list ?y_s_tuple ?y_s_dict ?y_k_NoneType ?y_k_int ?y_k_str ?y_k_list ?y_k_tuple ?y_k_dict ?y_f_NoneType ?y_f_int ?y_f_str ?y_f_list ?y_f_tuple ?y_f_dict; (case y_s_NoneType => refine' Sl.sm_subIn hK ?zy ?zz; (case zy => k_is); (case zz => kernel_rfl)); (case y_s_int => refine' Sl.sm_subIn hK ?zy ?zz; (case zy => k_is); (case zz => kernel_rfl)); (case y_s_str => refine' Sl.sm_subIn hK ?zy ?zz; (case zy => k_is); (case zz => kernel_rfl)); (case y_s_list => refine' Sl.sm_subIn hK ?zy ?zz; (case zy => k_is); (case zz => kernel_rfl)); (case y_s_tuple => refine' Sl.sm_subIn hK ?zy ?zz; (case zy => k_is); (case zz => kernel_rfl)); (case y_s_dict => refine' Sl.sm_subIn hK ?zy ?zz; (case zy => k_is); (case zz => kernel_rfl)); (case y_k_NoneType => refine' Sl.sm_kitOne hK ?zy ?zz; (case zy => kit_is); (case zz => kernel_rfl)); (case y_k_int => refine' Sl.sm_kitOne hK ?zy ?zz; (case zy => kit_is); (case zz => kernel_rfl)); (case y_k_str => refine' Sl.sm_kitOne hK ?zy ?zz; (case zy => kit_is); (case zz => kernel_rfl)); (case y_k_list => refine' Sl.sm_kitOne hK ?zy ?zz; (case zy => kit_is); (case zz => kernel_rfl)); (case y_k_tuple => refine' Sl.sm_kitOne hK ?zy ?zz; (case zy => kit_is); (case zz => kernel_rfl)); (case y_k_dict => refine' Sl.sm_kitOne hK ?zy ?zz; (case zy => kit_is); (case zz => kernel_rfl)); (case y_f_NoneType => refine' Sl.sm_notFirst hK ?zy ?zz; (case zy => k_is); (case zz => kernel_rfl)); (case y_f_int => refine' Sl.sm_notFirst hK ?zy ?zz; (case zy => k_is); (case zz => kernel_rfl)); (case y_f_str => refine' Sl.sm_notFirst hK ?zy ?zz; (case zy => k_is); (case zz => kernel_rfl)); (case y_f_list => refine' Sl.sm_notFirst hK ?zy ?zz; (case zy => k_is); (case zz => kernel_rfl)); (case y_f_tuple => refine' Sl.sm_notFirst hK ?zy ?zz; (case zy => k_is); (case zz => kernel_rfl)); (case y_f_dict => refine' Sl.sm_notFirst hK ?zy ?zz; (case zy => k_is); (case zz => kernel_rfl)))
    (case ne => refine' Sl.sm_findIn hK ?zy ?zz; (case zy => k_is); (case zz => kernel_rfl))
    (case hm => refine' Sl.sm_mroIn hK ?zy ?zz; (case zy => k_is); (case zz => kernel_rfl))
    (case r1 => refine' Sl.sm_readsIn hK ?zy ?zz; (case zy => kernel_rfl); (case zz => kernel_rfl))
    (case r2 => refine' Sl.sm_specialIn hK ?zy ?zz; (case zy => k_is); (case zz => kernel_rfl))
    (case r3 => refine' Sl.sm_findCls hK ?zy ?zz; (case zy => kernel_rfl); (case zz => kernel_rfl))
    (case sys0 => refine' Sl.sys_of ?x_sys; (case x_sys => refine' Sl.sm_lookup hK ?zy ?zz; (case zy => k_is); (case zz => kernel_rfl)))
    (case pd => decide)
    (case z_isinstance => refine' Sl.sm_nsIn hK ?zy ?zz; (case zy => k_is); (case zz => kernel_rfl))
    (case z_int => refine' Sl.sm_nsIn hK ?zy ?zz; (case zy => k_is); (case zz => kernel_rfl))
    (case z_bool => refine' Sl.sm_nsIn hK ?zy ?zz; (case zy => k_is); (case zz => kernel_rfl))
    (case z_list => refine' Sl.sm_nsIn hK ?zy ?zz; (case zy => k_is); (case zz => kernel_rfl))
    (case z_tuple => refine' Sl.sm_nsIn hK ?zy ?zz; (case zy => k_is); (case zz => kernel_rfl))
    (case z_len => refine' Sl.sm_nsIn hK ?zy ?zz; (case zy => k_is); (case zz => kernel_rfl))
    (case z_all => refine' Sl.sm_nsIn hK ?zy ?zz; (case zy => k_is); (case zz => kernel_rfl))
    (case z_any => refine' Sl.sm_nsIn hK ?zy ?zz; (case zy => k_is); (case zz => kernel_rfl))
    (case z_set => refine' Sl.sm_nsIn hK ?zy ?zz; (case zy => k_is); (case zz => kernel_rfl))
    (case z_str => refine' Sl.sm_nsIn hK ?zy ?zz; (case zy => k_is); (case zz => kernel_rfl))
    (case z_dict => refine' Sl.sm_nsIn hK ?zy ?zz; (case zy => k_is); (case zz => kernel_rfl))
    (case z_sorted => refine' Sl.sm_nsIn hK ?zy ?zz; (case zy => k_is); (case zz => kernel_rfl))
    (case z_enumerate => refine' Sl.sm_nsIn hK ?zy ?zz; (case zy => k_is); (case zz => kernel_rfl))
    (case z_divmod => refine' Sl.sm_nsIn hK ?zy ?zz; (case zy => k_is); (case zz => kernel_rfl))
    (case z_range => refine' Sl.sm_nsIn hK ?zy ?zz; (case zy => k_is); (case zz => kernel_rfl))
    (case z_max => refine' Sl.sm_nsIn hK ?zy ?zz; (case zy => k_is); (case zz => kernel_rfl))
    (case z_min => refine' Sl.sm_nsIn hK ?zy ?zz; (case zy => k_is); (case zz => kernel_rfl))
    (case z_abs => refine' Sl.sm_nsIn hK ?zy ?zz; (case zy => k_is); (case zz => kernel_rfl))
    (case z_repr => refine' Sl.sm_nsIn hK ?zy ?zz; (case zy => k_is); (case zz => kernel_rfl))
    (case z_zip => refine' Sl.sm_nsIn hK ?zy ?zz; (case zy => k_is); (case zz => kernel_rfl))
    (case z_reversed => refine' Sl.sm_nsIn hK ?zy ?zz; (case zy => k_is); (case zz => kernel_rfl))
#print axioms PySem.Challenge.cw_sealedslots_k23_whole_equal_and_within_holds
