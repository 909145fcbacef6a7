import PyProof.Rows.All
import Wide.All
import OpenK.AllK
import Wide.FinOn
import HandS.ForMost
import HandS.Wide
import HandS.WideBits
import HandS.Set
import HandS.Strs
import HandS.SetBool
import HandS.SetTxt0
import HandS.IsInst
import HandS.Zip
import HandS.Walk
import HandS.More
import HandS.DictComp
import HandS.Defaults
import HandS.Property
import HandS.Evl
import PyProof.ListStr
import HandS.NoneIn
import PyProof.Draws
import PyProof.EnumMake
import HandS.Exc
import HandS.ExcInit
import KE.KExcSuper
import KE.KSuper
import HandS.Nested
import HandS.RaiseOp
import KE.KExcInit
import HandS.TryMany
import PyProof.ReprRoads
import HandS.RaiseMore
import HandS.WordsExc
import KE.KExcIs
import KE.KIsAll
import HandS.ExcIs
import HandS.ExcField
import HandS.MakeKwOnly
import HandS.ExcOwn
import PyProof.ReprBulk
import HandS.MakeKw
import HandS.Ends
import KE.RegKSuper
import KE.RegKIsAll
import KE.RegKTryMore
import OpenK.XHead
import PySem.Challenge.RW_sealedslots_k13_readings
/-! ## D1 -/
set_option Elab.async false
set_option linter.all false
set_option maxRecDepth 100000
set_option maxHeartbeats 4000000
namespace Sl
open PySem PySem.Spec PyProof.Rows L2
def top (i : Nat) : Stmt := PySem.Challenge.pw_sealedslots_k13_readings.main.body.getD i (.Pass ⟨0, 0, 0, 0⟩)
abbrev sDraw : Stmt := top 34
abbrev sRng : Stmt := top 33
abbrev sChoice : Stmt := top 35
/-! ### the draws -/
/-- what a drawing object looks like: its digits that are left, its state -/
structure Rng (H : Hp) (a : Addr) : Prop where
  ex : ∃ x y : Int, H a = some (.lst [.int x, .int y]) ∧ 0 ≤ x ∧ 0 ≤ y ∧ y < 2147483648
/-- all stands as it was but what is at a -/
def Keep (a : Addr) (H H' : Hp) : Prop := ∀ b o, H b = some o → b ≠ a → H' b = some o
theorem Keep.refl (a : Addr) (H : Hp) : Keep a H H := fun _ _ h _ => h
theorem Keep.trans {a : Addr} {H H1 H2 : Hp} (h : Keep a H H1) (h' : Keep a H1 H2) : Keep a H H2 := fun b o e n => h' b o (h b o e n) n
theorem Keep.new {a p : Addr} {H : Hp} {o : HO} (h : H p = none) : Keep a H (upd H p o) := fun b u e _ => by
  rw [upd_ne (ne_of_none e h)]
  exact e
theorem Keep.at_ {a : Addr} {H : Hp} {o : HO} : Keep a H (upd H a o) := fun b u e n => by
  rw [upd_ne n]
  exact e
/-- the draw's promise: a number below many -/
def spDraw : Sp := fun vs H Q _ => ∃ (a : Addr) (m : Int), vs = [.ref a, .int m] ∧ Rng H a ∧ 0 < m ∧ m < 1073741824 ∧
  ∀ (d : Int) (H' : Hp), 0 ≤ d → d < m → Rng H' a → Keep a H H' → Q (.int d) H'
section
variable {P : Program} {w : World} {K : PySem.W.Frag} {mg : Str → Option Value} {base : Heap}
theorem scDraw : FnScope ["_law_rng_here", "_law_many", "_law_digit"] ["_law_rng_here", "_law_many"] (defScope sDraw) := ⟨rfl, rfl, rfl, by decide +kernel, rfl, by decide +kernel, by decide +kernel⟩
theorem ok_draw {f : Addr} {fd : FuncData} (F : Fun K "_law_draw" "_law_draw" sDraw f fd) (zd : mg "divmod" = none) (zi : mg "int" = none) :
    FnOk P w K mg base CX0 1 f fd ["_law_rng_here", "_law_many"] spDraw := by
  refine F.ok scDraw (fun vs H Q E h => ?_) (fun cdv A outer s H vs Q E hr h => ?_)
  · obtain ⟨a, m, rfl, _⟩ := h
    rfl
  · obtain ⟨a, m, rfl, ⟨x, y, h0, hx, hy, hy2⟩, hm, hm2, k⟩ := h
    refine ⟨_, pss_cons (ps_if (pt_cmpR op_gt (pe_ix ix_list (pv 0) pe_int (fun _ _ => rfl)) pe_int (nomark _))
        (pss_cons (ps_asg (pe_callB call_divmodW (by rfl) zd (by decide +kernel) (pa_cons (pe_ix ix_list (pv 0) pe_int (fun _ _ => rfl)) (pa_cons (pv 1) pa_nil)))
          (pg_tup (by rfl) (pgs_cons (pg_sub (pv 0) pe_int set_list) (pgs_cons (pg_name (i := 2) scDraw.nd rfl (.inl rfl)) pgs_nil))))
          (pss_one (ps_ret (pv 2)))) pss_nil)
      (pss_cons (ps_asg (pe_op op_mod (pe_callTy call_int1 (by rfl) zi (by decide +kernel) (pa_cons (pe_op op_add (pe_op op_mul (pe_ix ix_list (pv 0) pe_int (fun _ _ => rfl)) pe_int) pe_int) pa_nil)) pe_int) (pg_sub (pv 0) pe_int set_list))
      (pss_one (ps_ret (pe_op op_mod (pe_op op_fdiv (pe_op op_mod (pe_callTy call_int1 (by rfl) zi (by decide +kernel) (pa_cons (pe_op op_mul (pe_ix ix_list (pv 0) pe_int (fun _ _ => rfl)) (pe_ix ix_list (pv 0) pe_int (fun _ _ => rfl))) pa_nil)) pe_int) pe_int) (pv 1))))), ?_⟩
    refine ⟨_, rfl, a, [.int x, .int y], _, .int x, rfl, rfl, SqL.of h0, atI_nat (j := 0) rfl, _, _, rfl, rfl, _, rfl, ?_⟩
    refine ite2 (fun c => ?_) (fun c => ?_)
    · refine ⟨_, rfl, a, [.int x, .int y], _, .int x, rfl, rfl, SqL.of h0, atI_nat (j := 0) rfl, _, rfl, _, _, rfl, ⟨hm, PyProof.noPylong_small (by omega)⟩, fun p hp => ?_⟩
      have npa : a ≠ p := ne_of_none h0 hp
      refine ⟨p, _, rfl, SqT.of upd_same, rfl, _, _, rfl, ?_⟩
      refine ⟨_, rfl, a, [.int x, .int y], _, 0, rfl, rfl, (by rw [upd_ne npa]; exact h0), rfl, ?_⟩
      refine ⟨_, _, rfl, rfl, _, rfl, ?_⟩
      refine k (x % m) _ (Int.emod_nonneg _ (by omega)) (Int.emod_lt_of_pos _ hm) ⟨x / m, y, upd_same, Int.ediv_nonneg hx (by omega), hy, hy2⟩ ((Keep.new hp).trans Keep.at_)
    · have hz : (0 : Int) < 2147483563 := by decide
      refine ⟨_, rfl, a, [.int x, .int y], _, .int y, rfl, rfl, SqL.of h0, atI_nat (j := 1) rfl, _, _, rfl, rfl, .inr ⟨by decide, by decide⟩, _, _, rfl, rfl, .inl ⟨_, rfl, ?_⟩⟩
      refine ⟨_, _, rfl, rfl, hz, _, rfl, a, _, _, 1, rfl, rfl, h0, rfl, ?_⟩
      obtain ⟨z, ez, b0, b1⟩ : ∃ z, z = (y * 39373 + 30011) % 2147483563 ∧ 0 ≤ z ∧ z < 2147483563 := ⟨_, rfl, Int.emod_nonneg _ (by decide), Int.emod_lt_of_pos _ hz⟩
      have h1 : upd H a (.lst [V.int x, V.int ((y * 39373 + 30011) % 2147483563)]) a = some (.lst [V.int x, V.int z]) := by
        rw [ez]
        exact upd_same
      refine ⟨_, rfl, a, [.int x, .int z], _, .int z, rfl, rfl, SqL.of h1, atI_nat (j := 1) rfl, _, rfl, a, [.int x, .int z], _, .int z, rfl, rfl, SqL.of h1, atI_nat (j := 1) rfl, _, _, rfl, rfl, .inl ⟨by omega, by omega⟩, .inl ⟨_, rfl, ?_⟩⟩
      refine ⟨_, _, rfl, rfl, (by show (0 : Int) < 2147483497; decide), _, _, rfl, rfl, ⟨by decide, by decide⟩, _, rfl, _, _, rfl, rfl, hm, ?_⟩
      exact k _ _ (Int.emod_nonneg _ (by omega)) (Int.emod_lt_of_pos _ hm) ⟨x, z, h1, hx, b0, by omega⟩ Keep.at_
end
end Sl
/-! ## S1 -/
set_option Elab.async false
set_option linter.all false
set_option maxRecDepth 100000
set_option maxHeartbeats 4000000
/-! ### sets of texts that can be walked: made, added to, sorted -/
namespace TxS
open PySem PySem.Spec PyProof.Rows L2 PySem.Froz
/-- the texts l, each once, are the set at a; its table can be walked -/
def SetS (P : Program) (w : World) (h : Heap) (a : Addr) (l : List Str) : Prop :=
  ∃ D : SD, h.get? a = some (sObj "set" D) ∧ TxOk P w D l ∧ (Ris D.2.2.place.toList ∧ (w.params.followText "set-order" = true ∨ D.2.2.led = true)) ∧ l.Nodup
theorem addTx_walk {w : World} {D : SD} {x : Int} {v : Value} (r : Ris D.2.2.place.toList ∧ (w.params.followText "set-order" = true ∨ D.2.2.led = true)) :
    Ris (addTx x v D).2.2.place.toList ∧ (w.params.followText "set-order" = true ∨ (addTx x v D).2.2.led = true) := by
  have r1 := layNew_ris D.2.2 D.1 x v r.1
  have r2 := layNew_led D.2.2 D.1 x v
  unfold addTx
  generalize layNew D.2.2 D.1 x v = Z at r1 r2
  obtain ⟨es1, t1, wd, gv⟩ := Z
  dsimp only at r1 r2 ⊢
  have r3 : Ris (if t1.plain = true then { t1 with plain := false } else t1).place.toList ∧ (if t1.plain = true then { t1 with plain := false } else t1).led = D.2.2.led := by
    by_cases c : t1.plain = true
    · rw [if_pos c]
      exact ⟨r1, r2⟩
    · rw [if_neg c]
      exact ⟨r1, r2⟩
  generalize (if t1.plain = true then { t1 with plain := false } else t1) = t2 at r3
  unfold tailTx
  split
  · exact ⟨relayAll_ris _ _ _, r.2.imp id fun z => by
      show (relayAll t2 es1 (SetTable.grown es1.size)).2.1.led = true
      rw [relayAll_led, r3.2]
      exact z⟩
  · exact ⟨r3.1, r.2.imp id fun z => by
      show t2.led = true
      rw [r3.2]
      exact z⟩
theorem SetS.later {P : Program} {w : World} {h h' : Heap} {a : Addr} {l : List Str} (R : SetS P w h a l) (k : ∀ o, h.get? a = some o → h'.get? a = some o) : SetS P w h' a l := by
  obtain ⟨D, e, r⟩ := R
  exact ⟨D, k _ e, r⟩
theorem SetS.fresh (P : Program) (w : World) {h : Heap} : SetS P w (h.push { cls := .type "set", dict := none, data := .set #[] 0 (.fresh 0 0 (!w.params.followText "set-order")) }) h.objs.size [] := by
  refine ⟨(#[], 0, .fresh 0 0 (!w.params.followText "set-order")), Heap.get?_push_size _ rfl, TxOk.nil (by rfl), ⟨List.Pairwise.nil, ?_⟩, List.nodup_nil⟩
  show _ ∨ (!w.params.followText "set-order") = true
  cases w.params.followText "set-order"
  · exact .inr rfl
  · exact .inl rfl
/-- the values of the table are the texts, in some order -/
theorem strs_all {P : Program} {w : World} : ∀ (vs : List Value), (∀ v ∈ vs, ∃ k : Str, (strKind P w).is k v = true) → ∃ ws, StrsAre vs ws
  | [], _ => ⟨[], .nil⟩
  | v :: vs, h => by
    obtain ⟨k, hk⟩ := h v List.mem_cons_self
    obtain ⟨ws, q⟩ := strs_all vs fun u hu => h u (List.mem_cons_of_mem _ hu)
    have e : Value.isStrOf k v = true := hk
    cases v with
    | str x u => exact ⟨x :: ws, .cons x u q⟩
    | _ => simp [Value.isStrOf] at e
theorem strs_mem {P : Program} {w : World} : ∀ {vs : List Value} {ws : List Str}, StrsAre vs ws → ∀ k : Str, k ∈ ws ↔ ∃ v ∈ vs, (strKind P w).is k v = true
  | _, _, .nil, k => by simp
  | _, _, .cons x u r, k => by
    rw [List.mem_cons, strs_mem (P := P) (w := w) r k]
    constructor
    · rintro (rfl | ⟨v, hv, z⟩)
      · exact ⟨_, List.mem_cons_self, is_str k u⟩
      · exact ⟨v, List.mem_cons_of_mem _ hv, z⟩
    · rintro ⟨v, hv, z⟩
      rcases List.mem_cons.mp hv with e | e
      · rw [e] at z
        exact .inl ((strKind P w).inj (.str x u) k x z (is_str x u))
      · exact .inr ⟨v, e, z⟩
theorem strs_len : ∀ {vs : List Value} {ws : List Str}, StrsAre vs ws → ws.length = vs.length
  | _, _, .nil => rfl
  | _, _, .cons _ _ r => congrArg (· + 1) (strs_len r)
/-- as many as the members, all members among them: each once -/
theorem perm_of_all : ∀ {l ws : List Str}, l.Nodup → (∀ k ∈ l, k ∈ ws) → ws.length = l.length → ws.Perm l
  | [], ws, _, _, e => by
    rw [List.eq_nil_of_length_eq_zero e]
  | x :: l, ws, nd, h, e => by
    obtain ⟨nx, nd'⟩ := List.nodup_cons.mp nd
    have hx := h x List.mem_cons_self
    have p := List.perm_cons_erase hx
    have hl : (ws.erase x).length = l.length := by
      have q := p.length_eq
      rw [List.length_cons] at q e
      omega
    exact p.trans ((perm_of_all nd' (fun k hk => (List.mem_erase_of_ne (fun z => nx (by rw [← z]; exact hk))).mpr (h k (List.mem_cons_of_mem _ hk))) hl).cons x)
theorem texts_of {P : Program} {w : World} {es : Array (Int × Value)} {ep : Nat} {t : SetTable} {l : List Str} {vs : List Value} (nd : l.Nodup) (G : TxOk P w (es, ep, t) l) (pm : vs.Perm (es.toList.map (·.2))) :
    ∃ ws, StrsAre vs ws ∧ ws.Perm l := by
  obtain ⟨ws, q⟩ := strs_all (P := P) (w := w) vs fun v hv => by
    obtain ⟨e, he, z⟩ := List.mem_map.mp (pm.mem_iff.mp hv)
    obtain ⟨⟨k, hk, _⟩, _⟩ := G.el e he
    exact ⟨k, by rw [← z]; exact hk⟩
  refine ⟨ws, q, perm_of_all nd (fun k hk => ?_) ?_⟩
  · revert hk
    refine (show k ∈ ws ↔ k ∈ l from ?_).mpr
    rw [strs_mem (P := P) (w := w) q k, G.mem k]
    constructor
    · rintro ⟨v, hv, z⟩
      obtain ⟨e, he, y⟩ := List.mem_map.mp (pm.mem_iff.mp hv)
      exact ⟨e, he, by rw [y]; exact z⟩
    · rintro ⟨e, he, z⟩
      exact ⟨e.2, pm.mem_iff.mpr (List.mem_map.mpr ⟨e, he, rfl⟩), z⟩
  · rw [strs_len q, pm.length_eq, List.length_map, Array.length_toList]
    exact G.sz
section
variable {P : Program} {w : World} {A : Around} {E : Value → Shared → Prop} {s : Shared} {a : Addr} {l : List Str}
/-- a text that is there already -/
theorem there_x {D : SD} {k : Str} {u : Tok} {Q : Bool → Shared → Prop} (ho : s.heap.get? a = some (sObj "set" D)) (F : TxOk P w D l) (hk : k ∈ l) (hb : l.length < scanBound)
    (h : Q false s) : wpAny (model P w) A (setAddHashed a (.str k u) (hashStr w k)) Q E s := by
  obtain ⟨es, ep, t⟩ := D
  have hd : (sObj "set" (es, ep, t)).data = .set es ep t := rfl
  have hf : t.fits es.size = true := F.fit
  have hel : ElemsOf (strKind P w) es.toList := F.el
  have hb0 : es.size < scanBound := by
    have q : es.size = l.length := F.sz
    omega
  unfold setAddHashed setAddHashedIn
  refine wpAny_holding (wpAny_bind (wpAny_setState_of ho hd hf ?_))
  dsimp only
  rw [byScan_of rfl hb0 hel]
  simp only [↓reduceIte]
  unfold setAddByScan
  refine wpAny_bind (wpAny_bind (wpAny_rule (wpAny_bind (wpAny_setScan_of (knd := strKind P w) (k := k) (is_str k u) ho hd hf hel ?_))))
  cases hr : List.findIdx? (fun e => (strKind P w).is k e.2) es.toList with
  | some j =>
    dsimp only
    exact wpAny_pure (wpAny_pure h)
  | none =>
    obtain ⟨e, he, q⟩ := (F.mem k).mp hk
    have c := List.findIdx?_eq_none_iff.mp hr e he
    rw [q] at c
    cases c
theorem setS_add {k : Str} {u : Tok} {Q : Value → Shared → Prop} (R : SetS P w s.heap a l) (room : l.length + 1 < scanBound)
    (hQ : ∀ h', Heap.SameBut a s.heap h' → SetS P w h' a (if k ∈ l then l else k :: l) → Q .none { s with heap := h', toks := s.toks + 1 }) :
    wpAny (model P w) A (call (.builtin "set.add") [.ref a, .str k u]) Q E s := by
  obtain ⟨D, ho, G, r, nd⟩ := R
  refine wpAny_call_entry F.slot_set_add ⟨_, ho, rfl⟩ F.entry_set_add ?_ (F.args_set_add_2 _ _)
  unfold Builtin.«set.add» Builtin.Frozenset.oneOther
  simp only [List.isEmpty_nil, bind_assoc]
  unfold Builtin.Frozenset.addrOf setAdd
  refine wpAny_bind (wpAny_pure ?_)
  try dsimp only
  refine wpAny_bind (wpAny_pure ?_)
  try dsimp only
  refine wpAny_bind (wpAny_holding (wpAny_bind ((strKind P w).pyHash (is_str k u) ?_)))
  by_cases c : k ∈ l
  · refine there_x (s := { s with toks := s.toks + 1 }) ho G c (by omega) ?_
    refine wpAny_pure ⟨_, rfl, hQ s.heap (Heap.SameBut.refl a s.heap) ?_⟩
    rw [if_pos c]
    exact ⟨D, ho, G, r, nd⟩
  · refine add_x (s := { s with toks := s.toks + 1 }) ho G c room ?_
    refine wpAny_pure ⟨_, rfl, hQ _ ?_ ?_⟩
    · exact Heap.SameBut.update ..
    · rw [if_neg c]
      exact ⟨_, get_upd _ ho rfl, add_ok u G, addTx_walk r, List.nodup_cons.mpr ⟨c, nd⟩⟩
/-- sorted(set): ascending -/
theorem sorted_setS {Q : Value → Shared → Prop} (R : SetS P w s.heap a l) (hh : A.handled = none) (h64 : l.length < 64)
    (hQ : ∀ s' p (out : Array Value) (c : Nat) (ys : List Str), (∀ b o, s.heap.get? b = some o → s'.heap.get? b = some o) → s'.gens = s.gens → s'.os = s.os → s.heap.objs.size ≤ p →
      s'.heap.get? p = some (seqObj "list" out c) → StrsAre out.toList ys → sortedS ys = true → ys.Perm l → Q (.ref p) s') :
    wpAny (model P w) A (call (.builtin "sorted") [.ref a]) Q E s := by
  obtain ⟨D, ho, G, r, nd⟩ := R
  obtain ⟨es, ep, t⟩ := D
  have hsz : es.size = l.length := G.sz
  have hb : es.size < scanBound := by
    unfold scanBound
    omega
  refine Calls.call_function_entry kind_sorted plain_sorted entry_sorted (args_sorted1 _) ?_
  unfold Builtin.«sorted»
  refine wpAny_bind (m := checkCount "sorted" 1 1 _) (wpAny_pure ?_)
  refine wpAny_bind (collect_set (A := A.in1) hh ⟨_, ho, rfl, rfl⟩ G.fit hb r.1 r.2 fun s1 vs k1 hz g1 o1 pm => ?_)
  obtain ⟨ws, hws, pw⟩ := texts_of (P := P) (w := w) nd G pm
  have hvl : vs.length = l.length := by rw [pm.length_eq, List.length_map, Array.length_toList, hsz]
  refine wpAny_bind (wpAny_newList ?_ (by rw [hvl, sizeLine_eq]; omega))
  have hoL : (s1.heap.push (seqObj "list" vs.toArray 0)).get? s1.heap.objs.size = some (seqObj "list" vs.toArray 0) := Heap.get?_push_size _ rfl
  refine wpAny_bind (wpAny_holding (wpAny_call_entry slot_list_sort ⟨_, hoL, rfl⟩ entry_list_sort (list_sort_treeK strKind_oneLt hoL hws.keysOf (fun v₁ v₂ rest e => keyKind_strs (by rw [← e]; exact hws)) (by rw [hvl]; exact h64) fun st' hp hs => ⟨_, rfl, ?_⟩) (args_list_sort _)))
  obtain ⟨ys, q1, q2, q3⟩ := sorted_out_str hws hp hs
  obtain ⟨c, hc⟩ := sortedHeap_at (vs := vs) (out := (arrOf st').map (·.2)) hoL
  refine wpAny_pure ⟨_, rfl, hQ _ s1.heap.objs.size _ c ys (fun b u e => ?_) g1 o1 hz hc q1 q3 (q2.trans pw)⟩
  have q := k1 b u e
  have hlt := Heap.lt_size q
  show (sortedHeap (s1.heap.push (seqObj "list" vs.toArray 0)) s1.heap.objs.size vs ((arrOf st').map (·.2))).get? b = some u
  rw [sortedHeap_old (Nat.ne_of_lt hlt) (by rw [size_push']; exact Nat.lt_succ_of_lt hlt)]
  exact Heap.get?_push_of_some _ q
end
/-! ### over the layer -/
def SetSO (P : Program) (w : World) (a : Addr) (l : List Str) : HO := .ext fun h => SetS P w h a l
theorem setSO_new {w : World} {P : Program} {H : Hp} {h : Heap} {a : Addr} {l : List Str} (R : SetS P w h a l) : ObjOk P w H h a (SetSO P w a l) := by
  have ⟨D, ho, _⟩ := R
  exact ⟨R, ⟨_, ho⟩, fun h1 h2 p k => SetS.later p k⟩
section
variable {X : Cx}
theorem setSO_get {pins : List (Addr × Obj)} {σ : L2.St} {H : Hp} {s : Shared} {a : Addr} {l : List Str} (I : Inv X pins σ H s) (ha : H a = some (SetSO X.prog X.w a l)) : SetS X.prog X.w s.heap a l := (I.hok a _ ha).1
/-- one more text for the set at D -/
theorem addS_ok {pins : List (Addr × Obj)} {σ : L2.St} {H : Hp} {s : Shared} {A : Around} {E : Value → Shared → Prop} {D : Addr} {l : List Str} {k : Str} {u : Tok} {Q : Value → Shared → Prop} (I : Inv X pins σ H s) (hD : H D = some (SetSO X.prog X.w D l)) (room : l.length + 1 < scanBound)
    (h : ∀ s', Inv X pins σ (upd H D (SetSO X.prog X.w D (if k ∈ l then l else k :: l))) s' → Q .none s') : wpAny (model X.prog X.w) A (call (.builtin "set.add") [.ref D, .str k u]) Q E s := by
  refine setS_add (setSO_get I hD) room fun h' sb new => h _ ?_
  have he : ∃ o, h'.get? D = some o := by
    have ⟨_, ho, _⟩ := new
    exact ⟨_, ho⟩
  exact I.write (e := D) (t' := s.toks + 1) (by rw [hD]; trivial) (.inl rfl) (fun b u hb hu => (sb.2 b hb).trans hu) he (setSO_new new)
/-- sorted(a set of texts) -/
def rSortedTx (P : Program) (w : World) : List V → Hp → VK → Prop := fun vs H Q => ∃ (a : Addr) (l : List Str), vs = [V.ref a] ∧ H a = some (SetSO P w a l) ∧ l.length < 64 ∧
  ∀ (ys : List Str) (p : Addr), ys.Perm l → sortedS ys = true → H p = none → Q (.ref p) (upd H p (.lst (ys.map V.str)))
theorem cr_sortedTx (hc : X.calm = true) : CallR X (.builtin "sorted") (rSortedTx X.prog X.w) := by
  intro pins s σ H vs us Q I r h
  obtain ⟨a, l, rfl, ha, h64, q⟩ := h
  have R := setSO_get I ha
  rw [Vals.ref1 r]
  refine sorted_setS R (I.ok.hd hc) h64 fun s' p out c ys k g o hp hg hi hs pm => ?_
  have hlen : (ys.map V.str).length ≤ sizeLine := by rw [List.length_map, pm.length_eq, sizeLine_eq]; omega
  have hn : H p = none := I.hok.fresh hp
  have J : Inv X pins σ (upd H p (.lst (ys.map V.str))) { s with heap := s'.heap, gens := s'.gens, drawn := s'.drawn, toks := s'.toks } :=
    I.call (ch := []) (Un.laid k hp hn) (I.hok.laid k hp ⟨hlen, out.toList, c, vals_of_strs hi, hg⟩) (by rw [g]; exact I.bare) (fun _ z => nomatch z)
  obtain ⟨s'h, s'g, s'd, s't, s'o⟩ := s'
  have e : s'o = s.os := o
  subst e
  exact ⟨.ref p, _, J, rfl, q ys p pm hs hn⟩
end
end TxS
/-! ## S2 -/
set_option Elab.async false
set_option linter.all false
set_option maxRecDepth 100000
set_option maxHeartbeats 4000000
/-! ### {elt for a in xs if .. for b in ys if ..}, elt a text -/
namespace TxS
open PySem PySem.Spec PyProof.Rows L2 PySem.Froz
/-- the set comprehension of two clauses -/
abbrev SC2 (elt t0 i0 t1 i1 : Expr) (f0 f1 : List Expr) (scope : Scope) (pos : Pos) : Expr := .SetComp elt [⟨t0, i0, f0, 0⟩, ⟨t1, i1, f1, 0⟩] scope pos
theorem sc2_turn0 (elt t0 i0 t1 i1 : Expr) (f0 f1 : List Expr) (scope : Scope) (pos : Pos) (it acc : Value) (env : Env) :
    compTurn (SC2 elt t0 i0 t1 i1 f0 f1 scope pos) 0 it acc env = (do
      standAt i0.pos
      match ← pyNext it with
      | none => pure (.done .next)
      | some v =>
        letOwnedTupleGo t0 it v
        assign t0 env v
        let mut good := true
        for c in f0 do
          if good then good ← isTrue c env (eval c env)
        if good then
          let src ← eval i1 env
          standAt i1.pos
          let src ← foldedSetIterable i1 env src
          let _ ← runOwn (.compStart (SC2 elt t0 i0 t1 i1 f0 f1 scope pos) 1 (← holding [src] (pyIter src)) acc env) env
        again (.compLoop (SC2 elt t0 i0 t1 i1 f0 f1 scope pos) 0 it acc env)) := by rfl
theorem sc2_turn1 (elt t0 i0 t1 i1 : Expr) (f0 f1 : List Expr) (scope : Scope) (pos : Pos) (it acc : Value) (env : Env) :
    compTurn (SC2 elt t0 i0 t1 i1 f0 f1 scope pos) 1 it acc env = (do
      standAt i1.pos
      match ← pyNext it with
      | none => pure (.done .next)
      | some v =>
        letOwnedTupleGo t1 it v
        assign t1 env v
        let mut good := true
        for c in f1 do
          if good then good ← isTrue c env (eval c env)
        if good then
          (do let one ← eval elt env; standAt elt.pos; let _ ← call (.builtin "set.add") [acc, one])
        again (.compLoop (SC2 elt t0 i0 t1 i1 f0 f1 scope pos) 1 it acc env)) := by rfl
/-- what a clause's turn asks ahead of its end: the next item, its store, its tests -/
abbrev Clause (M : Model) (A : Around) (t : Expr) (fs : List Expr) (env : Env) (it : Value) (R : Result → Shared → Prop) (yes no : Shared → Prop) (s : Shared) : Prop :=
  wpAny M A (pyNext it) (fun r s₁ => match r with
    | none => R (.ok .next) s₁
    | some v => wpAny M A (letOwnedTupleGo t it v) (fun _ s₂ => wpAny M A (assign t env v) (fun _ s₃ =>
        wpAny M A (forIn fs true fun c r => if r = true then do let ok ← isTrue c env (eval c env); pure (ForInStep.yield ok) else pure (ForInStep.yield r)) (fun ok s₄ => if ok = true then yes s₄ else no s₄)
          (notedBy M A env fun e s' => R (.error e) s') s₃) (notedBy M A env fun e s' => R (.error e) s') s₂) (notedBy M A env fun e s' => R (.error e) s') s₁)
    (notedBy M A env fun e s' => R (.error e) s') s
section
variable {prog : Program} {w : World} {A : Around} {R : Result → Shared → Prop} {s : Shared} {elt t0 i0 t1 i1 : Expr} {f0 f1 : List Expr} {scope : Scope} {pos : Pos} {it acc : Value} {env : Env}
theorem sc2_loop0 (hs : ∀ x, foldedSetIterable i1 env x = pure x) (I : Nat → Shared → Prop)
    (turn : ∀ n s, I n s → Clause (model prog w) A t0 f0 env it R
      (fun s => wpAny (model prog w) A (eval i1 env) (fun x s => wpAny (model prog w) A (pyIter x) (fun j s =>
        codeAny (model prog w) A (.compStart (SC2 elt t0 i0 t1 i1 f0 f1 scope pos) 1 j acc env) (fun r s' => match r with
          | .ok _ => ∃ m, m < n ∧ I m s'
          | .error _ => False) s) (notedBy (model prog w) A env fun e s' => R (.error e) s') s) (notedBy (model prog w) A env fun e s' => R (.error e) s') s)
      (fun s => ∃ m, m < n ∧ I m s) s) (n : Nat) (h : I n s) :
    codeAny (model prog w) A (.compLoop (SC2 elt t0 i0 t1 i1 f0 f1 scope pos) 0 it acc env) R s := by
  refine codeAny_loop rfl I (fun n s hI => ?_) n h
  show wpAny _ A ((compTurn (SC2 elt t0 i0 t1 i1 f0 f1 scope pos) 0 it acc env).onRaise (fun x => do noteFrame x env; theTreesLotGoes x)) _ _ s
  refine wpAny_noted ?_
  rw [sc2_turn0]
  refine wpAny_bind (wpAny_standAt (wpAny_bind (wpAny_mono (turn n s hI) (fun r z1 k1 => ?_) fun _ _ k => k)))
  cases r with
  | none => exact wpAny_pure k1
  | some v =>
    refine wpAny_bind (wpAny_mono k1 (fun _ z2 k2 => wpAny_bind (wpAny_mono k2 (fun _ z3 k3 => wpAny_bind (wpAny_mono k3 (fun ok z4 k4 => ?_) fun _ _ k => k)) fun _ _ k => k)) fun _ _ k => k)
    cases ok with
    | false => exact wpAny_pure ⟨rfl, k4⟩
    | true =>
      refine wpAny_bind (wpAny_mono k4 (fun x z5 k5 => wpAny_bind (wpAny_standAt (wpAny_bind (wpAny_of_eq (hs x) (wpAny_bind (wpAny_holding (wpAny_mono k5 (fun j z6 k6 => ?_) fun _ _ k => k))))))) fun _ _ k => k)
      refine wpAny_bind (wpAny_runOwn ?_)
      rw [Around.mark_none]
      refine codeAny_mono k6 fun r s' hr => ?_
      cases r with
      | error e => exact hr.elim
      | ok f => first
          | exact wpAny_pure ⟨rfl, hr⟩
          | exact wpAny_bind (wpAny_pure (wpAny_pure ⟨rfl, hr⟩))
theorem sc2_loop1 (I : Nat → Shared → Prop)
    (turn : ∀ n s, I n s → Clause (model prog w) A t1 f1 env it R
      (fun s => wpAny (model prog w) A (eval elt env) (fun x s => wpAny (model prog w) A (call (.builtin "set.add") [acc, x]) (fun _ s => ∃ m, m < n ∧ I m s)
        (notedBy (model prog w) A env fun e s' => R (.error e) s') s) (notedBy (model prog w) A env fun e s' => R (.error e) s') s)
      (fun s => ∃ m, m < n ∧ I m s) s) (n : Nat) (h : I n s) :
    codeAny (model prog w) A (.compLoop (SC2 elt t0 i0 t1 i1 f0 f1 scope pos) 1 it acc env) R s := by
  refine codeAny_loop rfl I (fun n s hI => ?_) n h
  show wpAny _ A ((compTurn (SC2 elt t0 i0 t1 i1 f0 f1 scope pos) 1 it acc env).onRaise (fun x => do noteFrame x env; theTreesLotGoes x)) _ _ s
  refine wpAny_noted ?_
  rw [sc2_turn1]
  refine wpAny_bind (wpAny_standAt (wpAny_bind (wpAny_mono (turn n s hI) (fun r z1 k1 => ?_) fun _ _ k => k)))
  cases r with
  | none => exact wpAny_pure k1
  | some v =>
    refine wpAny_bind (wpAny_mono k1 (fun _ z2 k2 => wpAny_bind (wpAny_mono k2 (fun _ z3 k3 => wpAny_bind (wpAny_mono k3 (fun ok z4 k4 => ?_) fun _ _ k => k)) fun _ _ k => k)) fun _ _ k => k)
    cases ok with
    | false => exact wpAny_pure ⟨rfl, k4⟩
    | true => exact wpAny_bind (wpAny_bind (wpAny_mono k4 (fun x z5 k5 => wpAny_bind (wpAny_standAt (wpAny_bind (wpAny_mono k5 (fun _ z6 k6 => wpAny_pure (wpAny_pure ⟨rfl, k6⟩)) fun _ _ k => k)))) fun _ _ k => k))
/-- the start of either clause's loop -/
theorem sc2_start {d : Nat} (hd : d = 0 ∨ d = 1) (h0 : codeAny (model prog w) A (.compLoop (SC2 elt t0 i0 t1 i1 f0 f1 scope pos) d it acc env) R s)
    (h : wpAny (model prog w) A (pyIter it) (fun j s' => codeAny (model prog w) A (.compLoop (SC2 elt t0 i0 t1 i1 f0 f1 scope pos) d j acc env) R s') (notedBy (model prog w) A env fun x s' => R (.error x) s') s) :
    codeAny (model prog w) A (.compStart (SC2 elt t0 i0 t1 i1 f0 f1 scope pos) d it acc env) R s := by
  rcases hd with e | e <;> subst e <;> refine codeAny_of_tree ?_
  · show wpAny _ _ ((compStart (SC2 elt t0 i0 t1 i1 f0 f1 scope pos) 0 it acc env).onRaise (fun x => do noteFrame x env; standAt theWindowsPlace)) _ _ s
    refine wpAny_notedAt ?_
    unfold compStart
    show wpAny _ _ (ask >>= _) _ _ s
    refine wpAny_bind (wpAny_askSetting (wpAny_ite ?_))
    split
    · first | exact wpAny_pure (And.intro rfl h0) | exact wpAny_bind (wpAny_pure (wpAny_pure (And.intro rfl h0)))
    · exact wpAny_bind (wpAny_rule (wpAny_bind (wpAny_standAt (wpAny_bind (wpAny_mono h (fun j s' k => wpAny_pure (And.intro rfl k)) fun _ _ x => x)))))
  · show wpAny _ _ ((compStart (SC2 elt t0 i0 t1 i1 f0 f1 scope pos) 1 it acc env).onRaise (fun x => do noteFrame x env; standAt theWindowsPlace)) _ _ s
    refine wpAny_notedAt ?_
    unfold compStart
    show wpAny _ _ (ask >>= _) _ _ s
    refine wpAny_bind (wpAny_askSetting (wpAny_ite ?_))
    split
    · first | exact wpAny_pure (And.intro rfl h0) | exact wpAny_bind (wpAny_pure (wpAny_pure (And.intro rfl h0)))
    · exact wpAny_bind (wpAny_rule (wpAny_bind (wpAny_standAt (wpAny_bind (wpAny_mono h (fun j s' k => wpAny_pure (And.intro rfl k)) fun _ _ x => x)))))
end
end TxS
/-! ## S3 -/
set_option Elab.async false
set_option linter.all false
set_option maxRecDepth 100000
set_option maxHeartbeats 4000000
namespace TxS
open PySem PySem.Spec PyProof.Rows L2 PySem.Froz PpSet
section
variable {X : Cx}
/-- what a turn that is kept asks: a text, the set as it is at D, room for it -/
def Adds (P : Program) (w : World) (D : Addr) (Nx : Hp → Prop) : VK := fun y H => ∃ (k : Str) (l : List Str), y = .str k ∧ H D = some (SetSO P w D l) ∧ l.length + 1 < scanBound ∧ Nx (upd H D (SetSO P w D (if k ∈ l then l else k :: l)))
/-- {elt for a in xs if .. for b in ys if ..}: D the new set; vs: the block's names, vs1: those of the second clause -/
def tSc2 (P : Program) (w : World) (wi : TI) (g : TG) (tt : TT) (wi1 : TI) (g1 : TG) (tt1 : TT) (te : TE) (vs vs1 : List Nat) : TE := fun σ H Q => wi σ H fun J Ha => ∀ D, Ha D = none →
  ∃ W : Nat → Nat → Hp → Prop, (∃ m, W 0 m (upd Ha D (SetSO P w D []))) ∧ ∀ i m Hb, W i m Hb → (J.stop i Hb ∧ Q (.ref D) Hb) ∨
    (J.go i Hb ∧ ∃ Nx : Hp → Prop, (∀ Hc, Nx Hc → ∃ m', m' < m ∧ W (i + 1) m' Hc) ∧ ∀ x Hc, J.yld i Hb x Hc → g x (wipe σ vs) Hc fun σ2 Hd => wipe σ2 vs = wipe σ vs ∧ tt σ2 Hd fun b He =>
      if b = true then wi1 σ2 He fun J1 Hf => ∃ W1 : Nat → Nat → Hp → Prop, (∃ m, W1 0 m Hf) ∧ ∀ j k Hg, W1 j k Hg → (J1.stop j Hg ∧ Nx Hg) ∨
        (J1.go j Hg ∧ ∃ Nx1 : Hp → Prop, (∀ Hh, Nx1 Hh → ∃ k', k' < k ∧ W1 (j + 1) k' Hh) ∧ ∀ x Hh, J1.yld j Hg x Hh → g1 x (wipe σ2 vs1) Hh fun σ3 Hi => wipe σ3 vs1 = wipe σ2 vs1 ∧ tt1 σ3 Hi fun b Hj =>
          if b = true then te σ3 Hj (Adds P w D Nx1) else Nx1 Hj)
      else Nx He)
theorem pe_sc2 {elt t0 i0 t1 i1 : Expr} {f0 f1 : List Expr} {scope : Scope} {own : List (PySem.Str × Nat)} {vs1 : List Nat} {pos : Pos} {wi wi1 : TI} {g g1 : TG} {tt tt1 : TT} {te : TE} (hc : X.calm = true) (hN : X.N.Nodup) (hi : PI X t0 i0 wi) (ok : BlkOk X.N X.env.scope scope own) (hv : ∀ i ∈ vs1, i ∈ own.map (·.2))
    (hg : ∀ s H C cl fp, PG (X.blk s H scope (compEnvC scope cl C X.env) fp) t0 g) (ht : ∀ s H C cl fp, PTs (X.blk s H scope (compEnvC scope cl C X.env) fp) f0 tt)
    (hi1 : ∀ s H C cl fp, PI (X.blk s H scope (compEnvC scope cl C X.env) fp) t1 i1 wi1)
    (hg1 : ∀ s H C cl fp, PG (X.blk s H scope (compEnvC scope cl C X.env) fp) t1 g1) (ht1 : ∀ s H C cl fp, PTs (X.blk s H scope (compEnvC scope cl C X.env) fp) f1 tt1)
    (he : ∀ s H C cl fp, PE (X.blk s H scope (compEnvC scope cl C X.env) fp) elt te) (hs : ∀ x, foldedSetIterable i0 X.env x = pure x := by intro _; rfl) (hs1 : ∀ env x, foldedSetIterable i1 env x = pure x := by intro _ _; rfl) :
    PE X (SC2 elt t0 i0 t1 i1 f0 f1 scope pos) (tSc2 X.prog X.w wi g tt wi1 g1 tt1 te (own.map (·.2)) vs1) := by
  refine ⟨fun pins s σ H Q I h => ?_⟩
  rw [eval_SetComp]
  -- the block's free names are cells of the frame
  have hfree : ∀ y ∈ scope.names, y.2 = .free → ∃ c, X.env.cells.lookup y.1 = some c := fun y hy e => (ok.free y hy e).elim (fun k => I.ok.has _ (.inl k)) fun k => I.ok.has _ (.inr k)
  refine wpAny_comprehension_free rfl hs (closure_ok hfree) ok.kind (fun y hy e => by rw [ok.uniq y hy, e]) (thn (hi.run pins s σ H _ I h) fun xv s1 hx => thn hx fun itv s2 hz => ?_)
  obtain ⟨it, fp, tn, J, Ha, e, Ia, T, sta, fa, q⟩ := hz
  subst e
  refine newSet_ok (newEnv_comp ?_)
  generalize hD : s2.heap.objs.size = D
  have hDn : Ha D = none := Ia.hok.fresh (Nat.le_of_eq hD)
  obtain ⟨W, ⟨m0, w0⟩, turn⟩ := q D hDn
  -- the set is made
  generalize hsb : ({ s2 with heap := s2.heap.push { cls := .type "set", dict := none, data := .set #[] 0 (.fresh 0 0 (!X.w.params.followText "set-order")) } } : Shared) = sb
  have heb : sb.heap = s2.heap.push { cls := .type "set", dict := none, data := .set #[] 0 (.fresh 0 0 (!X.w.params.followText "set-order")) } := by rw [← hsb]
  have Ib : Inv X pins σ (upd Ha D (SetSO X.prog X.w D [])) sb := by
    rw [← hsb]
    exact Ia.laid (t' := s2.toks) (fun b o e => Heap.get?_push_of_some _ e) (Nat.le_of_eq hD) (by rw [← hD]; exact setSO_new (SetS.fresh X.prog X.w))
  have fb : ∀ b ∈ fp, FpOk X pins (upd Ha D (SetSO X.prog X.w D [])) b ∧ b < sb.heap.objs.size := fun b hb => by
    obtain ⟨o, eo, _⟩ := T.obj _ _ sta b hb
    have hlt := Heap.lt_size eo
    refine ⟨⟨?_, (fa b hb).2⟩, by rw [heb, Heap.size_push]; exact Nat.lt_succ_of_lt hlt⟩
    rw [upd_ne (by rw [← hD]; exact Nat.ne_of_lt hlt)]
    exact (fa b hb).1
  have stb : tn 0 sb.heap := T.keep _ _ _ sta fun b _ o e => by rw [heb]; exact Heap.get?_push_of_some _ e
  have Ic := block_start Ib ok hN fb
  have pg := hg sb (upd Ha D (SetSO X.prog X.w D [])) sb.heap.objs.size (cellsFrom (sb.heap.objs.size + 1) scope.names (cloFrom X.env.cells scope.names [])) fp
  have pt := ht sb (upd Ha D (SetSO X.prog X.w D [])) sb.heap.objs.size (cellsFrom (sb.heap.objs.size + 1) scope.names (cloFrom X.env.cells scope.names [])) fp
  have pe := he sb (upd Ha D (SetSO X.prog X.w D [])) sb.heap.objs.size (cellsFrom (sb.heap.objs.size + 1) scope.names (cloFrom X.env.cells scope.names [])) fp
  have pj := hi1 sb (upd Ha D (SetSO X.prog X.w D [])) sb.heap.objs.size (cellsFrom (sb.heap.objs.size + 1) scope.names (cloFrom X.env.cells scope.names [])) fp
  have pg' := hg1 sb (upd Ha D (SetSO X.prog X.w D [])) sb.heap.objs.size (cellsFrom (sb.heap.objs.size + 1) scope.names (cloFrom X.env.cells scope.names [])) fp
  have pt' := ht1 sb (upd Ha D (SetSO X.prog X.w D [])) sb.heap.objs.size (cellsFrom (sb.heap.objs.size + 1) scope.names (cloFrom X.env.cells scope.names [])) fp
  have nfp : ∀ b ∈ fp, (upd Ha D (SetSO X.prog X.w D [])) b = none := fun b hb => (fb b hb).1.1
  show codeAny _ _ (.compStart (SC2 elt t0 i0 t1 i1 f0 f1 scope pos) 0 (.ref it) (.ref D) (compEnvC scope (cellsFrom (sb.heap.objs.size + 1) scope.names (cloFrom X.env.cells scope.names [])) sb.heap.objs.size X.env)) _ { sb with heap := pushCells (sb.heap.push { cls := .type "dict", data := .dict #[] }) scope.names }
  generalize hce : compEnvC scope (cellsFrom (sb.heap.objs.size + 1) scope.names (cloFrom X.env.cells scope.names [])) sb.heap.objs.size X.env = ce at Ic pg pt pe pj pg' pt' ⊢
  have cL : ce.locals = sb.heap.objs.size := by subst hce; rfl
  generalize hHb : upd Ha D (SetSO X.prog X.w D []) = Hb at Ib Ic pg pt pe pj pg' pt' w0 nfp fb
  generalize hsc : ({ sb with heap := pushCells (sb.heap.push { cls := .type "dict", data := .dict #[] }) scope.names } : Shared) = sc at Ic ⊢
  have stc : tn 0 sc.heap := T.keep _ _ _ stb fun b _ o e => by rw [← hsc]; exact pushCells_keeps _ _ _ _ (Heap.get?_push_of_some _ e)
  have stat : ∀ {σ' : L2.St} {H' : Hp} {s' : Shared}, Inv (X.blk sb Hb scope ce fp) [] σ' H' s' → (∀ b ∈ fp, H' b = none) → ∀ b ∈ fp, FpOk (X.blk sb Hb scope ce fp) [] H' b := fun {σ' H' s'} I' hn b hb =>
    ⟨hn b hb, (I'.ok.exf b hb).1, I'.ok.exfs b hb, .inl hb, fun x c e => (I'.ok.exf b hb).2 x c e, fun p hp => absurd (show p ∈ ([] : List (Addr × Obj)) ++ [] from hp) (by simp)⟩
  refine sc2_start (.inl rfl) ?L (T.self X.A 0 _ _ _ stc ?L)
  refine sc2_loop0 (hs1 ce) (fun n s' => ∃ i H', Inv (X.blk sb Hb scope ce fp) [] (wipe σ (own.map (·.2))) H' s' ∧ tn i s'.heap ∧ (∀ b ∈ fp, H' b = none) ∧ W i n H') ?_ m0 ⟨0, Hb, Ic, stc, nfp, w0⟩
  rintro n s5 ⟨i, H5, I5, st5, n5, w5⟩
  rcases turn i n H5 w5 with ⟨stop, qq⟩ | ⟨go, Nx, hNx, step⟩
  · -- the end: back in the def's frame
    refine thnF (T.done (X.blk sb Hb scope ce fp) rfl rfl rfl hc i [] s5 _ H5 (fun _ _ => False) I5 (stat I5 n5) st5 stop) fun r s6 ⟨hr, I6⟩ => ?_
    subst hr
    have I7 : Inv X pins σ H5 s6 := Ib.call' (ch := fp) I6.os I6.base I6.hok I6.bare fun b hb => ⟨(fb b hb).1.2.2.2.1, (fb b hb).1.2.1, (fb b hb).1.2.2.2.2.1, (fb b hb).1.2.2.2.2.2⟩
    have nC : H5 sb.heap.objs.size = none := by
      have z : H5 ce.locals = none := I6.free
      rwa [cL] at z
    obtain ⟨m, hn, _⟩ := I6.loc
    have hn : s6.heap.Ns ce.locals m := hn
    rw [cL] at hn
    obtain ⟨a0, a1, a2, a3, a4, a5⟩ := Ib.fpOk (Nat.le_refl _) nC
    exact ⟨m, hn, fun h'' sb' => ⟨.ref D, H5, I7.turned (t' := s6.toks) (fun b o hb e => (sb'.2 b hb).trans e) a0 a1 a3 a4 a5, rfl, qq⟩⟩
  · refine thnF (T.item (X.blk sb Hb scope ce fp) rfl rfl rfl hc i [] s5 _ H5 (fun _ _ => False) I5 (stat I5 n5) st5 go) fun r s6 ⟨u, hr, h6⟩ => ?_
    subst hr
    refine thnF h6 fun _ s7 ⟨x, H7, I7, r7, y7, st7, n7⟩ => ?_
    refine thnF (pg.run _ s7 _ H7 x u _ (I7.pinned (stat I7 n7) (T.obj _ _ st7)) r7 (step x H7 y7)) fun _ s8 ⟨σ8, H8, I8, hw8, q8⟩ => thnF (pt.run _ s8 σ8 H8 _ I8 q8) fun b s9 ⟨H9, I9, q9⟩ => ?_
    -- a turn's end, whatever slots are known
    have fin : ∀ {σ9 : L2.St} {s' : Shared} {H' : Hp}, Inv (X.blk sb Hb scope ce fp) ([] ++ pinsAt fp s7.heap) σ9 H' s' → (wipe σ (own.map (·.2))).length = σ9.length → (∀ (j : Nat) v, (wipe σ (own.map (·.2)))[j]? = some (some v) → σ9[j]? = some (some v)) → Nx H' →
        ∃ m, m < n ∧ ∃ i H', Inv (X.blk sb Hb scope ce fp) [] (wipe σ (own.map (·.2))) H' s' ∧ tn i s'.heap ∧ (∀ b ∈ fp, H' b = none) ∧ W i m H' := fun {σ9 s' H'} I' hl hk nx => by
      obtain ⟨m', hm, w'⟩ := hNx H' nx
      have pin' : ∀ b ∈ fp, ∀ o, s7.heap.get? b = some o → s'.heap.get? b = some o ∧ H' b = none := fun b hb o e =>
        let z := I'.pin (b, o) (List.mem_append_right _ (List.mem_append_right _ (mem_pinsAt hb e)))
        ⟨z.1, z.2.1⟩
      exact ⟨m', hm, i + 1, H', (I'.unpinned (pins := [])).weak hl hk, T.keep _ _ _ st7 fun b hb o e => (pin' b hb o e).1, fun b hb => let ⟨o, eo, _⟩ := T.obj _ _ st7 b hb; (pin' b hb o eo).2, w'⟩
    have hl8 : (wipe σ (own.map (·.2))).length = σ8.length := by rw [← hw8, wipe_length]
    have hk8 : ∀ (j : Nat) v, (wipe σ (own.map (·.2)))[j]? = some (some v) → σ8[j]? = some (some v) ∧ j ∉ own.map (·.2) := fun j v e => by
      rw [← hw8] at e
      exact wipe_some e
    cases b with
    | false =>
      simp only [Bool.false_eq_true, if_false] at q9 ⊢
      exact fin I9 hl8 (fun j v e => (hk8 j v e).1) q9
    | true =>
      simp only [if_true] at q9 ⊢
      refine thnF (pj.run _ s9 σ8 H9 _ I9 q9) fun xv s10 hx => thnF hx fun itv s11 hz => ?_
      obtain ⟨jt, fq, tm, J1, H11, e1, I11, T1, st11, f11, W1, ⟨m1, w1⟩, turn1⟩ := hz
      subst e1
      have statq : ∀ {H' : Hp}, (∀ b ∈ fq, H' b = none) → ∀ b ∈ fq, FpOk (X.blk sb Hb scope ce fp) ([] ++ pinsAt fp s7.heap) H' b := fun hn b hb => ⟨hn b hb, (f11 b hb).2⟩
      refine sc2_start (.inr rfl) ?M (T1.self X.A 0 _ _ _ st11 ?M)
      refine sc2_loop1 (fun k s' => ∃ j H', Inv (X.blk sb Hb scope ce fp) ([] ++ pinsAt fp s7.heap) (wipe σ8 vs1) H' s' ∧ tm j s'.heap ∧ (∀ b ∈ fq, H' b = none) ∧ W1 j k H') ?_ m1 ⟨0, H11, I11.weak (wipe_length _ _) (fun j v e => (wipe_some e).1), st11, fun b hb => (f11 b hb).1, w1⟩
      rintro k s12 ⟨j, H12, I12, st12, n12, w12⟩
      rcases turn1 j k H12 w12 with ⟨stop1, nx1⟩ | ⟨go1, Nx1, hNx1, step1⟩
      · refine thnF (T1.done (X.blk sb Hb scope ce fp) rfl rfl rfl hc j _ s12 (wipe σ8 vs1) H12 (fun _ _ => False) I12 (statq n12) st12 stop1) fun r s13 ⟨hr, I13⟩ => ?_
        subst hr
        exact fin I13 (hl8.trans (wipe_length σ8 vs1).symm) (fun j v e => by
          obtain ⟨e1, e2⟩ := hk8 j v e
          rw [wipe_out fun z => e2 (hv j z)]
          exact e1) nx1
      · refine thnF (T1.item (X.blk sb Hb scope ce fp) rfl rfl rfl hc j _ s12 (wipe σ8 vs1) H12 (fun _ _ => False) I12 (statq n12) st12 go1) fun r s13 ⟨u1, hr, h13⟩ => ?_
        subst hr
        refine thnF h13 fun _ s14 ⟨x1, H14, I14, r14, y14, st14, n14⟩ => ?_
        refine thnF (pg'.run _ s14 (wipe σ8 vs1) H14 x1 u1 _ (I14.pinned (statq n14) (T1.obj _ _ st14)) r14 (step1 x1 H14 y14)) fun _ s15 ⟨σ15, H15, I15, hw15, q15⟩ => thnF (pt'.run _ s15 σ15 H15 _ I15 q15) fun b1 s16 ⟨H16, I16, q16⟩ => ?_
        have fin1 : ∀ {s' : Shared} {H' : Hp}, Inv (X.blk sb Hb scope ce fp) (([] ++ pinsAt fp s7.heap) ++ pinsAt fq s14.heap) σ15 H' s' → Nx1 H' →
            ∃ m, m < k ∧ ∃ j H', Inv (X.blk sb Hb scope ce fp) ([] ++ pinsAt fp s7.heap) (wipe σ8 vs1) H' s' ∧ tm j s'.heap ∧ (∀ b ∈ fq, H' b = none) ∧ W1 j m H' := fun {s' H'} I' nx => by
          obtain ⟨m', hm, w'⟩ := hNx1 H' nx
          have pin' : ∀ b ∈ fq, ∀ o, s14.heap.get? b = some o → s'.heap.get? b = some o ∧ H' b = none := fun b hb o e =>
            let z := I'.pin (b, o) (List.mem_append_right _ (List.mem_append_right _ (mem_pinsAt hb e)))
            ⟨z.1, z.2.1⟩
          exact ⟨m', hm, j + 1, H', I'.unpinned.weak (by rw [← hw15, wipe_length]) (fun j v e => by rw [← hw15] at e; exact (wipe_some e).1), T1.keep _ _ _ st14 fun b hb o e => (pin' b hb o e).1, fun b hb => let ⟨o, eo, _⟩ := T1.obj _ _ st14 b hb; (pin' b hb o eo).2, w'⟩
        cases b1 with
        | false =>
          simp only [Bool.false_eq_true, if_false] at q16 ⊢
          exact fin1 I16 q16
        | true =>
          simp only [if_true] at q16 ⊢
          refine thnF (pe.run _ s16 σ15 H16 _ I16 q16) fun z s17 ⟨yv, H17, I17, r17, k0, l0, ey, hD17, hz17, nx⟩ => ?_
          subst ey
          obtain ⟨u0, rfl⟩ := r17
          exact addS_ok (X := X.blk sb Hb scope ce fp) I17 hD17 hz17 fun s18 I18 => fin1 I18 nx
end
end TxS
/-! ## P1 -/
set_option Elab.async false
set_option linter.all false
set_option maxRecDepth 100000
set_option maxHeartbeats 4000000
namespace Sl
open PySem PySem.Spec PyProof.Rows L2
abbrev sIsInt : Stmt := top 8
abbrev sBelow : Stmt := top 9
abbrev sHasLen : Stmt := top 12
/-! ### the kinds of values -/
inductive Kd
  | non | bl | int | str | lst | tup | dct
def Kd.nm : Kd → String
  | .non => "NoneType" | .bl => "bool" | .int => "int" | .str => "str" | .lst => "list" | .tup => "tuple" | .dct => "dict"
/-- the value's kind -/
def Is (K : PySem.W.Frag) (H : Hp) (x : V) (k : Kd) : Prop := TyX K H x (.type k.nm)
def Kd.num : Kd → Bool
  | .int => true
  | _ => false
def spIsInt (K : PySem.W.Frag) : Sp := fun vs H Q _ => ∃ (x : V) (k : Kd), vs = [x] ∧ Is K H x k ∧ Q (.bl k.num) H
section
variable {P : Program} {w : World} {K : PySem.W.Frag} {mg : Str → Option Value} {base : Heap}
theorem rel_ty (n : String) : RelV (.ty n) (.type n) := rfl
theorem scIsInt : FnScope ["value"] ["value"] (defScope sIsInt) := ⟨rfl, rfl, rfl, by decide +kernel, rfl, by decide +kernel, by decide +kernel⟩
theorem ok_isint {f : Addr} {fd : FuncData} (F : Fun K "is_integer" "is_integer" sIsInt f fd) (zz : mg "isinstance" = none) (zi : mg "int" = none) (zb : mg "bool" = none) : FnOk P w K mg base CX0 1 f fd ["value"] (spIsInt K) := by
  refine F.ok scIsInt (fun vs H Q E h => ?_) (fun cdv A outer s H vs Q E hr h => ?_)
  · obtain ⟨x, k, rfl, _⟩ := h
    rfl
  · obtain ⟨x, k, rfl, hk, q⟩ := h
    refine ⟨_, pss_one (ps_ret (pe_and (pe_callB call_isi (by rfl) zz (by decide +kernel) (pa_cons (pv 0) (pa_cons (pe_bltn (by rfl) zi (by decide +kernel) (rel_ty "int")) pa_nil)))
      (pe_one (pe_not (pe_callB call_isi (by rfl) zz (by decide +kernel) (pa_cons (pv 0) (pa_cons (pe_bltn (by rfl) zb (by decide +kernel) (rel_ty "bool")) pa_nil))))))), ?_⟩
    cases k with
    | int => exact ⟨_, rfl, _, _, _, _, true, rfl, .ty _, hk, kit_ty (by decide +kernel), true, rfl, _, rfl, _, _, _, _, false, rfl, .ty _, hk, kit_ty (by decide +kernel), _, rfl, q⟩
    | bl => exact ⟨_, rfl, _, _, _, _, true, rfl, .ty _, hk, kit_ty (by decide +kernel), true, rfl, _, rfl, _, _, _, _, true, rfl, .ty _, hk, kit_ty (by decide +kernel), _, rfl, q⟩
    | _ => exact ⟨_, rfl, _, _, _, _, false, rfl, .ty _, hk, kit_ty (by decide +kernel), false, rfl, q⟩
end
end Sl
/-! ## P2 -/
set_option Elab.async false
set_option linter.all false
set_option maxRecDepth 100000
set_option maxHeartbeats 4000000
namespace Sl
open PySem PySem.Spec PyProof.Rows L2
/-- a def stands at its name: its parameters, its defaults -/
structure At (K : PySem.W.Frag) (mg : Str → Option Value) (x : Str) (f : Addr) (fd : FuncData) (ps : List Str) (ds : List Value) : Prop where
  g : mg x = some (.ref f)
  kp : PySem.W.keepIn K (.ref f) = true
  b : Binds K fd ps ds
def below (x : V) (n : Int) : Bool := match x with
  | .int i => decide (0 ≤ i) && decide (i < n)
  | _ => false
/-- a value of a kind: ints are the V's ints -/
def Val (K : PySem.W.Frag) (H : Hp) (x : V) : Prop := (∃ i, x = .int i) ∨ ((∀ i, x ≠ .int i) ∧ ∃ k : Kd, k.num = false ∧ Is K H x k)
theorem Val.kd {K : PySem.W.Frag} {H : Hp} {x : V} (h : Val K H x) : ∃ k, Is K H x k := by
  rcases h with ⟨i, rfl⟩ | ⟨_, k, _, e⟩
  · exact ⟨.int, .base (.int i)⟩
  · exact ⟨k, e⟩
def spBelow (K : PySem.W.Frag) : Sp := fun vs H Q _ => ∃ (x : V) (n : Int), vs = [x, .int n] ∧ Val K H x ∧ Q (.bl (below x n)) H
def spHasLen (K : PySem.W.Frag) : Sp := fun vs H Q _ => ∃ (a : Addr) (xs : List V) (m n : Int), vs = [.ref a, .int m, .int n] ∧ (H a = some (.lst xs) ∨ H a = some (.tup xs)) ∧
  ∀ H', (∀ b o, H b = some o → H' b = some o) → Q (.bl (decide (m ≤ xs.length) && decide ((xs.length : Int) ≤ n))) H'
section
variable {P : Program} {w : World} {K : PySem.W.Frag} {mg : Str → Option Value} {base : Heap}
theorem scBelow : FnScope ["value", "limit"] ["value", "limit"] (defScope sBelow) := ⟨rfl, rfl, rfl, by decide +kernel, rfl, by decide +kernel, by decide +kernel⟩
theorem ok_below {f fI : Addr} {fd fdI : FuncData} (F : Fun K "is_below" "is_below" sBelow f fd) (aI : At K mg "is_integer" fI fdI ["value"] []) (gI : FnOk P w K mg base CX0 1 fI fdI ["value"] (spIsInt K)) :
    FnOk P w K mg base CX0 2 f fd ["value", "limit"] (spBelow K) := by
  refine F.ok scBelow (fun vs H Q E h => ?_) (fun cdv A outer s H vs Q E hr h => ?_)
  · obtain ⟨x, n, rfl, _⟩ := h
    rfl
  · obtain ⟨x, n, rfl, hk, q⟩ := h
    refine ⟨_, pss_one (ps_ret (pe_and (pe_call gI hr (by rfl) aI.g aI.kp aI.b .nil pass0 (pa_cons (pv 0) pa_nil)) (pe_one (pe_chain op_le op_lt pe_int (pv 0) (pv 1))))), ?_⟩
    rcases hk with ⟨i, rfl⟩ | ⟨hn, k, ek, ik⟩
    · refine ⟨_, rfl, _, .int, rfl, .base (.int i), true, rfl, ?_⟩
      refine ⟨_, rfl, _, _, rfl, rfl, _, rfl, ?_⟩
      have e : below (.int i) n = (decide (0 ≤ i) && decide (i < n)) := rfl
      rw [e] at q
      by_cases c : 0 ≤ i
      · simp only [c, decide_true, Bool.true_and, if_true] at q ⊢
        exact ⟨_, rfl, _, _, rfl, rfl, q⟩
      · simp only [c, decide_false, Bool.false_and, Bool.false_eq_true, if_false] at q ⊢
        exact q
    · refine ⟨_, rfl, _, k, rfl, ik, false, by rw [ek], ?_⟩
      have e : below x n = false := by
        cases x with
        | int i => exact absurd rfl (hn i)
        | _ => rfl
      rw [e] at q
      exact q
theorem scHasLen : FnScope ["value", "least", "most"] ["value", "least", "most"] (defScope sHasLen) := ⟨rfl, rfl, rfl, by decide +kernel, rfl, by decide +kernel, by decide +kernel⟩
theorem ok_haslen {f : Addr} {fd : FuncData} (F : Fun K "has_length" "has_length" sHasLen f fd) (zz : mg "isinstance" = none) (zl : mg "list" = none) (zt : mg "tuple" = none) (zn : mg "len" = none) :
    FnOk P w K mg base CX0 1 f fd ["value", "least", "most"] (spHasLen K) := by
  refine F.ok scHasLen (fun vs H Q E h => ?_) (fun cdv A outer s H vs Q E hr h => ?_)
  · obtain ⟨a, xs, m, n, rfl, _⟩ := h
    rfl
  · obtain ⟨a, xs, m, n, rfl, ha, q⟩ := h
    refine ⟨_, pss_one (ps_ret (pe_and (pe_callB call_isiT (by rfl) zz (by decide +kernel) (pa_cons (pv 0) (pa_cons (pe_tup (pa_cons (pe_bltn (by rfl) zl (by decide +kernel) (rel_ty "list")) (pa_cons (pe_bltn (by rfl) zt (by decide +kernel) (rel_ty "tuple")) pa_nil))) pa_nil)))
      (pe_one (pe_chain op_le op_le (pv 1) (pe_callB call_len_seq (by rfl) zn PySem.boot_len (pa_cons (pv 0) pa_nil)) (pv 2))))), ?_⟩
    refine ⟨_, rfl, (by show 2 ≤ sizeLine; decide), fun p hp => ?_⟩
    have npa : ∀ o, H a = some o → a ≠ p := fun o e => ne_of_none e hp
    have same : ∀ b o, H b = some o → upd H p (.tup [.ty "list", .ty "tuple"]) b = some o := fun b o e => by
      rw [upd_ne (ne_of_none e hp)]
      exact e
    obtain ⟨t, hb, it, hs⟩ : ∃ t : Kd, PySem.W.kitAny K (.type t.nm) [.type "list", .type "tuple"] = some true ∧ Is K (upd H p (.tup [.ty "list", .ty "tuple"])) (.ref a) t ∧ (SqL K (upd H p (.tup [.ty "list", .ty "tuple"])) a xs ∨ SqT K (upd H p (.tup [.ty "list", .ty "tuple"])) a xs) := by
      rcases ha with ha | ha
      · exact ⟨.lst, by first | rfl | decide +kernel, .base (.lst (same _ _ ha)), .inl (SqL.of (same _ _ ha))⟩
      · exact ⟨.tup, by first | rfl | decide +kernel, .base (.tup (same _ _ ha)), .inr (SqT.of (same _ _ ha))⟩
    refine ⟨_, p, _, _, _, true, rfl, upd_same, .cons (.ty _) (.cons (.ty _) .nil), it, hb, true, rfl, _, rfl, _, rfl, _, _, rfl, hs, _, _, rfl, rfl, _, rfl, ?_⟩
    have q' := q _ same
    by_cases c : m ≤ xs.length
    · simp only [c, decide_true, Bool.true_and, if_true] at q' ⊢
      exact ⟨_, rfl, _, _, rfl, rfl, q'⟩
    · simp only [c, decide_false, Bool.false_and, Bool.false_eq_true, if_false] at q' ⊢
      exact q'
end
end Sl
/-! ## P3 -/
set_option Elab.async false
set_option linter.all false
set_option maxRecDepth 100000
set_option maxHeartbeats 4000000
namespace Sl
open PySem PySem.Spec PyProof.Rows L2
abbrev sAreStates : Stmt := top 11
abbrev sIsWord : Stmt := top 20
/-- states of something with so many: a list of different numbers below it -/
def spAreStates : Sp := fun vs H Q _ => ∃ (a : Addr) (ns : List Int) (n : Int), vs = [.ref a, .int n] ∧ H a = some (.lst (ns.map V.int)) ∧ ns.length < 64 ∧ ns.Nodup ∧ (∀ i ∈ ns, 0 ≤ i ∧ i < n) ∧
  ∀ H', (∀ b o, H b = some o → H' b = some o) → Q (.bl true) H'
theorem at_map {α : Type} {f : α → V} {l : List α} {i : Nat} {x : V} (h : (l.map f)[i]? = some x) : ∃ z, l[i]? = some z ∧ x = f z := by
  rw [List.getElem?_map] at h
  cases e : l[i]? with
  | none => rw [e] at h; cases h
  | some z => rw [e] at h; exact ⟨z, rfl, (Option.some.inj h).symm⟩
theorem take_more {α : Type} {l : List α} {i : Nat} {x : α} (h : l[i]? = some x) : l.take (i + 1) = l.take i ++ [x] := by rw [List.take_add_one, h]; rfl
theorem one_lt (c d : Nat) : (!decide ([c] < [d])) = decide (d ≤ c) := by
  by_cases h : d ≤ c
  · have n : ¬ [c] < [d] := by
      rw [List.cons_lt_cons_iff]
      rintro (k | ⟨_, k⟩)
      · omega
      · exact absurd k (by simp)
    rw [decide_eq_true h, decide_eq_false n]
    rfl
  · have n : [c] < [d] := by
      rw [List.cons_lt_cons_iff]
      exact .inl (by omega)
    rw [decide_eq_false h, decide_eq_true n]
    rfl
theorem cmp_a (c : Nat) : (!decide ((⟨#[c]⟩ : Str).cps.toList < ("a" : Str).cps.toList)) = decide (97 ≤ c) := one_lt c 97
theorem cmp_z (c : Nat) : (!decide (("z" : Str).cps.toList < (⟨#[c]⟩ : Str).cps.toList)) = decide (c ≤ 122) := one_lt 122 c
/-- the code points of a to z -/
def lowC (c : Nat) : Bool := decide (97 ≤ c) && decide (c ≤ 122)
def isWordS (z : Str) : Bool := z.cps.toList.all lowC
/-- a text is judged by its signs, any other value is none -/
def spIsWord (K : PySem.W.Frag) : Sp := fun vs H Q _ => ∃ x, vs = [x] ∧ ((∃ z : Str, x = .str z ∧ z.length ≤ 10000 ∧ ∀ H', (∀ b o, H b = some o → H' b = some o) → Q (.bl (isWordS z)) H') ∨ (∃ k : Kd, Is K H x k ∧ k ≠ .str ∧ Q (.bl false) H))
section
variable {P : Program} {w : World} {K : PySem.W.Frag} {mg : Str → Option Value} {base : Heap}
theorem scAreStates : FnScope ["value", "many", "state"] ["value", "many"] (defScope sAreStates) := ⟨rfl, rfl, rfl, by decide +kernel, rfl, by decide +kernel, by decide +kernel⟩
theorem ok_arestates {f fB : Addr} {fd fdB : FuncData} (F : Fun K "are_states" "are_states" sAreStates f fd) (aB : At K mg "is_below" fB fdB ["value", "limit"] []) (gB : FnOk P w K mg base CX0 2 fB fdB ["value", "limit"] (spBelow K))
    (zz : mg "isinstance" = none) (zl : mg "list" = none) (zt : mg "tuple" = none) (zn : mg "len" = none) (za : mg "all" = none) (zs : mg "set" = none) :
    FnOk P w K mg base CX0 3 f fd ["value", "many"] spAreStates := by
  refine F.ok scAreStates (fun vs H Q E h => ?_) (fun cdv A outer s H vs Q E hr h => ?_)
  · obtain ⟨a, ns, n, rfl, _⟩ := h
    rfl
  · obtain ⟨a, ns, n, rfl, ha, hl, nd, hns, q⟩ := h
    refine ⟨_, pss_cons (ps_if (pt_not (pt_val (pe_callB call_isiT (by rfl) zz (by decide +kernel) (pa_cons (pv 0) (pa_cons (pe_tup (pa_cons (pe_bltn (by rfl) zl (by decide +kernel) (rel_ty "list")) (pa_cons (pe_bltn (by rfl) zt (by decide +kernel) (rel_ty "tuple")) pa_nil))) pa_nil))))) (pss_one (ps_ret pe_bl)) pss_nil)
      (pss_cons (ps_if (pt_not (pt_val (pe_callB (cr_all rfl) (by rfl) za (by decide +kernel) (pa_cons (pe_lc (own := [("state", 2)]) (g := gName 2) (tt := tYes) rfl scAreStates.nd (pi_list (pv 0)) (blkOk_by (N := ["value", "many", "state"]) (sc := defScope sAreStates) (by decide +kernel))
          (fun _ _ _ _ _ => pg_name (i := 2) scAreStates.nd rfl (Or.inl rfl)) (fun _ _ _ _ _ => pts_nil) (fun _ _ _ _ _ => pe_call gB hr (by rfl) aB.g aB.kp aB.b .nil pass0 (pa_cons (pv 2) (pa_cons (pv 1) pa_nil)))) pa_nil)))) (pss_one (ps_ret pe_bl)) pss_nil)
      (pss_one (ps_ret (pe_cmpR op_eq (RZ.pe_lenSetI (by rfl) zn (by rfl) zs (pv 0)) (pe_callB call_len_seq (by rfl) zn PySem.boot_len (pa_cons (pv 0) pa_nil)) (nomark _))))), ?_⟩
    refine ⟨_, rfl, (by show 2 ≤ sizeLine; decide), fun p hp => ?_⟩
    have same : ∀ b o, H b = some o → upd H p (.tup [.ty "list", .ty "tuple"]) b = some o := fun b o e => by
      rw [upd_ne (ne_of_none e hp)]
      exact e
    refine ⟨_, p, _, .type "list", _, true, rfl, upd_same, .cons (.ty _) (.cons (.ty _) .nil), .base (.lst (same _ _ ha)), (by first | rfl | decide +kernel), true, rfl, ?_⟩
    refine iteF ?_
    generalize upd H p (.tup [.ty "list", .ty "tuple"]) = H1 at same
    refine ⟨_, rfl, a, rfl, ⟨_, SqL.of (same _ _ ha)⟩, fun D hD => ?_⟩
    have naD : ∀ b o, H b = some o → b ≠ D := fun b o e => ne_of_none (same b o e) hD
    refine lc_list (K := K) (a := a) (xs := ns.map V.int) (fun i H' => (∀ b o, H b = some o → H' b = some o) ∧ H' D = some (.lst ((List.replicate i true).map V.bl))) ⟨fun b o e => by rw [upd_ne (naD b o e)]; exact same b o e, upd_same⟩ (fun i H' _ h => SqL.of (h.1 _ _ ha)) ?_ ?_
    · rintro i x H' hi ⟨h1, h2⟩
      obtain ⟨z, hz, rfl⟩ := at_map hi
      have hil : i < ns.length := (List.getElem?_eq_some_iff.mp hz).1
      have hb := hns z (List.mem_of_getElem? hz)
      refine ⟨rfl, ?_⟩
      refine ⟨_, rfl, _, rfl, .int z, n, rfl, .inl ⟨z, rfl⟩, ?_⟩
      have e : below (.int z) n = true := by
        unfold below
        simp [hb.1, hb.2]
      rw [e]
      refine ⟨_, h2, by rw [List.length_map, List.length_replicate]; exact small1000 (by omega), fun b o e => by rw [upd_ne (naD b o e)]; exact h1 b o e, ?_⟩
      rw [upd_same, List.replicate_succ', List.map_append]
      rfl
    · rintro H' ⟨h1, h2⟩
      refine ⟨D, List.replicate (ns.map V.int).length true, rfl, SqL.of h2, true, by simp, ?_⟩
      refine iteF ?_
      refine ⟨_, rfl, a, ns, rfl, SqL.of (h1 _ _ ha), nd, (by omega), _, rfl, a, _, rfl, .inl (SqL.of (h1 _ _ ha)), ?_⟩
      have e : decide (V.int (ns.length : Nat) = V.int ((ns.map V.int).length : Nat)) = true := by
        rw [List.length_map]
        simp
      have q' := q _ h1
      rw [← e] at q'
      exact ⟨rfl, q'⟩
theorem scIsWord : FnScope ["value", "sign"] ["value"] (defScope sIsWord) := ⟨rfl, rfl, rfl, by decide +kernel, rfl, by decide +kernel, by decide +kernel⟩
theorem ok_isword {f : Addr} {fd : FuncData} (F : Fun K "is_word" "is_word" sIsWord f fd) (zz : mg "isinstance" = none) (zs : mg "str" = none) (za : mg "all" = none) :
    FnOk P w K mg base CX0 1 f fd ["value"] (spIsWord K) := by
  refine F.ok scIsWord (fun vs H Q E h => ?_) (fun cdv A outer s H vs Q E hr h => ?_)
  · obtain ⟨x, rfl, _⟩ := h
    rfl
  · obtain ⟨x, rfl, hx⟩ := h
    refine ⟨_, pss_one (ps_ret (pe_and (pe_callB call_isi (by rfl) zz (by decide +kernel) (pa_cons (pv 0) (pa_cons (pe_bltn (by rfl) zs (by decide +kernel) (rel_ty "str")) pa_nil)))
      (pe_one (pe_callB (cr_all rfl) (by rfl) za (by decide +kernel) (pa_cons (pe_lc (own := [("sign", 1)]) (g := gName 1) (tt := tYes) rfl scIsWord.nd (pi_str (pv 0)) (blkOk_by (N := ["value", "sign"]) (sc := defScope sIsWord) (by decide +kernel))
          (fun _ _ _ _ _ => pg_name (i := 1) scIsWord.nd rfl (Or.inl rfl)) (fun _ _ _ _ _ => pts_nil) (fun _ _ _ _ _ => pe_chain op_le_str op_le_str pe_str (pv 1) pe_str)) pa_nil))))), ?_⟩
    rcases hx with ⟨z, rfl, hz, q⟩ | ⟨k, ik, nk, q⟩
    · refine ⟨_, rfl, _, _, _, _, true, rfl, .ty _, .base (.str z), kit_ty (by decide +kernel), true, rfl, ?_⟩
      refine ⟨_, rfl, z, rfl, fun D hD => ?_⟩
      have zl : z.cps.size ≤ 10000 := hz
      refine lc_it walk_str (fun i H' => (∀ b o, H b = some o → H' b = some o) ∧ H' D = some (.lst ((z.cps.toList.take i).map fun c => V.bl (lowC c)))) ⟨fun b o e => by rw [upd_ne (ne_of_none e hD)]; exact e, upd_same⟩ (fun _ _ _ _ => trivial) ?_ ?_
      · rintro i x H1 H' hi ⟨h1, h2⟩ ⟨rfl, c, hc, rfl⟩
        refine ⟨rfl, _, rfl, _, _, rfl, rfl, _, rfl, ?_⟩
        have put : ∃ acc, H' D = some (.lst acc) ∧ acc.length < sizeLine ∧ ((∀ b o, H b = some o → (upd H' D (.lst (acc ++ [.bl (lowC c)]))) b = some o) ∧ (upd H' D (.lst (acc ++ [.bl (lowC c)]))) D = some (.lst ((z.cps.toList.take (i + 1)).map fun c => V.bl (lowC c)))) := by
          refine ⟨_, h2, ?_, fun b o e => by rw [upd_ne (ne_of_none e hD)]; exact h1 b o e, ?_⟩
          · rw [List.length_map, List.length_take, Array.length_toList, sizeLine_eq]
            omega
          · have hc' : z.cps.toList[i]? = some c := by
              rw [Array.getElem?_toList]
              exact hc
            rw [upd_same, take_more hc', List.map_append]
            rfl
        rw [cmp_a c]
        by_cases c1 : 97 ≤ c
        · rw [if_pos (decide_eq_true c1)]
          refine ⟨_, _, rfl, rfl, ?_⟩
          rw [cmp_z c]
          have e : decide (c ≤ 122) = lowC c := by
            unfold lowC
            rw [decide_eq_true c1, Bool.true_and]
          rw [e]
          exact put
        · rw [if_neg (by rw [decide_eq_false c1]; exact Bool.false_ne_true)]
          have e : false = lowC c := by
            unfold lowC
            rw [decide_eq_false c1, Bool.false_and]
          rw [e]
          exact put
      · rintro H' ⟨h1, h2⟩
        have e : List.take z.cps.size z.cps.toList = z.cps.toList := by
          rw [← Array.length_toList, List.take_length]
        rw [e] at h2
        refine ⟨D, z.cps.toList.map lowC, rfl, SqL.of (by rw [List.map_map]; exact h2), ?_⟩
        have e2 : (z.cps.toList.map lowC).all id = isWordS z := by
          unfold isWordS
          rw [List.all_map]
          rfl
        rw [e2]
        exact q _ h1
    · have e : PySem.W.kitOne K (.type k.nm) (.type "str") = some false := by
        cases k with
        | str => exact absurd rfl nk
        | _ => exact kit_ty (by decide +kernel)
      exact ⟨_, rfl, _, _, _, _, false, rfl, .ty _, ik, e, false, rfl, q⟩
end
end Sl
/-! ## P4 -/
set_option Elab.async false
set_option linter.all false
set_option maxRecDepth 100000
set_option maxHeartbeats 4000000
namespace Sl
open PySem PySem.Spec PyProof.Rows L2
abbrev sIsSign : Stmt := top 18
abbrev sIsMark : Stmt := top 19
abbrev sIsName : Stmt := top 21
abbrev sIsMove : Stmt := top 23
abbrev sIsRow : Stmt := top 24
/-- what stood stands -/
abbrev Ext (H H' : Hp) : Prop := ∀ b o, H b = some o → H' b = some o
theorem Ext.refl (H : Hp) : Ext H H := fun _ _ h => h
theorem Ext.trans {H H1 H2 : Hp} (h : Ext H H1) (h' : Ext H1 H2) : Ext H H2 := fun b o e => h' b o (h b o e)
theorem Ext.new {H : Hp} {p : Addr} {o : HO} (h : H p = none) : Ext H (upd H p o) := fun b u e => by
  rw [upd_ne (ne_of_none e h)]
  exact e
theorem Ext.free {H H' : Hp} {p : Addr} (h : Ext H H') (n : H' p = none) : H p = none := by
  cases e : H p with
  | none => rfl
  | some o =>
    rw [h p o e] at n
    cases n
def nameS (z : Str) : Bool := isWordS z && (decide (1 ≤ z.length) && decide (z.length ≤ 8))
def signS (z : Str) : Bool := isWordS z && decide (z.length = 1)
def markS (z : Str) : Bool := nameS z && decide (1 < z.length)
theorem small_size {n : Nat} (h : n ≤ 10000) : n ≤ sizeLine := by
  rw [sizeLine_eq]
  omega
/-- a test of a text -/
def spText (t : Str → Bool) : Sp := fun vs H Q _ => ∃ z : Str, vs = [.str z] ∧ z.length ≤ 10000 ∧ ∀ H', Ext H H' → Q (.bl (t z)) H'
section
variable {P : Program} {w : World} {K : PySem.W.Frag} {mg : Str → Option Value} {base : Heap}
theorem scIsName : FnScope ["value"] ["value"] (defScope sIsName) := ⟨rfl, rfl, rfl, by decide +kernel, rfl, by decide +kernel, by decide +kernel⟩
theorem ok_isname {f fW : Addr} {fd fdW : FuncData} {t8 : Tok} (F : Fun K "is_name" "is_name" sIsName f fd) (aW : At K mg "is_word" fW fdW ["value"] []) (gW : FnOk P w K mg base CX0 1 fW fdW ["value"] (spIsWord K)) (zn : mg "len" = none) (zm : mg "MAX_NAME" = some (.int 8 t8)) :
    FnOk P w K mg base CX0 2 f fd ["value"] (spText nameS) := by
  refine F.ok scIsName (fun vs H Q E h => ?_) (fun cdv A outer s H vs Q E hr h => ?_)
  · obtain ⟨z, rfl, _⟩ := h
    rfl
  · obtain ⟨z, rfl, hz, q⟩ := h
    refine ⟨_, pss_one (ps_ret (pe_and (pe_call gW hr (by rfl) aW.g aW.kp aW.b .nil pass0 (pa_cons (pv 0) pa_nil)) (pe_one (pe_chain op_le op_le pe_int (pe_callB call_len_str (by rfl) zn PySem.boot_len (pa_cons (pv 0) pa_nil)) (pe_glob (v := .int 8) rfl zm ⟨_, rfl⟩))))), ?_⟩
    refine ⟨_, rfl, _, rfl, .inl ⟨z, rfl, hz, fun H' e => ?_⟩⟩
    have q' := q H' e
    unfold nameS at q'
    refine ⟨_, rfl, ?_⟩
    generalize isWordS z = bw at q' ⊢
    cases bw with
    | false => exact q'
    | true =>
      rw [Bool.true_and] at q'
      refine ⟨_, rfl, z, rfl, small_size hz, _, _, rfl, rfl, _, rfl, ?_⟩
      by_cases c : 1 ≤ z.length
      · rw [if_pos (decide_eq_true (by omega))]
        refine ⟨_, _, rfl, rfl, ?_⟩
        rw [decide_eq_true c, Bool.true_and, show decide (z.length ≤ 8) = decide ((z.length : Int) ≤ 8) from decide_eq_decide.mpr (by omega)] at q'
        exact q'
      · rw [if_neg (by rw [decide_eq_false (by omega)]; exact Bool.false_ne_true)]
        rw [decide_eq_false c, Bool.false_and] at q'
        exact q'
theorem scIsSign : FnScope ["value"] ["value"] (defScope sIsSign) := ⟨rfl, rfl, rfl, by decide +kernel, rfl, by decide +kernel, by decide +kernel⟩
theorem ok_issign {f fW : Addr} {fd fdW : FuncData} (F : Fun K "is_sign" "is_sign" sIsSign f fd) (aW : At K mg "is_word" fW fdW ["value"] []) (gW : FnOk P w K mg base CX0 1 fW fdW ["value"] (spIsWord K)) (zn : mg "len" = none) :
    FnOk P w K mg base CX0 2 f fd ["value"] (spText signS) := by
  refine F.ok scIsSign (fun vs H Q E h => ?_) (fun cdv A outer s H vs Q E hr h => ?_)
  · obtain ⟨z, rfl, _⟩ := h
    rfl
  · obtain ⟨z, rfl, hz, q⟩ := h
    refine ⟨_, pss_one (ps_ret (pe_and (pe_call gW hr (by rfl) aW.g aW.kp aW.b .nil pass0 (pa_cons (pv 0) pa_nil)) (pe_one (pe_cmpR op_eq (pe_callB call_len_str (by rfl) zn PySem.boot_len (pa_cons (pv 0) pa_nil)) pe_int (nomark _))))), ?_⟩
    refine ⟨_, rfl, _, rfl, .inl ⟨z, rfl, hz, fun H' e => ?_⟩⟩
    have q' := q H' e
    unfold signS at q'
    refine ⟨_, rfl, ?_⟩
    generalize isWordS z = bw at q' ⊢
    cases bw with
    | false => exact q'
    | true =>
      rw [Bool.true_and] at q'
      refine ⟨_, rfl, z, rfl, small_size hz, rfl, ?_⟩
      rw [show decide (V.int (z.length : Nat) = V.int 1) = decide (z.length = 1) from decide_eq_decide.mpr ⟨fun k => by injection k with k; omega, fun k => by rw [k]; rfl⟩]
      exact q'
theorem scIsMark : FnScope ["value"] ["value"] (defScope sIsMark) := ⟨rfl, rfl, rfl, by decide +kernel, rfl, by decide +kernel, by decide +kernel⟩
theorem ok_ismark {f fW : Addr} {fd fdW : FuncData} (F : Fun K "is_mark" "is_mark" sIsMark f fd) (aW : At K mg "is_name" fW fdW ["value"] []) (gW : FnOk P w K mg base CX0 2 fW fdW ["value"] (spText nameS)) (zn : mg "len" = none) :
    FnOk P w K mg base CX0 3 f fd ["value"] (spText markS) := by
  refine F.ok scIsMark (fun vs H Q E h => ?_) (fun cdv A outer s H vs Q E hr h => ?_)
  · obtain ⟨z, rfl, _⟩ := h
    rfl
  · obtain ⟨z, rfl, hz, q⟩ := h
    refine ⟨_, pss_one (ps_ret (pe_and (pe_call gW hr (by rfl) aW.g aW.kp aW.b .nil pass0 (pa_cons (pv 0) pa_nil)) (pe_one (pe_cmpR op_gt (pe_callB call_len_str (by rfl) zn PySem.boot_len (pa_cons (pv 0) pa_nil)) pe_int (nomark _))))), ?_⟩
    refine ⟨_, rfl, z, rfl, hz, fun H' e => ?_⟩
    have q' := q H' e
    unfold markS at q'
    refine ⟨_, rfl, ?_⟩
    generalize nameS z = bw at q' ⊢
    cases bw with
    | false => exact q'
    | true =>
      rw [Bool.true_and] at q'
      refine ⟨_, rfl, z, rfl, small_size hz, _, _, rfl, rfl, ?_⟩
      rw [show decide (1 < z.length) = decide ((1 : Int) < (z.length : Nat)) from decide_eq_decide.mpr (by omega)] at q'
      exact q'
end
end Sl
/-! ## P5 -/
set_option Elab.async false
set_option linter.all false
set_option maxRecDepth 100000
set_option maxHeartbeats 4000000
namespace Sl
open PySem PySem.Spec PyProof.Rows L2
/-! ### moves and rows -/
/-- a move: the next state, what is told -/
abbrev Mv := Int × Option Str
def toldV : Option Str → V
  | none => .non
  | some z => .str z
/-- the tuple of a move at t -/
def MvAt (H : Hp) (t : Addr) (m : Mv) : Prop := H t = some (.tup [.int m.1, toldV m.2])
inductive Ents (H : Hp) : List (Str × Addr) → List (Str × Mv) → Prop
  | nil : Ents H [] []
  | cons {z : Str} {t : Addr} {m : Mv} {es : List (Str × Addr)} {r : List (Str × Mv)} : MvAt H t m → Ents H es r → Ents H ((z, t) :: es) ((z, m) :: r)
def kvsOf (es : List (Str × Addr)) : List (Key × V) := es.map fun e => (Sum.inr e.1, V.ref e.2)
/-- the dict of a state at d -/
def RowAt (H : Hp) (d : Addr) (r : List (Str × Mv)) : Prop := ∃ es, H d = some (.dK (kvsOf es)) ∧ Ents H es r
theorem Ents.ext {H H' : Hp} {es : List (Str × Addr)} {r : List (Str × Mv)} (h : ∀ t xs, H t = some (.tup xs) → H' t = some (.tup xs)) : Ents H es r → Ents H' es r
  | .nil => .nil
  | .cons m e => .cons (h _ _ m) (Ents.ext h e)
theorem Ents.len {H : Hp} : ∀ {es : List (Str × Addr)} {r : List (Str × Mv)}, Ents H es r → es.length = r.length
  | _, _, .nil => rfl
  | _, _, .cons _ e => congrArg (· + 1) e.len
theorem Ents.at_ {H : Hp} : ∀ {es : List (Str × Addr)} {r : List (Str × Mv)} {i : Nat} {e : Str × Addr}, Ents H es r → es[i]? = some e → ∃ m, r[i]? = some (e.1, m) ∧ MvAt H e.2 m
  | _, _, 0, _, .cons (m := m) h _, q => by
    cases q
    exact ⟨m, rfl, h⟩
  | _, _, i + 1, _, .cons _ h, q => h.at_ (i := i) q
  | _, _, 0, _, .nil, q => by cases q
  | _, _, i + 1, _, .nil, q => by cases q
/-- a move that a reader of n states may have -/
def okMv (n : Int) (m : Mv) : Prop := (0 ≤ m.1 ∧ m.1 < n) ∧ ∀ z, m.2 = some z → nameS z = true ∧ z.length ≤ 8
def okRow (n : Int) (r : List (Str × Mv)) : Prop := ∀ e ∈ r, (signS e.1 = true ∧ e.1.length = 1) ∧ okMv n e.2
/-- a right move, and what stood stands -/
def spIsMove : Sp := fun vs H Q _ => ∃ (t : Addr) (m : Mv) (n : Int), vs = [.ref t, .int n] ∧ MvAt H t m ∧ okMv n m ∧ ∀ H', Ext H H' → Q (.bl true) H'
/-- a right row -/
def spIsRow : Sp := fun vs H Q _ => ∃ (d : Addr) (r : List (Str × Mv)) (n : Int), vs = [.ref d, .int n] ∧ RowAt H d r ∧ okRow n r ∧ r.length ≤ 100 ∧ ∀ H', Ext H H' → Q (.bl true) H'
section
variable {P : Program} {w : World} {K : PySem.W.Frag} {mg : Str → Option Value} {base : Heap}
theorem scIsMove : FnScope ["value", "many", "after", "told"] ["value", "many"] (defScope sIsMove) := ⟨rfl, rfl, rfl, by decide +kernel, rfl, by decide +kernel, by decide +kernel⟩
theorem ok_ismove {f fB fN : Addr} {fd fdB fdN : FuncData} (F : Fun K "_is_move" "_is_move" sIsMove f fd) (aB : At K mg "is_below" fB fdB ["value", "limit"] []) (gB : FnOk P w K mg base CX0 2 fB fdB ["value", "limit"] (spBelow K))
    (aN : At K mg "is_name" fN fdN ["value"] []) (gN : FnOk P w K mg base CX0 2 fN fdN ["value"] (spText nameS)) (zz : mg "isinstance" = none) (zt : mg "tuple" = none) (zn : mg "len" = none) :
    FnOk P w K mg base CX0 3 f fd ["value", "many"] spIsMove := by
  refine F.ok scIsMove (fun vs H Q E h => ?_) (fun cdv A outer s H vs Q E hr h => ?_)
  · obtain ⟨t, m, n, rfl, _⟩ := h
    rfl
  · obtain ⟨t, ⟨g, o⟩, n, rfl, ht, ⟨hg, ho⟩, q⟩ := h
    have ht : H t = some (.tup [.int g, toldV o]) := ht
    refine ⟨_, pss_cons (ps_if (PW.pt (pw_or (pt_not (pt_val (pe_callB call_isi (by rfl) zz (by decide +kernel) (pa_cons (pv 0) (pa_cons (pe_bltn (by rfl) zt (by decide +kernel) (rel_ty "tuple")) pa_nil)))))
          (pw_or1 (pt_cmpR op_ne (pe_callB call_len_seq (by rfl) zn PySem.boot_len (pa_cons (pv 0) pa_nil)) pe_int (nomark _))))) (pss_one (ps_ret pe_bl)) pss_nil)
      (pss_cons (ps_asg (pv 0) (pg_tup (by rfl) (pgs_cons (pg_name (i := 2) scIsMove.nd rfl (.inl rfl)) (pgs_cons (pg_name (i := 3) scIsMove.nd rfl (.inl rfl)) pgs_nil))))
      (pss_one (ps_ret (pe_and (pe_call gB hr (by rfl) aB.g aB.kp aB.b .nil pass0 (pa_cons (pv 2) (pa_cons (pv 1) pa_nil)))
        (pe_one (pe_or (pe_cmpR op_isN (pv 3) pe_non (nomark _)) (pe_one (pe_call gN hr (by rfl) aN.g aN.kp aN.b .nil pass0 (pa_cons (pv 3) pa_nil))))))))), ?_⟩
    refine ⟨_, rfl, _, _, .type "tuple", _, true, rfl, .ty _, .base (.tup ht), kit_ty (by decide +kernel), true, rfl, ?_⟩
    refine iteF ?_
    refine ⟨_, rfl, t, _, rfl, .inr (SqT.of ht), rfl, _, rfl, ?_⟩
    refine iteNS (by rfl) ?_
    refine ⟨_, rfl, t, _, rfl, SqT.of ht, rfl, _, _, rfl, _, _, rfl, rfl, ?_⟩
    refine ⟨_, rfl, _, rfl, .int g, n, rfl, .inl ⟨g, rfl⟩, ?_⟩
    have e : below (.int g) n = true := by
      unfold below
      simp [hg.1, hg.2]
    rw [e]
    refine ⟨true, rfl, ?_⟩
    cases o with
    | none =>
      refine ⟨_, rfl, rfl, true, rfl, ?_⟩
      exact q H (Ext.refl H)
    | some z =>
      obtain ⟨h1, h2⟩ := ho z rfl
      refine ⟨_, rfl, rfl, false, rfl, ?_⟩
      refine ⟨_, rfl, z, rfl, by omega, fun H' e => ?_⟩
      rw [h1]
      exact q H' e
end
end Sl
/-! ## P6 -/
set_option Elab.async false
set_option linter.all false
set_option maxRecDepth 100000
set_option maxHeartbeats 4000000
namespace Sl
open PySem PySem.Spec PyProof.Rows L2
theorem small_list {n : Nat} (h : n ≤ 10000) : n < sizeLine := by
  rw [sizeLine_eq]
  omega
theorem kvs_at {es : List (Str × Addr)} {i : Nat} {x y : V} (h1 : (kvsOf es)[i]?.map (fun kv => kV kv.1) = some x) (h2 : (kvsOf es)[i]?.map Prod.snd = some y) : ∃ e, es[i]? = some e ∧ x = .str e.1 ∧ y = .ref e.2 := by
  unfold kvsOf at h1 h2
  rw [List.getElem?_map] at h1 h2
  cases e : es[i]? with
  | none =>
    rw [e] at h1
    cases h1
  | some e0 =>
    rw [e] at h1 h2
    exact ⟨e0, rfl, (Option.some.inj h1).symm, (Option.some.inj h2).symm⟩
section
variable {P : Program} {w : World} {K : PySem.W.Frag} {mg : Str → Option Value} {base : Heap}
theorem scIsRow : FnScope ["value", "many", "sign", "move"] ["value", "many"] (defScope sIsRow) := ⟨rfl, rfl, rfl, by decide +kernel, rfl, by decide +kernel, by decide +kernel⟩
theorem ok_isrow {f fS fM : Addr} {fd fdS fdM : FuncData} (F : Fun K "_is_reader_state" "_is_reader_state" sIsRow f fd) (aS : At K mg "is_sign" fS fdS ["value"] []) (gS : FnOk P w K mg base CX0 2 fS fdS ["value"] (spText signS))
    (aM : At K mg "_is_move" fM fdM ["value", "many"] []) (gM : FnOk P w K mg base CX0 3 fM fdM ["value", "many"] spIsMove) (zz : mg "isinstance" = none) (zd : mg "dict" = none) (za : mg "all" = none) :
    FnOk P w K mg base CX0 4 f fd ["value", "many"] spIsRow := by
  refine F.ok scIsRow (fun vs H Q E h => ?_) (fun cdv A outer s H vs Q E hr h => ?_)
  · obtain ⟨d, r, n, rfl, _⟩ := h
    rfl
  · obtain ⟨d, r, n, rfl, ⟨es, hd, he⟩, hok, hl, q⟩ := h
    refine ⟨_, pss_cons (ps_if (pt_not (pt_val (pe_callB call_isi (by rfl) zz (by decide +kernel) (pa_cons (pv 0) (pa_cons (pe_bltn (by rfl) zd (by decide +kernel) (rel_ty "dict")) pa_nil))))) (pss_one (ps_ret pe_bl)) pss_nil)
      (pss_one (ps_ret (pe_callB (cr_all rfl) (by rfl) za (by decide +kernel) (pa_cons (pe_lock (pe_lc (own := [("sign", 2), ("move", 3)]) (g := gTup K 2 (gCons (gName 2) (gCons (gName 3) gNil))) (tt := tYes) rfl scIsRow.nd (pi_items (pv 0)) (blkOk_by (N := ["value", "many", "sign", "move"]) (sc := defScope sIsRow) (by decide +kernel))
          (fun _ _ _ _ _ => pg_tup rfl (pgs_cons (pg_name (i := 2) scIsRow.nd rfl (Or.inl rfl)) (pgs_cons (pg_name (i := 3) scIsRow.nd rfl (Or.inl rfl)) pgs_nil))) (fun _ _ _ _ _ => pts_nil)
          (fun _ _ _ _ _ => pe_and (pe_call gS (hr.mono (by decide)) (by rfl) aS.g aS.kp aS.b .nil pass0 (pa_cons (pv 2) pa_nil)) (pe_one (pe_call gM hr (by rfl) aM.g aM.kp aM.b .nil pass0 (pa_cons (pv 3) (pa_cons (pv 1) pa_nil))))))) pa_nil)))), ?_⟩
    refine ⟨_, rfl, _, _, .type "dict", _, true, rfl, .ty _, .base (.dK hd), kit_ty (by decide +kernel), true, rfl, ?_⟩
    refine iteF ?_
    refine ⟨d, _, hd, trivial, fun od => ?_⟩
    refine ⟨_, rfl, d, od, _, rfl, upd_same, fun D hD => ?_⟩
    have ndD : d ≠ D := ne_of_none upd_same hD
    have hD0 : H D = none := by
      rw [upd_ne ndD.symm] at hD
      exact hD
    have hlen : es.length ≤ 100 := by
      rw [he.len]
      exact hl
    have tup : ∀ {H' : Hp}, Ext (upd H d (.frz od (.dK (kvsOf es)))) H' → ∀ t xs, H t = some (.tup xs) → H' t = some (.tup xs) := fun x t xs e => x _ _ (by
      rw [upd_ne (ne_of e hd (by intro z; cases z))]
      exact e)
    refine lc_it walk_items (fun i H' => Ext (upd H d (.frz od (.dK (kvsOf es)))) H' ∧ H' D = some (.lst ((List.replicate i true).map V.bl))) ⟨Ext.new hD, upd_same⟩ (fun i H' _ h => h.1 _ _ upd_same) ?_ ?_
    · rintro i x H1 H2 hi ⟨h1, h2⟩ ⟨T, x1, y1, rfl, nT, rfl, q1, q2⟩
      obtain ⟨e, he1, rfl, rfl⟩ := kvs_at q1 q2
      obtain ⟨m, hm, mt⟩ := he.at_ he1
      have hok1 := hok _ (List.mem_of_getElem? hm)
      have x1 := h1.trans (Ext.new nT (o := .tup [V.str e.1, V.ref e.2]))
      have hil : i < es.length := (List.getElem?_eq_some_iff.mp he1).1
      refine ⟨T, _, rfl, SqT.of upd_same, rfl, _, _, rfl, _, _, rfl, rfl, rfl, ?_⟩
      refine ⟨_, rfl, e.1, rfl, (by rw [hok1.1.2]; decide), fun H3 e3 => ?_⟩
      rw [hok1.1.1]
      refine ⟨true, rfl, ?_⟩
      refine ⟨_, rfl, _, rfl, e.2, m, n, rfl, tup (x1.trans e3) _ _ mt, hok1.2, fun H4 e4 => ?_⟩
      have x4 := (x1.trans e3).trans e4
      have hD4 : H4 D = some (.lst ((List.replicate i true).map V.bl)) := e4 _ _ (e3 _ _ ((Ext.new nT) _ _ h2))
      refine ⟨_, hD4, by rw [List.length_map, List.length_replicate]; exact small_list (by omega), fun b o eb => ?_, ?_⟩
      · rw [upd_ne (ne_of_none eb hD)]
        exact x4 _ _ eb
      · rw [upd_same, List.replicate_succ', List.map_append]
        rfl
    · rintro H' ⟨h1, h2⟩
      refine ⟨h1 _ _ upd_same, D, List.replicate (kvsOf es).length true, rfl, SqL.of (by rw [upd_ne ndD.symm]; exact h2), ?_⟩
      have e : (List.replicate (kvsOf es).length true).all id = true := by simp
      rw [e]
      refine q _ fun b o eb => ?_
      by_cases c : b = d
      · subst c
        rw [upd_same, ← hd, eb]
      · rw [upd_ne c]
        exact h1 _ _ (by rw [upd_ne c]; exact eb)
end
end Sl
/-! ## P7 -/
set_option Elab.async false
set_option linter.all false
set_option maxRecDepth 100000
set_option maxHeartbeats 4000000
namespace Sl
open PySem PySem.Spec PyProof.Rows L2
abbrev sCopied : Stmt := top 25
/-- a dict comprehension over any walk -/
theorem dc_it {J : It} {n : Nat} {G : Hp → Prop} {Y : Nat → Hp → V → Hp → Prop} (w : Walk J n G Y) {g : TG} {tt : TT} {tk tv : TE} {vs : List Nat} {σ : L2.St} {H1 : Hp} {D : Addr} {Qd : Hp → Prop} (Pv : Nat → Hp → Prop) (h0 : Pv 0 (upd H1 D (.dK []))) (hG : ∀ i H, i ≤ n → Pv i H → G H)
    (hs : ∀ i x H H', i < n → Pv i H → Y i H x H' → g x (wipe σ vs) H' fun σ2 H2 => wipe σ2 vs = wipe σ vs ∧ tt σ2 H2 fun b H3 =>
      if b = true then tk σ2 H3 fun y H4 => tv σ2 H4 fun z H5 => ∃ kvs k, y = kV k ∧ H5 D = some (.dK kvs) ∧ kvs.length < sizeLine ∧ Pv (i + 1) (upd H5 D (.dK (putK kvs k z))) else Pv (i + 1) H3) (hd : ∀ H, Pv n H → Qd H) :
    ∃ W : Nat → Nat → Hp → Prop, (∃ m, W 0 m (upd H1 D (.dK []))) ∧ ∀ i m H, W i m H →
      (J.stop i H ∧ Qd H) ∨ (J.go i H ∧ ∃ Nx : Hp → Prop, (∀ H', Nx H' → ∃ m', m' < m ∧ W (i + 1) m' H') ∧ ∀ x H', J.yld i H x H' → g x (wipe σ vs) H' fun σ2 H2 => wipe σ2 vs = wipe σ vs ∧ tt σ2 H2 fun b H3 =>
        if b = true then tk σ2 H3 fun y H4 => tv σ2 H4 fun z H5 => ∃ kvs k, y = kV k ∧ H5 D = some (.dK kvs) ∧ kvs.length < sizeLine ∧ Nx (upd H5 D (.dK (putK kvs k z))) else Nx H3) := by
  refine ⟨fun i m H => m = n - i ∧ i ≤ n ∧ Pv i H, ⟨n, by simp, Nat.zero_le _, h0⟩, fun i m H z => ?_⟩
  obtain ⟨rfl, hi, p⟩ := z
  by_cases hlt : i < n
  · exact .inr ⟨w.goes i H hlt (hG i H hi p), Pv (i + 1), fun H' p' => ⟨n - (i + 1), by omega, rfl, hlt, p'⟩, fun x H' y => hs i x H H' hlt p (w.yields i H x H' hlt (hG i H hi p) y)⟩
  · obtain rfl : i = n := by omega
    exact .inl ⟨w.stops H (hG i H hi p), hd H p⟩
/-- as many, each once, all among them -/
theorem perm_sub {α : Type} [BEq α] [LawfulBEq α] : ∀ {l ws : List α}, l.Nodup → (∀ k ∈ l, k ∈ ws) → ws.length = l.length → ws.Perm l
  | [], ws, _, _, e => by rw [List.eq_nil_of_length_eq_zero e]
  | x :: l, ws, nd, h, e => by
    obtain ⟨nx, nd'⟩ := List.nodup_cons.mp nd
    have p := List.perm_cons_erase (h x List.mem_cons_self)
    have hl : (ws.erase x).length = l.length := by
      have q := p.length_eq
      rw [List.length_cons] at q e
      omega
    exact p.trans ((perm_sub nd' (fun k hk => (List.mem_erase_of_ne (fun z => nx (by rw [← z]; exact hk))).mpr (h k (List.mem_cons_of_mem _ hk))) hl).cons x)
theorem nodup_of_keys {α β : Type} : ∀ {l : List (α × β)}, (l.map (·.1)).Nodup → l.Nodup
  | [], _ => List.nodup_nil
  | x :: l, h => by
    obtain ⟨h1, h2⟩ := List.nodup_cons.mp h
    exact List.nodup_cons.mpr ⟨fun m => h1 (List.mem_map.mpr ⟨x, m, rfl⟩), nodup_of_keys h2⟩
/-- the value at a key that stands once -/
theorem val_at : ∀ {es : List (Str × Addr)} {z : Str} {t : Addr}, (es.map (·.1)).Nodup → (z, t) ∈ es → valV (kvsOf es) (Sum.inr z : Key) = some (.ref t)
  | [], _, _, _, h => by cases h
  | e :: es, z, t, nd, h => by
    obtain ⟨h1, h2⟩ := List.nodup_cons.mp nd
    rcases List.mem_cons.mp h with q | q
    · subst q
      exact valV_pos rfl
    · have ne : ¬ (Sum.inr e.1 : Key) = Sum.inr z := fun k => h1 (by
        injection k with k
        exact List.mem_map.mpr ⟨_, q, k.symm⟩)
      exact (valV_neg ne).trans (val_at h2 q)
theorem val_no : ∀ {es : List (Str × Addr)} {z : Str}, z ∉ es.map (·.1) → valV (kvsOf es) (Sum.inr z : Key) = none
  | [], _, _ => rfl
  | e :: es, z, h => by
    have ne : ¬ (Sum.inr e.1 : Key) = Sum.inr z := fun k => h (by
      injection k with k
      exact List.mem_map.mpr ⟨e, List.mem_cons_self, k⟩)
    exact (valV_neg ne).trans (val_no fun m => h (List.mem_cons_of_mem _ m))
theorem Ents.keys {H : Hp} : ∀ {es : List (Str × Addr)} {r : List (Str × Mv)}, Ents H es r → es.map (·.1) = r.map (·.1)
  | _, _, .nil => rfl
  | _, _, .cons _ e => congrArg _ e.keys
theorem Ents.mem {H : Hp} : ∀ {es : List (Str × Addr)} {r : List (Str × Mv)} {z : Str}, Ents H es r → z ∈ es.map (·.1) → ∃ t m, (z, t) ∈ es ∧ (z, m) ∈ r ∧ MvAt H t m
  | _, _, _, .nil, h => by cases h
  | _, _, z, .cons (z := y) (t := t) (m := m) h e, q => by
    rcases List.mem_cons.mp q with k | k
    · have k : z = y := k
      subst k
      exact ⟨t, m, List.mem_cons_self, List.mem_cons_self, h⟩
    · obtain ⟨t', m', a, b, c⟩ := e.mem k
      exact ⟨t', m', List.mem_cons_of_mem _ a, List.mem_cons_of_mem _ b, c⟩
theorem Ents.snoc {H : Hp} {z : Str} {t : Addr} {m : Mv} : ∀ {es : List (Str × Addr)} {r : List (Str × Mv)}, Ents H es r → MvAt H t m → Ents H (es ++ [(z, t)]) (r ++ [(z, m)])
  | _, _, .nil, h => .cons h .nil
  | _, _, .cons a e, h => .cons a (e.snoc h)
def rTupT (K : PySem.W.Frag) : List V → Hp → VK → Prop := fun xs H Q => ∃ a ys, xs = [V.ref a] ∧ SqT K H a ys ∧ Q (.ref a) H
/-- the row again, as a new dict -/
def spCopied : Sp := fun vs H Q _ => ∃ (d : Addr) (r : List (Str × Mv)), vs = [.ref d] ∧ RowAt H d r ∧ (r.map (·.1)).Nodup ∧ r.length < 64 ∧
  ∀ (H' : Hp) (p : Addr) (r' : List (Str × Mv)), Ext H H' → H p = none → RowAt H' p r' → r'.Perm r → Q (.ref p) H'
section
variable {P : Program} {w : World} {K : PySem.W.Frag} {mg : Str → Option Value} {base : Heap}
theorem scCopied : FnScope ["state", "sign"] ["state"] (defScope sCopied) := ⟨rfl, rfl, rfl, by decide +kernel, rfl, by decide +kernel, by decide +kernel⟩
theorem ok_copied {f : Addr} {fd : FuncData} (F : Fun K "_copied_state" "_copied_state" sCopied f fd) (zs : mg "sorted" = none) (zt : mg "tuple" = none) : FnOk P w K mg base CX0 1 f fd ["state"] spCopied := by
  refine F.ok scCopied (fun vs H Q E h => ?_) (fun cdv A outer s H vs Q E hr h => ?_)
  · obtain ⟨d, r, rfl, _⟩ := h
    rfl
  · obtain ⟨d, r, rfl, ⟨es, hd, he⟩, nd, hl, q⟩ := h
    have hu := hu_of hr
    refine ⟨_, pss_one (ps_ret (pe_dc (own := [("sign", 1)]) (g := gName 1) (tt := tYes) rfl scCopied.nd (pi_list (pe_callB (call_sortedD rfl) (by rfl) zs (by decide +kernel) (pa_cons (pv 0) pa_nil))) (blkOk_by (N := ["state", "sign"]) (sc := defScope sCopied) (by decide +kernel))
          (fun _ _ _ _ _ => pg_name (i := 1) scCopied.nd rfl (Or.inl rfl)) (fun _ _ _ _ _ => pts_nil) (fun _ _ _ _ _ => pv 1) (fun _ _ _ _ _ => pe_callTy (T := "tuple") (r := rTupT K) call_tupleT (by rfl) zt (by decide +kernel) (pa_cons (pe_dget hu (pv 0) (pv 1) (fun _ _ => rfl)) pa_nil)))), ?_⟩
    have ek := he.keys
    have nde : (es.map (·.1)).Nodup := by
      rw [ek]
      exact nd
    refine ⟨_, rfl, d, _, es.map (·.1), rfl, Rd.of hd, (by unfold kvsOf; rw [List.map_map, List.map_map]; rfl), (by rw [List.length_map, he.len]; exact hl), fun ys L pm sr hL => ?_⟩
    have ly : ys.length < 64 := by
      rw [pm.length_eq, List.length_map, he.len]
      exact hl
    refine ⟨L, rfl, ⟨_, SqL.of upd_same⟩, fun D hD => ?_⟩
    have nLD : L ≠ D := ne_of_none upd_same hD
    have hD0 : H D = none := (Ext.new hL).free hD
    refine dc_it (walk_list (xs := ys.map V.str)) (fun i H' => (Ext H H' ∧ H' L = some (.lst (ys.map V.str))) ∧ ∃ es' r', H' D = some (.dK (kvsOf es')) ∧ Ents H' es' r' ∧ r'.map (·.1) = ys.take i ∧ ∀ e ∈ r', e ∈ r) ⟨⟨(Ext.new hL).trans (Ext.new hD), by rw [upd_ne nLD]; exact upd_same⟩, [], [], upd_same, .nil, rfl, fun e h => by cases h⟩ (fun i H' _ h => SqL.of h.1.2) ?_ ?_
    · rintro i x H1 H2 hi ⟨⟨h1, h1'⟩, es', r', h2, h3, h4, h5⟩ ⟨rfl, hx⟩
      obtain ⟨z, hz, rfl⟩ := at_map hx
      have hzm : z ∈ es.map (·.1) := pm.mem_iff.mp (List.mem_of_getElem? hz)
      obtain ⟨t, m, m1, m2, m3⟩ := he.mem hzm
      have hil : i < ys.length := (List.getElem?_eq_some_iff.mp hz).1
      have hg : DGet H2 d (V.str z) (some (.ref t)) := by
        rw [← val_at nde m1]
        exact DGet.k (k := Sum.inr z) (h1 _ _ hd)
      have lr : r'.length ≤ i := by
        have k := congrArg List.length h4
        rw [List.length_map, List.length_take] at k
        omega
      have hnew : z ∉ es'.map (·.1) := by
        rw [h3.keys, h4]
        intro k
        have ndy : ys.Nodup := pm.nodup_iff.mpr nde
        obtain ⟨j, hj, e⟩ := List.mem_iff_getElem.mp k
        rw [List.length_take] at hj
        rw [List.getElem_take] at e
        have e2 : ys[i]'hil = z := (List.getElem?_eq_some_iff.mp hz).2
        have := (List.getElem_inj ndy).mp (e.trans e2.symm)
        omega
      refine ⟨rfl, _, rfl, _, rfl, _, rfl, d, _, rfl, hg, t, _, rfl, SqT.of (h1 _ _ m3), _, Sum.inr z, rfl, h2, by unfold kvsOf; rw [List.length_map, h3.len]; exact small_list (by omega), ?_⟩
      rw [putK_new _ (val_no hnew)]
      have nDx : ∀ b o, H b = some o → b ≠ D := fun b o e => ne_of_none e hD0
      refine ⟨⟨fun b o e => by rw [upd_ne (nDx b o e)]; exact h1 b o e, by rw [upd_ne nLD]; exact h1'⟩, es' ++ [(z, t)], r' ++ [(z, m)], ?_, (Ents.ext (fun u xs e => ?_) h3).snoc ?_, ?_, fun e h => ?_⟩
      · rw [upd_same]
        unfold kvsOf
        rw [List.map_append]
        rfl
      · rw [upd_ne (ne_of e h2 (by intro z; cases z))]
        exact e
      · show upd _ D _ t = _
        rw [upd_ne (nDx t _ m3)]
        exact h1 _ _ m3
      · rw [List.map_append, h4, take_more hz]
        rfl
      · rcases List.mem_append.mp h with k | k
        · exact h5 e k
        · rw [List.mem_singleton.mp k]
          exact m2
    · rintro H' ⟨⟨h1, _⟩, es', r', h2, h3, h4, h5⟩
      rw [List.length_map, List.take_length] at h4
      refine q H' D r' h1 hD0 ⟨es', h2, h3⟩ ?_
      have nr' : (r'.map (·.1)).Nodup := by
        rw [h4]
        exact pm.nodup_iff.mpr nde
      have el : r'.length = r.length := by
        have k := congrArg List.length h4
        rw [List.length_map] at k
        rw [k, pm.length_eq, List.length_map, he.len]
      exact (perm_sub (nodup_of_keys nr') h5 el.symm).symm
end
end Sl
/-! ## P8 -/
set_option Elab.async false
set_option linter.all false
set_option maxRecDepth 100000
set_option maxHeartbeats 4000000
namespace TxS
open PySem PySem.Spec PyProof.Rows L2
/-! ### the reading of a set comprehension of two clauses -/
theorem sc2_in {P : Program} {w : World} {J1 : It} {n : Nat} {G : Hp → Prop} {Y : Nat → Hp → V → Hp → Prop} (wk : Walk J1 n G Y) {D : Addr} {g1 : TG} {tt1 : TT} {te : TE} {vs1 : List Nat} {σ2 : L2.St} {Hf : Hp} {Nx : Hp → Prop} (Pv : Nat → Hp → Prop) (h0 : Pv 0 Hf) (hG : ∀ j H, j ≤ n → Pv j H → G H)
    (hs : ∀ j x H H', j < n → Pv j H → Y j H x H' → g1 x (wipe σ2 vs1) H' fun σ3 Hi => wipe σ3 vs1 = wipe σ2 vs1 ∧ tt1 σ3 Hi fun b Hj => if b = true then te σ3 Hj (Adds P w D (Pv (j + 1))) else Pv (j + 1) Hj) (hd : ∀ H, Pv n H → Nx H) :
    ∃ W1 : Nat → Nat → Hp → Prop, (∃ m, W1 0 m Hf) ∧ ∀ j k Hg, W1 j k Hg → (J1.stop j Hg ∧ Nx Hg) ∨
      (J1.go j Hg ∧ ∃ Nx1 : Hp → Prop, (∀ Hh, Nx1 Hh → ∃ k', k' < k ∧ W1 (j + 1) k' Hh) ∧ ∀ x Hh, J1.yld j Hg x Hh → g1 x (wipe σ2 vs1) Hh fun σ3 Hi => wipe σ3 vs1 = wipe σ2 vs1 ∧ tt1 σ3 Hi fun b Hj =>
        if b = true then te σ3 Hj (Adds P w D Nx1) else Nx1 Hj) := by
  refine ⟨fun j k H => k = n - j ∧ j ≤ n ∧ Pv j H, ⟨n, by simp, Nat.zero_le _, h0⟩, fun j k H z => ?_⟩
  obtain ⟨rfl, hj, p⟩ := z
  by_cases hlt : j < n
  · exact .inr ⟨wk.goes j H hlt (hG j H hj p), Pv (j + 1), fun H' p' => ⟨n - (j + 1), by omega, rfl, hlt, p'⟩, fun x H' y => hs j x H H' hlt p (wk.yields j H x H' hlt (hG j H hj p) y)⟩
  · obtain rfl : j = n := by omega
    exact .inl ⟨wk.stops H (hG j H hj p), hd H p⟩
theorem sc2_out {P : Program} {w : World} {J : It} {n : Nat} {G : Hp → Prop} {Y : Nat → Hp → V → Hp → Prop} (wk : Walk J n G Y) {D : Addr} {g g1 : TG} {tt tt1 : TT} {te : TE} {wi1 : TI} {vs vs1 : List Nat} {σ : L2.St} {Ha : Hp} {Qd : Hp → Prop} (Pv : Nat → Hp → Prop) (h0 : Pv 0 (upd Ha D (SetSO P w D []))) (hG : ∀ i H, i ≤ n → Pv i H → G H)
    (hs : ∀ i x H H', i < n → Pv i H → Y i H x H' → g x (wipe σ vs) H' fun σ2 Hd => wipe σ2 vs = wipe σ vs ∧ tt σ2 Hd fun b He =>
      if b = true then wi1 σ2 He fun J1 Hf => ∃ W1 : Nat → Nat → Hp → Prop, (∃ m, W1 0 m Hf) ∧ ∀ j k Hg, W1 j k Hg → (J1.stop j Hg ∧ Pv (i + 1) Hg) ∨
        (J1.go j Hg ∧ ∃ Nx1 : Hp → Prop, (∀ Hh, Nx1 Hh → ∃ k', k' < k ∧ W1 (j + 1) k' Hh) ∧ ∀ x Hh, J1.yld j Hg x Hh → g1 x (wipe σ2 vs1) Hh fun σ3 Hi => wipe σ3 vs1 = wipe σ2 vs1 ∧ tt1 σ3 Hi fun b Hj =>
          if b = true then te σ3 Hj (Adds P w D Nx1) else Nx1 Hj)
      else Pv (i + 1) He) (hd : ∀ H, Pv n H → Qd H) :
    ∃ W : Nat → Nat → Hp → Prop, (∃ m, W 0 m (upd Ha D (SetSO P w D []))) ∧ ∀ i m Hb, W i m Hb → (J.stop i Hb ∧ Qd Hb) ∨
      (J.go i Hb ∧ ∃ Nx : Hp → Prop, (∀ Hc, Nx Hc → ∃ m', m' < m ∧ W (i + 1) m' Hc) ∧ ∀ x Hc, J.yld i Hb x Hc → g x (wipe σ vs) Hc fun σ2 Hd => wipe σ2 vs = wipe σ vs ∧ tt σ2 Hd fun b He =>
        if b = true then wi1 σ2 He fun J1 Hf => ∃ W1 : Nat → Nat → Hp → Prop, (∃ m, W1 0 m Hf) ∧ ∀ j k Hg, W1 j k Hg → (J1.stop j Hg ∧ Nx Hg) ∨
          (J1.go j Hg ∧ ∃ Nx1 : Hp → Prop, (∀ Hh, Nx1 Hh → ∃ k', k' < k ∧ W1 (j + 1) k' Hh) ∧ ∀ x Hh, J1.yld j Hg x Hh → g1 x (wipe σ2 vs1) Hh fun σ3 Hi => wipe σ3 vs1 = wipe σ2 vs1 ∧ tt1 σ3 Hi fun b Hj =>
            if b = true then te σ3 Hj (Adds P w D Nx1) else Nx1 Hj)
        else Nx He) := by
  refine ⟨fun i m H => m = n - i ∧ i ≤ n ∧ Pv i H, ⟨n, by simp, Nat.zero_le _, h0⟩, fun i m H z => ?_⟩
  obtain ⟨rfl, hi, p⟩ := z
  by_cases hlt : i < n
  · exact .inr ⟨wk.goes i H hlt (hG i H hi p), Pv (i + 1), fun H' p' => ⟨n - (i + 1), by omega, rfl, hlt, p'⟩, fun x H' y => hs i x H H' hlt p (wk.yields i H x H' hlt (hG i H hi p) y)⟩
  · obtain rfl : i = n := by omega
    exact .inl ⟨wk.stops H (hG i H hi p), hd H p⟩
/-! ### several dicts under a lock -/
def lockN : Nat → TE → TE
  | 0, t => t
  | n + 1, t => tLockE (lockN n t)
theorem pe_lockN {X : Cx} {e : Expr} {t : TE} (h : PE X e t) : ∀ n, PE X e (lockN n t)
  | 0 => h
  | n + 1 => pe_lock (pe_lockN h n)
/-- the dicts ds are locked -/
def lockH (od : Addr → Obj) (ds : List Addr) (H : Hp) : Hp := fun b => if b ∈ ds then (H b).map (HO.frz (od b)) else H b
/-- .. unlocked again -/
def freeH (ds : List Addr) (H H' : Hp) : Hp := fun b => if b ∈ ds then H b else H' b
theorem lockN_read {t : TE} {σ : L2.St} : ∀ {ds : List Addr} {H : Hp} {Q : VK}, ds.Nodup → (∀ d ∈ ds, ∃ kvs, H d = some (.dK kvs)) →
    (∀ od, t σ (lockH od ds H) fun v H' => (∀ d ∈ ds, H' d = lockH od ds H d) ∧ Q v (freeH ds H H')) → lockN ds.length t σ H Q
  | [], H, Q, _, _, h => by
    have e : lockH (fun _ => { cls := .none, data := .fields #[] }) [] H = H := by
      funext b
      unfold lockH
      rw [if_neg (by simp)]
    have q := h fun _ => { cls := .none, data := .fields #[] }
    rw [e] at q
    have e2 : (fun v H' => (∀ d ∈ ([] : List Addr), H' d = H d) ∧ Q v (freeH [] H H')) = Q := by
      funext v H'
      have e3 : freeH [] H H' = H' := by
        funext b
        unfold freeH
        rw [if_neg (by simp)]
      rw [e3]
      exact propext ⟨fun z => z.2, fun z => ⟨fun d hd => (nomatch hd), z⟩⟩
    rw [e2] at q
    exact q
  | d :: ds, H, Q, nd, hk, h => by
    obtain ⟨nd1, nd2⟩ := List.nodup_cons.mp nd
    obtain ⟨kvs, hd⟩ := hk d List.mem_cons_self
    refine ⟨d, _, hd, trivial, fun o0 => lockN_read nd2 (fun x hx => ?_) fun od' => ?_⟩
    · obtain ⟨k2, e⟩ := hk x (List.mem_cons_of_mem _ hx)
      exact ⟨k2, by rw [upd_ne (fun z => nd1 (by rw [← z]; exact hx))]; exact e⟩
    · have hL : lockH od' ds (upd H d (.frz o0 (.dK kvs))) = lockH (fun b => if b = d then o0 else od' b) (d :: ds) H := by
        funext b
        unfold lockH
        by_cases c : b = d
        · subst c
          rw [if_neg nd1, if_pos List.mem_cons_self, upd_same, hd]
          show some (HO.frz o0 (.dK kvs)) = some (HO.frz (if b = b then o0 else od' b) (.dK kvs))
          rw [if_pos rfl]
        · have e : (if b = d then o0 else od' b) = od' b := if_neg c
          show _ = if b ∈ d :: ds then Option.map (HO.frz (if b = d then o0 else od' b)) (H b) else H b
          rw [upd_ne c, e]
          by_cases c2 : b ∈ ds
          · rw [if_pos c2, if_pos (List.mem_cons_of_mem _ c2)]
          · rw [if_neg c2, if_neg (fun z => (List.mem_cons.mp z).elim c c2)]
      have q := h fun b => if b = d then o0 else od' b
      rw [← hL] at q
      have e2 : (fun v H' => (∀ x ∈ d :: ds, H' x = lockH od' ds (upd H d (.frz o0 (.dK kvs))) x) ∧ Q v (freeH (d :: ds) H H')) =
          fun v H' => (∀ x ∈ ds, H' x = lockH od' ds (upd H d (.frz o0 (.dK kvs))) x) ∧ (freeH ds (upd H d (.frz o0 (.dK kvs))) H' d = some (.frz o0 (.dK kvs)) ∧ Q v (upd (freeH ds (upd H d (.frz o0 (.dK kvs))) H') d (.dK kvs))) := by
        funext v H'
        have f1 : freeH ds (upd H d (.frz o0 (.dK kvs))) H' d = H' d := if_neg nd1
        have f2 : upd (freeH ds (upd H d (.frz o0 (.dK kvs))) H') d (.dK kvs) = freeH (d :: ds) H H' := by
          funext b
          by_cases c : b = d
          · subst c
            rw [upd_same]
            unfold freeH
            rw [if_pos List.mem_cons_self, hd]
          · rw [upd_ne c]
            unfold freeH
            by_cases c2 : b ∈ ds
            · rw [if_pos c2, if_pos (List.mem_cons_of_mem _ c2), upd_ne c]
            · rw [if_neg c2, if_neg (fun z => (List.mem_cons.mp z).elim c c2)]
        have f3 : lockH od' ds (upd H d (.frz o0 (.dK kvs))) d = some (.frz o0 (.dK kvs)) := by
          unfold lockH
          rw [if_neg nd1, upd_same]
        rw [f1, f2]
        exact propext ⟨fun z => ⟨fun x hx => z.1 x (List.mem_cons_of_mem _ hx), (z.1 d List.mem_cons_self).trans f3, z.2⟩,
          fun z => ⟨fun x hx => (List.mem_cons.mp hx).elim (fun e => by rw [e, f3]; exact z.2.1) (z.1 x), z.2.2⟩⟩
      rw [e2] at q
      exact q
end TxS
/-! ## P9 -/
set_option Elab.async false
set_option linter.all false
set_option maxRecDepth 100000
set_option maxHeartbeats 4000000
namespace Sl
open PySem PySem.Spec PyProof.Rows L2 TxS
abbrev sCollect : Stmt := inClass (top 26) 2
abbrev Rw := List (Str × Mv)
inductive RowsAt (H : Hp) : List Addr → List Rw → Prop
  | nil : RowsAt H [] []
  | cons {d : Addr} {r : Rw} {ds : List Addr} {rows : List Rw} : RowAt H d r → RowsAt H ds rows → RowsAt H (d :: ds) (r :: rows)
theorem RowAt.same {H H' : Hp} {d : Addr} {r : Rw} (h : RowAt H d r) (e : H' d = H d) (t : ∀ t xs, H t = some (.tup xs) → H' t = some (.tup xs)) : RowAt H' d r := by
  obtain ⟨es, a, b⟩ := h
  exact ⟨es, e.trans a, b.ext t⟩
theorem RowsAt.ext {H H' : Hp} (x : Ext H H') : ∀ {ds : List Addr} {rows : List Rw}, RowsAt H ds rows → RowsAt H' ds rows
  | _, _, .nil => .nil
  | _, _, .cons ⟨es, a, b⟩ h => .cons ⟨es, x _ _ a, b.ext fun t xs e => x _ _ e⟩ (h.ext x)
theorem RowsAt.len {H : Hp} : ∀ {ds : List Addr} {rows : List Rw}, RowsAt H ds rows → ds.length = rows.length
  | _, _, .nil => rfl
  | _, _, .cons _ h => congrArg (· + 1) h.len
theorem RowsAt.at_ {H : Hp} : ∀ {ds : List Addr} {rows : List Rw} {i : Nat} {d : Addr}, RowsAt H ds rows → ds[i]? = some d → ∃ r, rows[i]? = some r ∧ RowAt H d r
  | _, _, 0, _, .cons (r := r) h _, q => by cases q; exact ⟨r, rfl, h⟩
  | _, _, i + 1, _, .cons _ h, q => h.at_ (i := i) q
  | _, _, 0, _, .nil, q => by cases q
  | _, _, i + 1, _, .nil, q => by cases q
def keysOf (rows : List Rw) : List Str := rows.flatMap fun r => r.map (·.1)
def toldsOf (rows : List Rw) : List Str := rows.flatMap fun r => r.filterMap fun e => e.2.2
theorem len_le : ∀ {l A : List Str}, l.Nodup → (∀ k ∈ l, k ∈ A) → l.length ≤ A.length
  | [], _, _, _ => Nat.zero_le _
  | x :: l, A, nd, h => by
    obtain ⟨nx, nd'⟩ := List.nodup_cons.mp nd
    have p := (List.perm_cons_erase (h x List.mem_cons_self)).length_eq
    have q := len_le (l := l) (A := A.erase x) nd' fun k hk => (List.mem_erase_of_ne (fun z => nx (by rw [← z]; exact hk))).mpr (h k (List.mem_cons_of_mem _ hk))
    rw [List.length_cons] at p ⊢
    omega
/-- a list that gathers: each once, of what is in S -/
def Gath (l : List Str) (S : List Str) : Prop := l.Nodup ∧ ∀ z, z ∈ l ↔ z ∈ S
theorem Gath.put {l S : List Str} {k : Str} (g : Gath l S) : Gath (if k ∈ l then l else k :: l) (S ++ [k]) := by
  by_cases c : k ∈ l
  · rw [if_pos c]
    refine ⟨g.1, fun z => ?_⟩
    rw [List.mem_append, g.2 z, List.mem_singleton]
    exact ⟨.inl, fun h => h.elim id fun e => by rw [e]; exact (g.2 k).mp c⟩
  · rw [if_neg c]
    refine ⟨List.nodup_cons.mpr ⟨c, g.1⟩, fun z => ?_⟩
    rw [List.mem_append, List.mem_cons, g.2 z, List.mem_singleton]
    exact Or.comm
theorem Gath.room {l S A : List Str} (g : Gath l S) (h : ∀ z ∈ S, z ∈ A) (hA : A.length < 64) : l.length < 64 ∧ l.length + 1 < scanBound := by
  have q := len_le g.1 fun k hk => h k ((g.2 k).mp hk)
  unfold scanBound
  exact ⟨by omega, by omega⟩
def tellsAll (r : Rw) : List Str := r.filterMap fun e => e.2.2
section
variable {P : Program} {w : World} {K : PySem.W.Frag} {mg : Str → Option Value} {base : Heap}
/-- the walk over all keys of all rows: state in slot 3, sign in slot 2 -/
theorem read_keys {s0 s1 s2 s3 s4 s5 : Option V} {H : Hp} {Q : VK} {ts : TE} {L : Addr} {ds : List Addr} {rows : List Rw} {A : List Str} (hts : ∀ (H0 : Hp) (Q : VK), H0 L = some (.lst (ds.map V.ref)) → (∀ b o, H b = some o → b ∉ ds → H0 b = some o) → Q (.ref L) H0 → ts [s0, s1, s2, s3, s4, s5] H0 Q)
    (hL : H L = some (.lst (ds.map V.ref))) (nd : ds.Nodup) (hr : RowsAt H ds rows) (hA : ∀ z ∈ keysOf rows, z ∈ A) (h64 : A.length < 64)
    (q : ∀ (H' : Hp) (D : Addr) (l : List Str), Ext H H' → H D = none → H' D = some (SetSO P w D l) → Gath l (keysOf rows) → Q (.ref D) H') :
    lockN ds.length (tSc2 P w (iList K ts) (gName 3) tYes (iKeys (tVar 3)) (gName 2) tYes (tVar 2) [2, 3] [2]) [s0, s1, s2, s3, s4, s5] H Q := by
  refine lockN_read nd (fun d hd => ?_) fun od => ?_
  · obtain ⟨i, hi, e⟩ := List.mem_iff_getElem.mp hd
    obtain ⟨r, _, es, a, _⟩ := hr.at_ (i := i) (d := d) (by rw [List.getElem?_eq_getElem hi, e])
    exact ⟨_, a⟩
  · have hLd : L ∉ ds := fun hm => by
      obtain ⟨i, hi, e⟩ := List.mem_iff_getElem.mp hm
      obtain ⟨r, _, es, a, _⟩ := hr.at_ (i := i) (d := L) (by rw [List.getElem?_eq_getElem hi, e])
      rw [hL] at a
      cases a
    have out : ∀ b o, H b = some o → b ∉ ds → lockH od ds H b = some o := fun b o e n => by
      unfold lockH
      rw [if_neg n]
      exact e
    have hL0 := out L _ hL hLd
    refine hts _ _ hL0 out ⟨L, rfl, ⟨_, SqL.of hL0⟩, fun D hD => ?_⟩
    have hDd : D ∉ ds := fun hm => by
      obtain ⟨i, hi, e⟩ := List.mem_iff_getElem.mp hm
      obtain ⟨r, _, es, a, _⟩ := hr.at_ (i := i) (d := D) (by rw [List.getElem?_eq_getElem hi, e])
      unfold lockH at hD
      rw [if_pos hm, a] at hD
      cases hD
    have hDH : H D = none := by
      unfold lockH at hD
      rw [if_neg hDd] at hD
      exact hD
    refine sc2_out (walk_list (xs := ds.map V.ref)) (fun i H' => Ext (lockH od ds H) H' ∧ ∃ l, H' D = some (SetSO P w D l) ∧ Gath l (keysOf (rows.take i))) ⟨Ext.new hD, [], upd_same, List.nodup_nil, fun z => by simp [keysOf]⟩ (fun i H' _ h => SqL.of (h.1 _ _ hL0)) ?_ ?_
    · rintro i x H1 H2 hi ⟨h1, l, h2, h3⟩ ⟨rfl, hx⟩
      obtain ⟨d, hd, rfl⟩ := at_map hx
      obtain ⟨r, hri, es, he1, he2⟩ := hr.at_ hd
      have hdm := List.mem_of_getElem? hd
      have hdl : lockH od ds H d = some (.frz (od d) (.dK (kvsOf es))) := by
        unfold lockH
        rw [if_pos hdm, he1]
        rfl
      refine ⟨rfl, _, rfl, d, od d, rfl, .inl ⟨kvsOf es, h1 _ _ hdl, ?_⟩⟩
      have ek := he2.keys
      refine sc2_in walk_keys (fun j H' => Ext (lockH od ds H) H' ∧ ∃ l, H' D = some (SetSO P w D l) ∧ Gath l (keysOf (rows.take i) ++ (r.map (·.1)).take j)) ⟨h1, l, h2, by rw [List.take_zero, List.append_nil]; exact h3⟩ (fun j H' _ h => h.1 _ _ hdl) ?_ ?_
      · rintro j x H3 H4 hj ⟨g1, l', g2, g3⟩ ⟨rfl, k, v, hk, rfl⟩
        unfold kvsOf at hk
        rw [List.getElem?_map] at hk
        cases e : es[j]? with
        | none =>
          rw [e] at hk
          cases hk
        | some e0 =>
          rw [e] at hk
          have hk := Option.some.inj hk
          obtain ⟨rfl, rfl⟩ := Prod.mk.inj hk
          have hz : (r.map (·.1))[j]? = some e0.1 := by
            rw [← ek, List.getElem?_map, e]
            rfl
          have sub : ∀ z ∈ keysOf (rows.take i) ++ (r.map (·.1)).take j, z ∈ A := fun z hz => hA z (by
            unfold keysOf at hz ⊢
            rcases List.mem_append.mp hz with c | c
            · obtain ⟨r0, hr0, hz0⟩ := List.mem_flatMap.mp c
              exact List.mem_flatMap.mpr ⟨r0, List.mem_of_mem_take hr0, hz0⟩
            · exact List.mem_flatMap.mpr ⟨r, List.mem_of_getElem? hri, List.mem_of_mem_take c⟩)
          refine ⟨rfl, _, rfl, e0.1, l', rfl, g2, (g3.room sub h64).2, fun b o eb => by rw [upd_ne (ne_of_none eb hD)]; exact g1 b o eb, _, upd_same, ?_⟩
          rw [take_more hz, ← List.append_assoc]
          exact g3.put
      · rintro H3 ⟨g1, l', g2, g3⟩
        refine ⟨g1, l', g2, ?_⟩
        have e1 : (kvsOf es).length = (r.map (·.1)).length := by
          unfold kvsOf
          rw [List.length_map, List.length_map, he2.len]
        rw [e1, List.take_length] at g3
        have e2 : keysOf (rows.take (i + 1)) = keysOf (rows.take i) ++ r.map (·.1) := by
          unfold keysOf
          rw [take_more hri, List.flatMap_append]
          simp
        rw [e2]
        exact g3
    · rintro H' ⟨h1, l, h2, h3⟩
      rw [List.length_map, hr.len, List.take_length] at h3
      refine ⟨fun d hd => ?_, q _ D l (fun b o e => ?_) hDH ?_ h3⟩
      · obtain ⟨i, hi, e⟩ := List.mem_iff_getElem.mp hd
        obtain ⟨r, _, es, a, _⟩ := hr.at_ (i := i) (d := d) (by rw [List.getElem?_eq_getElem hi, e])
        have k : lockH od ds H d = some (.frz (od d) (.dK (kvsOf es))) := by
          unfold lockH
          rw [if_pos hd, a]
          rfl
        rw [k]
        exact h1 _ _ k
      · unfold freeH
        by_cases c : b ∈ ds
        · rw [if_pos c]
          exact e
        · rw [if_neg c]
          exact h1 _ _ (out _ _ e c)
      · unfold freeH
        rw [if_neg hDd]
        exact h2
def rNotN : R2 := fun x y H Q => y = .non ∧ Q (.bl (!decide (x = .non))) H
/-- the walk over all that the moves tell: state in slot 3, the next state in slot 4, told in slot 1 -/
theorem read_tolds {s0 s1 s2 s3 s4 s5 : Option V} {H : Hp} {Q : VK} {ts : TE} {L : Addr} {ds : List Addr} {rows : List Rw} {A : List Str} (hts : ∀ (H0 : Hp) (Q : VK), H0 L = some (.lst (ds.map V.ref)) → (∀ b o, H b = some o → b ∉ ds → H0 b = some o) → Q (.ref L) H0 → ts [s0, s1, s2, s3, s4, s5] H0 Q)
    (hL : H L = some (.lst (ds.map V.ref))) (nd : ds.Nodup) (hr : RowsAt H ds rows) (hA : ∀ z ∈ toldsOf rows, z ∈ A) (h64 : A.length < 64)
    (q : ∀ (H' : Hp) (D : Addr) (l : List Str), Ext H H' → H D = none → H' D = some (SetSO P w D l) → Gath l (toldsOf rows) → Q (.ref D) H') :
    lockN ds.length (tSc2 P w (iList K ts) (gName 3) tYes (iVals (tVar 3)) (gTup K 2 (gCons (gName 4) (gCons (gName 1) gNil))) (tTest (tOp rNotN (tVar 1) (tC .non))) (tVar 1) [1, 3, 4] [1, 4]) [s0, s1, s2, s3, s4, s5] H Q := by
  refine lockN_read nd (fun d hd => ?_) fun od => ?_
  · obtain ⟨i, hi, e⟩ := List.mem_iff_getElem.mp hd
    obtain ⟨r, _, es, a, _⟩ := hr.at_ (i := i) (d := d) (by rw [List.getElem?_eq_getElem hi, e])
    exact ⟨_, a⟩
  · have hLd : L ∉ ds := fun hm => by
      obtain ⟨i, hi, e⟩ := List.mem_iff_getElem.mp hm
      obtain ⟨r, _, es, a, _⟩ := hr.at_ (i := i) (d := L) (by rw [List.getElem?_eq_getElem hi, e])
      rw [hL] at a
      cases a
    have out : ∀ b o, H b = some o → b ∉ ds → lockH od ds H b = some o := fun b o e n => by
      unfold lockH
      rw [if_neg n]
      exact e
    have hL0 := out L _ hL hLd
    refine hts _ _ hL0 out ⟨L, rfl, ⟨_, SqL.of hL0⟩, fun D hD => ?_⟩
    have hDd : D ∉ ds := fun hm => by
      obtain ⟨i, hi, e⟩ := List.mem_iff_getElem.mp hm
      obtain ⟨r, _, es, a, _⟩ := hr.at_ (i := i) (d := D) (by rw [List.getElem?_eq_getElem hi, e])
      unfold lockH at hD
      rw [if_pos hm, a] at hD
      cases hD
    have hDH : H D = none := by
      unfold lockH at hD
      rw [if_neg hDd] at hD
      exact hD
    refine sc2_out (walk_list (xs := ds.map V.ref)) (fun i H' => Ext (lockH od ds H) H' ∧ ∃ l, H' D = some (SetSO P w D l) ∧ Gath l (toldsOf (rows.take i))) ⟨Ext.new hD, [], upd_same, List.nodup_nil, fun z => by simp [toldsOf]⟩ (fun i H' _ h => SqL.of (h.1 _ _ hL0)) ?_ ?_
    · rintro i x H1 H2 hi ⟨h1, l, h2, h3⟩ ⟨rfl, hx⟩
      obtain ⟨d, hd, rfl⟩ := at_map hx
      obtain ⟨r, hri, es, he1, he2⟩ := hr.at_ hd
      have hdm := List.mem_of_getElem? hd
      have hdl : lockH od ds H d = some (.frz (od d) (.dK (kvsOf es))) := by
        unfold lockH
        rw [if_pos hdm, he1]
        rfl
      refine ⟨rfl, _, rfl, d, od d, kvsOf es, rfl, h1 _ _ hdl, ?_⟩
      have ek := he2.keys
      refine sc2_in walk_values (fun j H' => Ext (lockH od ds H) H' ∧ ∃ l, H' D = some (SetSO P w D l) ∧ Gath l (toldsOf (rows.take i) ++ tellsAll (r.take j))) ⟨h1, l, h2, by rw [List.take_zero]; show Gath l (_ ++ []); rw [List.append_nil]; exact h3⟩ (fun j H' _ h => h.1 _ _ hdl) ?_ ?_
      · rintro j x H3 H4 hj ⟨g1, l', g2, g3⟩ ⟨rfl, k, hk⟩
        unfold kvsOf at hk
        rw [List.getElem?_map] at hk
        cases e : es[j]? with
        | none =>
          rw [e] at hk
          cases hk
        | some e0 =>
          rw [e] at hk
          have hk := Option.some.inj hk
          obtain ⟨rfl, rfl⟩ := Prod.mk.inj hk
          obtain ⟨m, hm, mt⟩ := he2.at_ e
          have mt : H e0.2 = some (.tup [.int m.1, toldV m.2]) := mt
          have ndt : e0.2 ∉ ds := fun hmem => by
            obtain ⟨i', hi', e'⟩ := List.mem_iff_getElem.mp hmem
            obtain ⟨r', _, es', a', _⟩ := hr.at_ (i := i') (d := e0.2) (by rw [List.getElem?_eq_getElem hi', e'])
            rw [mt] at a'
            cases a'
          have mt4 := g1 _ _ (out _ _ mt ndt)
          have e2 : tellsAll (r.take (j + 1)) = tellsAll (r.take j) ++ m.2.toList := by
            unfold tellsAll
            rw [take_more hm, List.filterMap_append]
            obtain ⟨mg, mo⟩ := m
            cases mo <;> rfl
          refine ⟨e0.2, _, rfl, SqT.of mt4, rfl, _, _, rfl, _, _, rfl, rfl, rfl, ?_⟩
          obtain ⟨mg, mo⟩ := m
          cases mo with
          | none =>
            refine ⟨_, rfl, rfl, false, rfl, ?_⟩
            refine ⟨g1, l', g2, ?_⟩
            rw [e2]
            show Gath l' (_ ++ (_ ++ []))
            rw [List.append_nil]
            exact g3
          | some z0 =>
            have sub : ∀ z ∈ toldsOf (rows.take i) ++ tellsAll (r.take j), z ∈ A := fun z hz => hA z (by
              unfold toldsOf at hz ⊢
              rcases List.mem_append.mp hz with c | c
              · obtain ⟨r0, hr0, hz0⟩ := List.mem_flatMap.mp c
                exact List.mem_flatMap.mpr ⟨r0, List.mem_of_mem_take hr0, hz0⟩
              · refine List.mem_flatMap.mpr ⟨r, List.mem_of_getElem? hri, ?_⟩
                obtain ⟨y, hy, hz0⟩ := List.mem_filterMap.mp c
                exact List.mem_filterMap.mpr ⟨y, List.mem_of_mem_take hy, hz0⟩)
            refine ⟨_, rfl, rfl, true, rfl, ?_⟩
            refine ⟨_, rfl, z0, l', rfl, g2, (g3.room sub h64).2, fun b o eb => by rw [upd_ne (ne_of_none eb hD)]; exact g1 b o eb, _, upd_same, ?_⟩
            rw [e2, ← List.append_assoc]
            exact g3.put
      · rintro H3 ⟨g1, l', g2, g3⟩
        refine ⟨g1, l', g2, ?_⟩
        have e1 : (kvsOf es).length = r.length := by
          unfold kvsOf
          rw [List.length_map, he2.len]
        rw [e1, List.take_length] at g3
        have e2 : toldsOf (rows.take (i + 1)) = toldsOf (rows.take i) ++ tellsAll r := by
          unfold toldsOf tellsAll
          rw [take_more hri, List.flatMap_append]
          simp
        rw [e2]
        exact g3
    · rintro H' ⟨h1, l, h2, h3⟩
      rw [List.length_map, hr.len, List.take_length] at h3
      refine ⟨fun d hd => ?_, q _ D l (fun b o e => ?_) hDH ?_ h3⟩
      · obtain ⟨i, hi, e⟩ := List.mem_iff_getElem.mp hd
        obtain ⟨r, _, es, a, _⟩ := hr.at_ (i := i) (d := d) (by rw [List.getElem?_eq_getElem hi, e])
        have k : lockH od ds H d = some (.frz (od d) (.dK (kvsOf es))) := by
          unfold lockH
          rw [if_pos hd, a]
          rfl
        rw [k]
        exact h1 _ _ k
      · unfold freeH
        by_cases c : b ∈ ds
        · rw [if_pos c]
          exact e
        · rw [if_neg c]
          exact h1 _ _ (out _ _ e c)
      · unfold freeH
        rw [if_neg hDd]
        exact h2
end
end Sl
/-! ## P10 -/
set_option Elab.async false
set_option linter.all false
set_option maxRecDepth 100000
set_option maxHeartbeats 4000000
namespace Sl
open PySem PySem.Spec PyProof.Rows L2 TxS
/-- what the walk asks of the class Reader as the top has made it -/
structure RdC (K : PySem.W.Frag) (C : Addr) : Prop where
  cl : Cls K C
  nS : NoAttr K C "_states"
  nE : NoAttr K C "_ends"
  nB : NoAttr K C "_start"
  nP : NoAttr K C "_page_signs"
  nT : NoAttr K C "_text_signs"
  nM : NoAttr K C "_marks"
def spCollect (C : Addr) : Sp := fun vs H Q _ => ∃ (p dx L : Addr) (fs : List (Str × V)) (ds : List Addr) (rows : List Rw) (A B : List Str), vs = [.ref p] ∧ H p = some (.ins C dx fs) ∧ fs.length < 900 ∧ fs.lookup ("_states" : Str) = some (.ref L) ∧ H L = some (.lst (ds.map V.ref)) ∧ ds.Nodup ∧ RowsAt H ds rows ∧
  (∀ z ∈ keysOf rows, z ∈ A) ∧ A.length < 64 ∧ (∀ z ∈ toldsOf rows, z ∈ B) ∧ B.length < 64 ∧ (∀ z ∈ keysOf rows, z.length ≤ 8) ∧ (∀ z ∈ toldsOf rows, z.length ≤ 8) ∧
  ∀ (H' : Hp) (M : Addr) (ys ts : List Str), Keep p H H' → H M = none → Gath ys (keysOf rows) → sortedS ys = true → Gath ts (toldsOf rows) → sortedS ts = true → H' M = some (.lst ((ts.filter markS).map V.str)) →
    H' p = some (.ins C dx (putF "_marks" (.ref M) (putF "_text_signs" (.str (Txt.join "" (ts.filter signS))) (putF "_page_signs" (.str (Txt.join "" ys)) fs)))) → Q .non H'
theorem Gath.perm {l ys S : List Str} (g : Gath l S) (p : ys.Perm l) : Gath ys S := ⟨p.nodup_iff.mpr g.1, fun z => p.mem_iff.trans (g.2 z)⟩
theorem Gath.le {l S : List Str} (g : Gath l S) {n : Nat} (h : ∀ z ∈ S, z.length ≤ n) : ∀ z ∈ l, z.length ≤ n := fun z hz => h z ((g.2 z).mp hz)
theorem sum_le : ∀ {l : List Str}, (∀ z ∈ l, z.length ≤ 8) → (l.map (·.length)).sum ≤ 8 * l.length
  | [], _ => Nat.zero_le _
  | z :: l, h => by
    have q := sum_le (l := l) fun y hy => h y (List.mem_cons_of_mem _ hy)
    have k := h z List.mem_cons_self
    rw [List.map_cons, List.sum_cons, List.length_cons]
    omega
theorem putF_len (f : Str) (v : V) : ∀ fs : List (Str × V), (putF f v fs).length ≤ fs.length + 1
  | [] => Nat.le_refl _
  | (g, y) :: fs => by
    have q := putF_len f v fs
    unfold putF
    split
    · rw [List.length_cons, List.length_cons]
      omega
    · rw [List.length_cons, List.length_cons]
      omega
theorem RowsAt.keep {H H' : Hp} {a : Addr} (k : Keep a H H') (n1 : ∀ kvs, H a ≠ some (.dK kvs)) (n2 : ∀ xs, H a ≠ some (.tup xs)) : ∀ {ds : List Addr} {rows : List Rw}, RowsAt H ds rows → RowsAt H' ds rows
  | _, _, .nil => .nil
  | _, _, .cons ⟨es, e, b⟩ h => .cons ⟨es, k _ _ e (fun z => n1 _ (by rw [← z]; exact e)), b.ext fun t xs e => k _ _ e (fun z => n2 _ (by rw [← z]; exact e))⟩ (h.keep k n1 n2)
theorem RowsAt.mem {H : Hp} {ds : List Addr} {rows : List Rw} (h : RowsAt H ds rows) {d : Addr} (hd : d ∈ ds) : ∃ kvs, H d = some (.dK kvs) := by
  obtain ⟨i, hi, e⟩ := List.mem_iff_getElem.mp hd
  obtain ⟨r, _, es, a, _⟩ := h.at_ (i := i) (d := d) (by rw [List.getElem?_eq_getElem hi, e])
  exact ⟨_, a⟩
theorem join_size {ys : List Str} {n : Nat} (h : ∀ z ∈ ys, z.length ≤ 8) (hn : ys.length < 64) : (ys.map (·.length)).sum + ys.length * n ≤ 16777216 → True := fun _ => trivial
theorem join_le {ys : List Str} (h : ∀ z ∈ ys, z.length ≤ 8) (hn : ys.length < 64) : (ys.map (·.length)).sum + ys.length * ("" : Str).length ≤ 16777216 := by
  have e : ("" : Str).length = 0 := by decide
  have q := sum_le h
  rw [e]
  omega
section
variable {P : Program} {w : World} {K : PySem.W.Frag} {mg : Str → Option Value} {base : Heap}
theorem scCollect : FnScope ["self", "told", "sign", "state", "_", "name"] ["self"] (defScope sCollect) := ⟨rfl, rfl, rfl, by decide +kernel, rfl, by decide +kernel, by decide +kernel⟩
theorem ok_collect {f C fS fM : Addr} {fd fdS fdM : FuncData} (F : Fun K "_collect_names" "Reader._collect_names" sCollect f fd) (T : RdC K C) (aS : At K mg "is_sign" fS fdS ["value"] []) (gS : FnOk P w K mg base CX0 2 fS fdS ["value"] (spText signS))
    (aM : At K mg "is_mark" fM fdM ["value"] []) (gM : FnOk P w K mg base CX0 3 fM fdM ["value"] (spText markS)) (zs : mg "sorted" = none) :
    FnOk P w K mg base CX0 4 f fd ["self"] (spCollect C) := by
  refine F.ok scCollect (fun vs H Q E h => ?_) (fun cdv A0 outer s H vs Q E hr h => ?_)
  · obtain ⟨p, dx, L, fs, ds, rows, A, B, rfl, _⟩ := h
    rfl
  · obtain ⟨p, dx, L, fs, ds, rows, A, B, rfl, hp, hfs, hst, hL, nd, hrw, hA, hA64, hB, hB64, k8, t8, q⟩ := h
    refine ⟨_, pss_cons (ps_fld (pv 0) (pe_join pe_str (pe_callB (cr_sortedTx rfl) (by rfl) zs (by decide +kernel) (pa_cons (pe_lockN (pe_sc2 (own := [("sign", 2), ("state", 3)]) (vs1 := [2]) (g := gName 3) (g1 := gName 2) (tt := tYes) (tt1 := tYes) rfl scCollect.nd (pi_list (pe_fld (pv 0) rfl))
          (blkOk_by (N := ["self", "told", "sign", "state", "_", "name"]) (sc := defScope sCollect) (by decide +kernel)) (by decide) (fun _ _ _ _ _ => pg_name (i := 3) scCollect.nd rfl (Or.inl rfl)) (fun _ _ _ _ _ => pts_nil) (fun _ _ _ _ _ => pi_keys (pv 3))
          (fun _ _ _ _ _ => pg_name (i := 2) scCollect.nd rfl (Or.inl rfl)) (fun _ _ _ _ _ => pts_nil) (fun _ _ _ _ _ => pv 2)) ds.length) pa_nil))) rfl)
      (pss_cons (ps_set (i := 1) scCollect.nd rfl (Or.inl rfl) (pe_callB (cr_sortedTx rfl) (by rfl) zs (by decide +kernel) (pa_cons (pe_lockN (pe_sc2 (own := [("told", 1), ("state", 3), ("_", 4)]) (vs1 := [1, 4]) (g := gName 3) (g1 := gTup K 2 (gCons (gName 4) (gCons (gName 1) gNil))) (tt := tYes) (tt1 := tTest (tOp rNotN (tVar 1) (tC .non))) rfl scCollect.nd (pi_list (pe_fld (pv 0) rfl))
          (blkOk_by (N := ["self", "told", "sign", "state", "_", "name"]) (sc := defScope sCollect) (by decide +kernel)) (by decide) (fun _ _ _ _ _ => pg_name (i := 3) scCollect.nd rfl (Or.inl rfl)) (fun _ _ _ _ _ => pts_nil) (fun _ _ _ _ _ => pi_values (pv 3))
          (fun _ _ _ _ _ => pg_tup rfl (pgs_cons (pg_name (i := 4) scCollect.nd rfl (Or.inl rfl)) (pgs_cons (pg_name (i := 1) scCollect.nd rfl (Or.inl rfl)) pgs_nil))) (fun _ _ _ _ _ => pts_one (pt_cmpR op_notN (pv 1) pe_non (nomark _))) (fun _ _ _ _ _ => pv 1)) ds.length) pa_nil)))
      (pss_cons (ps_fld (pv 0) (pe_join pe_str (pe_lc (own := [("name", 5)]) (g := gName 5) (tt := tTest (tCall (spText signS) [] (fun _ _ _ => False) (tCons (tVar 5) tNil))) rfl scCollect.nd (pi_list (pv 1)) (blkOk_by (N := ["self", "told", "sign", "state", "_", "name"]) (sc := defScope sCollect) (by decide +kernel))
          (fun _ _ _ _ _ => pg_name (i := 5) scCollect.nd rfl (Or.inl rfl)) (fun _ _ _ _ _ => pts_one (pt_val (pe_call gS (hr.mono (by decide)) (by rfl) aS.g aS.kp aS.b .nil pass0 (pa_cons (pv 5) pa_nil)))) (fun _ _ _ _ _ => pv 5))) rfl)
      (pss_one (ps_fld (pv 0) (pe_lc (own := [("name", 5)]) (g := gName 5) (tt := tTest (tCall (spText markS) [] (fun _ _ _ => False) (tCons (tVar 5) tNil))) rfl scCollect.nd (pi_list (pv 1)) (blkOk_by (N := ["self", "told", "sign", "state", "_", "name"]) (sc := defScope sCollect) (by decide +kernel))
          (fun _ _ _ _ _ => pg_name (i := 5) scCollect.nd rfl (Or.inl rfl)) (fun _ _ _ _ _ => pts_one (pt_val (pe_call gM hr (by rfl) aM.g aM.kp aM.b .nil pass0 (pa_cons (pv 5) pa_nil)))) (fun _ _ _ _ _ => pv 5)) rfl)))), ?_⟩
    have npd : p ∉ ds := fun hm => by
      obtain ⟨kvs, e⟩ := hrw.mem hm
      rw [hp] at e
      cases e
    have npL : L ≠ p := ne_of hL hp (by intro z; cases z)
    have hu := hu_of hr
    -- self._page_signs
    refine ⟨⟨_, rfl⟩, read_keys (fun H0 Q0 h1 h2 q0 => ⟨_, rfl, p, C, dx, _, _, rfl, h2 _ _ hp npd, T.cl, T.nS, hst, q0⟩) hL nd hrw hA hA64 fun H1 D l x1 _ hD g1 => ?_⟩
    refine ⟨D, l, rfl, hD, (g1.room hA hA64).1, fun ys L1 pm1 sr1 nL1 => ?_⟩
    have gy := g1.perm pm1
    have ly : ys.length < 64 := (gy.room hA hA64).1
    refine ⟨_, L1, ys, rfl, rfl, .inl (SqL.of upd_same), join_le (gy.le k8) ly, ?_⟩
    have p1 : (upd H1 L1 (.lst (ys.map V.str))) p = some (.ins C dx fs) := (x1.trans (Ext.new nL1)) _ _ hp
    refine ⟨_, rfl, p, C, dx, fs, rfl, p1, T.cl, T.nP, by omega, ?_⟩
    have kA : Keep p H (upd (upd H1 L1 (.lst (ys.map V.str))) p (.ins C dx (putF "_page_signs" (.str (Txt.join "" ys)) fs))) := fun b o e n => by
      rw [upd_ne n]
      exact (x1.trans (Ext.new nL1)) _ _ e
    have pA : (upd (upd H1 L1 (.lst (ys.map V.str))) p (.ins C dx (putF "_page_signs" (.str (Txt.join "" ys)) fs))) p = some (.ins C dx (putF "_page_signs" (.str (Txt.join "" ys)) fs)) := upd_same
    generalize upd (upd H1 L1 (.lst (ys.map V.str))) p (.ins C dx (putF "_page_signs" (.str (Txt.join "" ys)) fs)) = HA at kA pA ⊢
    have rwA := hrw.keep kA (fun kvs e => by rw [hp] at e; cases e) (fun xs e => by rw [hp] at e; cases e)
    have stA : (putF "_page_signs" (.str (Txt.join "" ys)) fs).lookup ("_states" : Str) = some (.ref L) := by
      rw [lookup_putF, if_neg (by decide +kernel)]
      exact hst
    have LA := kA _ _ hL npL
    -- told
    refine read_tolds (fun H0 Q0 h1 h2 q0 => ⟨_, rfl, p, C, dx, _, _, rfl, h2 _ _ pA npd, T.cl, T.nS, stA, q0⟩) LA nd rwA hB hB64 fun H2 D2 l2 x2 _ hD2 g2 => ?_
    refine ⟨D2, l2, rfl, hD2, (g2.room hB hB64).1, fun ts Lt pm2 sr2 nL2 => ?_⟩
    have gt := g2.perm pm2
    have lt : ts.length < 64 := (gt.room hB hB64).1
    have x3 : Ext HA (upd H2 Lt (.lst (ts.map V.str))) := x2.trans (Ext.new nL2)
    have tL : (upd H2 Lt (.lst (ts.map V.str))) Lt = some (.lst (ts.map V.str)) := upd_same
    generalize upd H2 Lt (.lst (ts.map V.str)) = H3 at x3 tL ⊢
    -- a list of the told names that pass a test
    have pick : ∀ (t : Str → Bool) (H4 : Hp) (σ : L2.St) (Q0 : VK), σ = [some (.ref p), some (.ref Lt), none, none, none, none] → H4 Lt = some (.lst (ts.map V.str)) → (∀ (H5 : Hp) (D5 : Addr), Ext H4 H5 → H4 D5 = none → H5 D5 = some (.lst ((ts.filter t).map V.str)) → Q0 (.ref D5) H5) →
        tLc (iList K (tVar 1)) (gName 5) (tTest (tCall (spText t) [] (fun _ _ _ => False) (tCons (tVar 5) tNil))) (tVar 5) [5] σ H4 Q0 := by
      rintro t H4 σ Q0 rfl h4 q0
      refine ⟨_, rfl, Lt, rfl, ⟨_, SqL.of h4⟩, fun D5 nD5 => ?_⟩
      refine lc_it (walk_list (xs := ts.map V.str)) (fun i H5 => Ext H4 H5 ∧ H5 D5 = some (.lst (((ts.take i).filter t).map V.str))) ⟨Ext.new nD5, upd_same⟩ (fun i H5 _ h => SqL.of (h.1 _ _ h4)) ?_ ?_
      · rintro i x H5 H6 hi ⟨h1, h2⟩ ⟨rfl, hx⟩
        obtain ⟨z, hz, rfl⟩ := at_map hx
        have z8 := gt.le t8 z (List.mem_of_getElem? hz)
        refine ⟨rfl, _, rfl, z, rfl, by omega, fun H7 e7 => ⟨_, rfl, ?_⟩⟩
        rw [take_more hz, List.filter_append]
        have x7 : Ext H4 H7 := h1.trans e7
        have l7 := e7 _ _ h2
        have li : ((ts.take i).filter t).length ≤ ts.length := Nat.le_trans (List.length_filter_le _ _) (by rw [List.length_take]; omega)
        cases ct : t z with
        | false =>
          have e1 : List.filter t [z] = [] := by rw [List.filter_cons_of_neg (by rw [ct]; exact Bool.false_ne_true)]; rfl
          rw [e1, List.append_nil]
          exact ⟨x7, l7⟩
        | true =>
          have e1 : List.filter t [z] = [z] := by rw [List.filter_cons_of_pos ct]; rfl
          rw [e1, List.map_append]
          refine ⟨_, rfl, _, l7, by rw [List.length_map]; exact small_list (by omega), fun b o e => by rw [upd_ne (ne_of_none e nD5)]; exact x7 _ _ e, upd_same⟩
      · rintro H5 ⟨h1, h2⟩
        rw [List.length_map, List.take_length] at h2
        exact q0 H5 D5 h1 nD5 h2
    -- self._text_signs
    refine ⟨⟨_, rfl⟩, pick signS H3 _ _ rfl tL fun H4 D4 x4 nD4 l4 => ?_⟩
    have lf : (ts.filter signS).length ≤ ts.length := List.length_filter_le _ _
    refine ⟨_, D4, ts.filter signS, rfl, rfl, .inl (SqL.of l4), join_le (fun z hz => gt.le t8 z (List.mem_filter.mp hz).1) (by omega), ?_⟩
    have fA := putF_len "_page_signs" (.str (Txt.join "" ys)) fs
    refine ⟨_, rfl, p, C, dx, _, rfl, x4 _ _ (x3 _ _ pA), T.cl, T.nT, by omega, ?_⟩
    have kB : Keep p H (upd H4 p (.ins C dx (putF "_text_signs" (.str (Txt.join "" (ts.filter signS))) (putF "_page_signs" (.str (Txt.join "" ys)) fs)))) := fun b o e n => by
      rw [upd_ne n]
      exact x4 _ _ (x3 _ _ (kA b o e n))
    have pB : (upd H4 p (.ins C dx (putF "_text_signs" (.str (Txt.join "" (ts.filter signS))) (putF "_page_signs" (.str (Txt.join "" ys)) fs)))) p = some (.ins C dx (putF "_text_signs" (.str (Txt.join "" (ts.filter signS))) (putF "_page_signs" (.str (Txt.join "" ys)) fs))) := upd_same
    have tL4 : (upd H4 p (.ins C dx (putF "_text_signs" (.str (Txt.join "" (ts.filter signS))) (putF "_page_signs" (.str (Txt.join "" ys)) fs)))) Lt = some (.lst (ts.map V.str)) := by
      rw [upd_ne (ne_of tL (x3 _ _ pA) (by intro z; cases z))]
      exact x4 _ _ tL
    have nn : ∀ b, (upd H4 p (.ins C dx (putF "_text_signs" (.str (Txt.join "" (ts.filter signS))) (putF "_page_signs" (.str (Txt.join "" ys)) fs)))) b = none → H b = none := fun b hb => by
      cases e : H b with
      | none => rfl
      | some o =>
        by_cases c : b = p
        · rw [c, pB] at hb
          cases hb
        · rw [kB b o e c] at hb
          cases hb
    have fB := putF_len "_text_signs" (.str (Txt.join "" (ts.filter signS))) (putF "_page_signs" (.str (Txt.join "" ys)) fs)
    generalize upd H4 p (.ins C dx (putF "_text_signs" (.str (Txt.join "" (ts.filter signS))) (putF "_page_signs" (.str (Txt.join "" ys)) fs))) = HB at kB pB tL4 nn ⊢
    -- self._marks
    show sFld K (tVar 0) (tLc (iList K (tVar 1)) (gName 5) (tTest (tCall (spText markS) [] (fun _ _ _ => False) (tCons (tVar 5) tNil))) (tVar 5) [5]) "_marks" { nx := fun _ H' => Q .non H', rt := Q } [some (V.ref p), some (V.ref Lt), none, none, none, none] HB
    unfold sFld
    refine pick markS HB _ _ rfl tL4 fun H5 D5 x5 nD5 l5 => ?_
    refine ⟨_, rfl, p, C, dx, _, rfl, x5 _ _ pB, T.cl, T.nM, by omega, ?_⟩
    refine q _ D5 ys ts (fun b o e n => ?_) (nn _ nD5) gy sr1 gt sr2 ?_ upd_same
    · rw [upd_ne n]
      exact x5 _ _ (kB b o e n)
    · rw [upd_ne (ne_of l5 (x5 _ _ pB) (by intro z; cases z))]
      exact l5
end
end Sl
/-! ## P11 -/
set_option Elab.async false
set_option linter.all false
set_option maxRecDepth 100000
set_option maxHeartbeats 4000000
namespace Sl
open PySem PySem.Spec PyProof.Rows L2 TxS
abbrev sLimits : Stmt := inClass (top 26) 3
abbrev sInit : Stmt := inClass (top 26) 1
def spLimits (C : Addr) : Sp := fun vs H Q _ => ∃ (p dx M : Addr) (fs : List (Str × V)) (a b : Str) (ms : List V), vs = [.ref p] ∧ H p = some (.ins C dx fs) ∧ fs.lookup ("_page_signs" : Str) = some (.str a) ∧ fs.lookup ("_text_signs" : Str) = some (.str b) ∧ fs.lookup ("_marks" : Str) = some (.ref M) ∧
  H M = some (.lst ms) ∧ a.length ≤ 6 ∧ b.length ≤ 4 ∧ ms.length ≤ 6 ∧ Q .non H
section
variable {P : Program} {w : World} {K : PySem.W.Frag} {mg : Str → Option Value} {base : Heap}
theorem scLimits : FnScope ["self"] ["self"] (defScope sLimits) := ⟨rfl, rfl, rfl, by decide +kernel, rfl, by decide +kernel, by decide +kernel⟩
theorem ok_limits {f C : Addr} {fd : FuncData} {t1 t2 t3 : Tok} (F : Fun K "_check_limits" "Reader._check_limits" sLimits f fd) (T : RdC K C) (zn : mg "len" = none) (m1 : mg "MAX_PAGE_SIGNS" = some (.int 6 t1)) (m2 : mg "MAX_TEXT_SIGNS" = some (.int 4 t2)) (m3 : mg "MAX_MARKS" = some (.int 6 t3)) :
    FnOk P w K mg base CX0 1 f fd ["self"] (spLimits C) := by
  refine F.ok scLimits (fun vs H Q E h => ?_) (fun cdv A0 outer s H vs Q E hr h => ?_)
  · obtain ⟨p, dx, M, fs, a, b, ms, rfl, _⟩ := h
    rfl
  · obtain ⟨p, dx, M, fs, a, b, ms, rfl, hp, ha, hb, hm, hM, la, lb, lm, q⟩ := h
    refine ⟨_, pss_cons (ps_if (pt_cmpR op_gt (pe_callB call_len_str (by rfl) zn PySem.boot_len (pa_cons (pe_fld (pv 0) rfl) pa_nil)) (pe_glob (v := .int 6) rfl m1 ⟨_, rfl⟩) (nomark _)) (pss_one ps_never) pss_nil)
      (pss_cons (ps_if (pt_cmpR op_gt (pe_callB call_len_str (by rfl) zn PySem.boot_len (pa_cons (pe_fld (pv 0) rfl) pa_nil)) (pe_glob (v := .int 4) rfl m2 ⟨_, rfl⟩) (nomark _)) (pss_one ps_never) pss_nil)
      (pss_one (ps_if (pt_cmpR op_gt (pe_callB call_len_seq (by rfl) zn PySem.boot_len (pa_cons (pe_fld (pv 0) rfl) pa_nil)) (pe_glob (v := .int 6) rfl m3 ⟨_, rfl⟩) (nomark _)) (pss_one ps_never) pss_nil))), ?_⟩
    refine ⟨_, rfl, p, C, dx, _, _, rfl, hp, T.cl, T.nP, ha, a, rfl, small_size (by omega), _, _, rfl, rfl, _, rfl, ?_⟩
    rw [decide_eq_false (by omega)]
    refine iteF ?_
    refine ⟨_, rfl, p, C, dx, _, _, rfl, hp, T.cl, T.nT, hb, b, rfl, small_size (by omega), _, _, rfl, rfl, _, rfl, ?_⟩
    rw [decide_eq_false (by omega)]
    refine iteF ?_
    refine ⟨_, rfl, p, C, dx, _, _, rfl, hp, T.cl, T.nM, hm, M, ms, rfl, .inl (SqL.of hM), _, _, rfl, rfl, _, rfl, ?_⟩
    rw [decide_eq_false (by omega)]
    refine iteF ?_
    exact q
/-! ### a reader -/
/-- a reader stands at p: its rows, its ends, its start -/
structure ReaderAt (C : Addr) (H : Hp) (p : Addr) (rows : List Rw) (ends : List Int) (b : Int) : Prop where
  ex : ∃ dx fs L ds Te, H p = some (.ins C dx fs) ∧ fs.lookup ("_states" : Str) = some (.ref L) ∧ H L = some (.lst (ds.map V.ref)) ∧ RowsAt H ds rows ∧ fs.lookup ("_ends" : Str) = some (.ref Te) ∧ H Te = some (.tup (ends.map V.int)) ∧
    fs.lookup ("_start" : Str) = some (.int b) ∧ ∀ f, f ∉ (["_states", "_ends", "_start", "_page_signs", "_text_signs", "_marks"] : List Str) → fs.lookup f = none
inductive Perms : List Rw → List Rw → Prop
  | nil : Perms [] []
  | cons {r r' : Rw} {rs rs' : List Rw} : r.Perm r' → Perms rs rs' → Perms (r :: rs) (r' :: rs')
theorem scInit : FnScope ["self", "states", "ends", "start", "index", "state"] ["self", "states", "ends", "start"] (defScope sInit) := ⟨rfl, rfl, rfl, by decide +kernel, rfl, by decide +kernel, by decide +kernel⟩
end
end Sl
/-! ## P12 -/
set_option Elab.async false
set_option linter.all false
set_option maxRecDepth 100000
set_option maxHeartbeats 4000000
namespace Sl
open PySem PySem.Spec PyProof.Rows L2 TxS
/-- what Reader(..) asks of its arguments, and what it makes of them -/
def spInit (C : Addr) : Sp := fun vs H Q _ => ∃ (p dx S En : Addr) (ds : List Addr) (rows : List Rw) (ns : List Int) (b : Int) (A B : List Str), vs = [.ref p, .ref S, .ref En, .int b] ∧ H p = some (.ins C dx []) ∧ H S = some (.lst (ds.map V.ref)) ∧ RowsAt H ds rows ∧
  1 ≤ rows.length ∧ rows.length ≤ 12 ∧ (∀ r ∈ rows, okRow rows.length r ∧ (r.map (·.1)).Nodup ∧ r.length < 64) ∧ H En = some (.lst (ns.map V.int)) ∧ ns.length < 64 ∧ ns.Nodup ∧ (∀ i ∈ ns, 0 ≤ i ∧ i < rows.length) ∧ 0 ≤ b ∧ b < rows.length ∧
  (∀ z ∈ keysOf rows, z ∈ A) ∧ A.length ≤ 6 ∧ (∀ z ∈ toldsOf rows, z ∈ B) ∧ B.length < 64 ∧ (B.filter signS).length ≤ 4 ∧ (B.filter markS).length ≤ 6 ∧
  ∀ (H' : Hp) (rows' : List Rw) (ns' : List Int), Keep p H H' → Perms rows rows' → ns'.Perm ns → ReaderAt C H' p rows' ns' b → Q .non H'
theorem Perms.len : ∀ {a b : List Rw}, Perms a b → a.length = b.length
  | _, _, .nil => rfl
  | _, _, .cons _ h => congrArg (· + 1) h.len
theorem Perms.snoc {r r' : Rw} (p : r.Perm r') : ∀ {a b : List Rw}, Perms a b → Perms (a ++ [r]) (b ++ [r'])
  | _, _, .nil => .cons p .nil
  | _, _, .cons q h => .cons q (h.snoc p)
theorem Perms.keys : ∀ {a b : List Rw}, Perms a b → ∀ z, z ∈ keysOf b ↔ z ∈ keysOf a
  | _, _, .nil, _ => Iff.rfl
  | _, _, .cons (r := r) (r' := r') q h, z => by
    unfold keysOf
    rw [List.flatMap_cons, List.flatMap_cons, List.mem_append, List.mem_append]
    exact or_congr ((q.map (·.1)).mem_iff).symm (h.keys z)
theorem Perms.tolds : ∀ {a b : List Rw}, Perms a b → ∀ z, z ∈ toldsOf b ↔ z ∈ toldsOf a
  | _, _, .nil, _ => Iff.rfl
  | _, _, .cons (r := r) (r' := r') q h, z => by
    unfold toldsOf
    rw [List.flatMap_cons, List.flatMap_cons, List.mem_append, List.mem_append]
    exact or_congr ((q.filterMap _).mem_iff).symm (h.tolds z)
theorem RowsAt.snoc {H : Hp} {d : Addr} {r : Rw} (h : RowAt H d r) : ∀ {ds : List Addr} {rows : List Rw}, RowsAt H ds rows → RowsAt H (ds ++ [d]) (rows ++ [r])
  | _, _, .nil => .cons h .nil
  | _, _, .cons q k => .cons q (k.snoc h)
theorem tolds_name {n : Int} {rows : List Rw} (h : ∀ r ∈ rows, okRow n r) : ∀ z ∈ toldsOf rows, z.length ≤ 8 := fun z hz => by
  unfold toldsOf at hz
  obtain ⟨r, hr, h2⟩ := List.mem_flatMap.mp hz
  obtain ⟨e, he, h3⟩ := List.mem_filterMap.mp h2
  exact ((h r hr e he).2.2 z h3).2
theorem keys_name {n : Int} {rows : List Rw} (h : ∀ r ∈ rows, okRow n r) : ∀ z ∈ keysOf rows, z.length = 1 := fun z hz => by
  unfold keysOf at hz
  obtain ⟨r, hr, h2⟩ := List.mem_flatMap.mp hz
  obtain ⟨e, he, rfl⟩ := List.mem_map.mp h2
  exact (h r hr e he).1.2
open PySem.W TL in
theorem join_len : ∀ {ys : List Str}, (∀ z ∈ ys, z.length = 1) → (Txt.join "" ys).length = ys.length := fun {ys} h => by
  have e : ∀ l : List (List Nat), (joinL [] l).length = (l.map List.length).sum := by
    intro l
    induction l with
    | nil => rfl
    | cons x l ih =>
      cases l with
      | nil =>
        show x.length = x.length + 0
        omega
      | cons y r =>
        show (x ++ ([] ++ joinL [] (y :: r))).length = _
        rw [List.nil_append, List.length_append, ih]
        rfl
  have k : tl (Str.join ("" : Str) ys) = joinL (tl ("" : Str)) (ys.map tl) := tl_join "" ys
  have z : tl ("" : Str) = [] := rfl
  rw [join_eq]
  show (tl (Str.join ("" : Str) ys)).length = ys.length
  rw [k, z, e, List.map_map]
  have q : ∀ l : List Str, (∀ x ∈ l, x.length = 1) → (l.map (List.length ∘ tl)).sum = l.length := by
    intro l
    induction l with
    | nil => intro _; rfl
    | cons x l ih =>
      intro hh
      have h1 : (tl x).length = 1 := hh x List.mem_cons_self
      rw [List.map_cons, List.sum_cons, List.length_cons, ih fun y hy => hh y (List.mem_cons_of_mem _ hy)]
      show (tl x).length + _ = _
      omega
  exact q ys h
section
variable {P : Program} {w : World} {K : PySem.W.Frag} {mg : Str → Option Value} {base : Heap}
theorem ok_init {f C fH fR fA fB fC fN fL : Addr} {fd fdH fdR fdA fdB fdC fdN fdL : FuncData} {dvs : List V} {kws : List (Str × V)} (F : FunD K "__init__" "Reader.__init__" (defArgs sInit) (defBody sInit) (defScope sInit) dvs kws f fd) (T : RdC K C)
    (aH : At K mg "has_length" fH fdH ["value", "least", "most"] []) (gH : FnOk P w K mg base CX0 1 fH fdH ["value", "least", "most"] (spHasLen K))
    (aR : At K mg "_is_reader_state" fR fdR ["value", "many"] []) (gR : FnOk P w K mg base CX0 4 fR fdR ["value", "many"] spIsRow)
    (aA : At K mg "are_states" fA fdA ["value", "many"] []) (gA : FnOk P w K mg base CX0 3 fA fdA ["value", "many"] spAreStates)
    (aB : At K mg "is_below" fB fdB ["value", "limit"] []) (gB : FnOk P w K mg base CX0 2 fB fdB ["value", "limit"] (spBelow K))
    (aC : At K mg "_copied_state" fC fdC ["state"] []) (gC : FnOk P w K mg base CX0 1 fC fdC ["state"] spCopied)
    (mN : Meth K C "_collect_names" fN) (bN : Binds K fdN ["self"] []) (gN : FnOk P w K mg base CX0 4 fN fdN ["self"] (spCollect C))
    (mL : Meth K C "_check_limits" fL) (bL : Binds K fdL ["self"] []) (gL : FnOk P w K mg base CX0 1 fL fdL ["self"] (spLimits C))
    {u12 : Value} (c12 : Con K C "MAX_STATES" (.int 12) u12) (zn : mg "len" = none) (ze : mg "enumerate" = none) (zt : mg "tuple" = none) (zs : mg "sorted" = none) :
    FnOk P w K mg base CX0 5 f fd ["self", "states", "ends", "start"] (spInit C) := by
  refine F.ok scInit (fun vs H Q E h => ?_) (fun cdv A0 outer s H vs Q E hr h => ?_)
  · obtain ⟨p, dx, S, En, ds, rows, ns, b, A, B, rfl, _⟩ := h
    rfl
  · obtain ⟨p, dx, S, En, ds, rows, ns, b, A, B, rfl, hp, hS, hrw, r1, r12, hok, hE, nl, nnd, nin, b0, bn, hA, lA, hB, lB, fB1, fB2, q⟩ := h
    refine ⟨_, PSs.nox (pss_cons (ps_if (pt_not (pt_val (pe_call gH (hr.mono (by decide)) (by rfl) aH.g aH.kp aH.b .nil pass0 (pa_cons (pv 1) (pa_cons pe_int (pa_cons (pe_con (pv 0) rfl) pa_nil)))))) (pss_one ps_never) pss_nil)
      (pss_cons (ps_for PassesOwn.never rfl (pi_enum (by rfl) ze (pa_cons (pv 1) pa_nil)) (pg_tup rfl (pgs_cons (pg_name (i := 4) scInit.nd rfl (.inl rfl)) (pgs_cons (pg_name (i := 5) scInit.nd rfl (.inl rfl)) pgs_nil)))
        (pss_one (ps_if (pt_not (pt_val (pe_call gR hr (by rfl) aR.g aR.kp aR.b .nil pass0 (pa_cons (pv 5) (pa_cons (pe_callB call_len_seq (by rfl) zn PySem.boot_len (pa_cons (pv 1) pa_nil)) pa_nil))))) (pss_one ps_never) pss_nil)))
      (pss_cons (ps_if (pt_not (pt_val (pe_call gA (hr.mono (by decide)) (by rfl) aA.g aA.kp aA.b .nil pass0 (pa_cons (pv 2) (pa_cons (pe_callB call_len_seq (by rfl) zn PySem.boot_len (pa_cons (pv 1) pa_nil)) pa_nil))))) (pss_one ps_never) pss_nil)
      (pss_cons (ps_if (pt_not (pt_val (pe_call gB (hr.mono (by decide)) (by rfl) aB.g aB.kp aB.b .nil pass0 (pa_cons (pv 3) (pa_cons (pe_callB call_len_seq (by rfl) zn PySem.boot_len (pa_cons (pv 1) pa_nil)) pa_nil))))) (pss_one ps_never) pss_nil)
      (pss_cons (ps_fld (pv 0) (pe_lc (own := [("state", 5)]) (g := gName 5) (tt := tYes) rfl scInit.nd (pi_list (pv 1)) (blkOk_by (N := ["self", "states", "ends", "start", "index", "state"]) (sc := defScope sInit) (by decide +kernel))
          (fun _ _ _ _ _ => pg_name (i := 5) scInit.nd rfl (Or.inl rfl)) (fun _ _ _ _ _ => pts_nil) (fun _ _ _ _ _ => pe_call gC (hr.mono (by decide)) (by rfl) aC.g aC.kp aC.b .nil pass0 (pa_cons (pv 5) pa_nil))) rfl)
      (pss_cons (ps_fld (pv 0) (pe_callTy call_tuple_of (by rfl) zt (by decide +kernel) (pa_cons (pe_callB cr_sorted (by rfl) zs (by decide +kernel) (pa_cons (pv 2) pa_nil)) pa_nil)) rfl)
      (pss_cons (ps_fld (pv 0) (pv 3) rfl)
      (pss_cons (ps_expr (pe_meth0 (pv 0) T.cl mN gN hr bN .nil pass0))
      (pss_one (ps_expr (pe_meth0 (pv 0) T.cl mL gL (hr.mono (by decide)) bL .nil pass0))))))))))), ?_⟩
    have lS : ∀ {H' : Hp}, H' S = some (.lst (ds.map V.ref)) → (SqL K H' S (ds.map V.ref)) := fun e => SqL.of e
    have lds : (ds.map V.ref).length = rows.length := by rw [List.length_map, hrw.len]
    -- has_length
    refine ⟨_, rfl, _, rfl, p, C, dx, _, _, _, rfl, hp, T.cl, c12, rfl, S, _, 1, 12, rfl, .inl hS, fun H1 x1 => ?_⟩
    rw [lds, decide_eq_true (by omega), decide_eq_true (by omega)]
    refine ⟨true, rfl, iteF ?_⟩
    -- each state
    refine ⟨_, rfl, S, _, rfl, lS (x1 _ _ hS), ?_⟩
    refine for_it (walk_enum (xs := ds.map V.ref)) (fun i σ H2 => ∃ v4 v5, σ = [some (.ref p), some (.ref S), some (.ref En), some (.int b), v4, v5] ∧ Ext H H2) ⟨none, none, rfl, x1⟩ (fun i σ H2 _ ⟨_, _, _, x2⟩ => lS (x2 _ _ hS)) ?_ ?_
    · rintro i x σ H2 H3 hi ⟨v4, v5, rfl, x2⟩ ⟨T1, x3, y3, rfl, nT, rfl, e1, e2⟩
      obtain ⟨d, hd, rfl⟩ := at_map e2
      obtain ⟨r, hri, ra⟩ := hrw.at_ hd
      cases e1
      have x3 := x2.trans (Ext.new nT (o := .tup [.int (i : Nat), .ref d]))
      obtain ⟨o1, o2, o3⟩ := hok r (List.mem_of_getElem? hri)
      refine ⟨T1, _, rfl, SqT.of upd_same, rfl, _, _, rfl, _, _, rfl, rfl, ?_⟩
      refine ⟨_, rfl, _, rfl, S, _, rfl, .inl (lS (x3 _ _ hS)), d, r, _, rfl, ?_, ?_, by omega, fun H4 x4 => ⟨true, rfl, iteF ⟨_, _, rfl, x3.trans x4⟩⟩⟩
      · obtain ⟨es, a1, a2⟩ := ra
        exact ⟨es, x3 _ _ a1, a2.ext fun t xs e => x3 _ _ e⟩
      · rw [lds]
        exact o1
    rintro σ H2 ⟨v4, v5, rfl, x2⟩
    -- are_states, is_below
    refine ⟨_, rfl, _, rfl, S, _, rfl, .inl (lS (x2 _ _ hS)), En, ns, _, rfl, x2 _ _ hE, nl, nnd, (by rw [lds]; exact nin), fun H3 x3 => ⟨true, rfl, iteF ?_⟩⟩
    have x3 := x2.trans x3
    refine ⟨_, rfl, _, rfl, S, _, rfl, .inl (lS (x3 _ _ hS)), .int b, _, rfl, .inl ⟨b, rfl⟩, ?_⟩
    have eb : below (.int b) ((ds.map V.ref).length : Nat) = true := by
      rw [lds]
      unfold below
      simp [b0, bn]
    rw [eb]
    refine ⟨true, rfl, iteF ?_⟩
    -- self._states
    refine ⟨_, rfl, S, rfl, ⟨_, lS (x3 _ _ hS)⟩, fun D nD => ?_⟩
    have x4 := x3.trans (Ext.new nD (o := .lst []))
    refine lc_it (walk_list (xs := ds.map V.ref)) (fun i H4 => Ext H H4 ∧ ∃ ds' rows', H4 D = some (.lst (ds'.map V.ref)) ∧ RowsAt H4 ds' rows' ∧ Perms (rows.take i) rows' ∧ ds'.Nodup ∧ (∀ d ∈ ds', H d = none)) ⟨x4, [], [], upd_same, .nil, .nil, List.nodup_nil, fun d h => by cases h⟩ (fun i H4 _ h => lS (h.1 _ _ hS)) ?_ ?_
    · rintro i x H4 H5 hi ⟨x5, ds', rows', l5, w5, p5, nd5, f5⟩ ⟨rfl, hx⟩
      obtain ⟨d, hd, rfl⟩ := at_map hx
      obtain ⟨r, hri, es, a1, a2⟩ := hrw.at_ hd
      obtain ⟨o1, o2, o3⟩ := hok r (List.mem_of_getElem? hri)
      have hil : i < rows.length := (List.getElem?_eq_some_iff.mp hri).1
      refine ⟨rfl, _, rfl, d, r, rfl, ⟨es, x5 _ _ a1, a2.ext fun t xs e => x5 _ _ e⟩, o2, o3, fun H6 p6 r' x6 n6 ra pm => ?_⟩
      have nDp : p6 ≠ D := fun z => by
        rw [z, l5] at n6
        cases n6
      have lw : ds'.length = rows'.length := w5.len
      have lp : rows'.length ≤ i := by
        rw [← p5.len, List.length_take]
        omega
      have keepD : ∀ b o, H5 b = some o → b ≠ D → upd H6 D (.lst (ds'.map V.ref ++ [V.ref p6])) b = some o := fun b o e n => by
        rw [upd_ne n]
        exact x6 _ _ e
      refine ⟨_, x6 _ _ l5, by rw [List.length_map]; exact small_list (by omega), fun b o e => by rw [upd_ne (ne_of_none e (x3.free nD))]; exact x6 _ _ (x5 _ _ e), ds' ++ [p6], rows' ++ [r'], by rw [upd_same, List.map_append]; rfl, ?_, ?_, ?_, ?_⟩
      · refine RowsAt.snoc ?_ ?_
        · refine ra.same (upd_ne nDp) fun t xs e => ?_
          rw [upd_ne (ne_of e (x6 _ _ l5) (by intro z; cases z))]
          exact e
        · have w6 := w5.ext x6
          have kk : Keep D H6 (upd H6 D (.lst (ds'.map V.ref ++ [V.ref p6]))) := Keep.at_
          have l6 := x6 _ _ l5
          exact w6.keep kk (fun kvs e => by rw [l6] at e; cases e) (fun xs e => by rw [l6] at e; cases e)
      · rw [take_more hri]
        exact p5.snoc pm.symm
      · refine List.nodup_append.mpr ⟨nd5, by simp, fun a ha b hb e => ?_⟩
        rw [List.mem_singleton.mp hb] at e
        obtain ⟨kvs, ek⟩ := w5.mem ha
        rw [e, n6] at ek
        cases ek
      · intro d' hd'
        rcases List.mem_append.mp hd' with c | c
        · exact f5 d' c
        · rw [List.mem_singleton.mp c]
          exact x5.free n6
    rintro H4 ⟨x5, ds', rows', l5, w5, p5, nd5, f5⟩
    rw [lds, List.take_length] at p5
    refine ⟨_, rfl, p, C, dx, [], rfl, x5 _ _ hp, T.cl, T.nS, by decide, ?_⟩
    have k5 : Keep p H (upd H4 p (.ins C dx (putF "_states" (.ref D) []))) := fun b o e n => by
      rw [upd_ne n]
      exact x5 _ _ e
    have i5 : (upd H4 p (.ins C dx (putF "_states" (.ref D) []))) p = some (.ins C dx (putF "_states" (.ref D) [])) := upd_same
    have nDp : D ≠ p := ne_of l5 (x5 _ _ hp) (by intro z; cases z)
    have l6 : (upd H4 p (.ins C dx (putF "_states" (.ref D) []))) D = some (.lst (ds'.map V.ref)) := by
      rw [upd_ne nDp]
      exact l5
    have hp4 := x5 _ _ hp
    have w6 : RowsAt (upd H4 p (.ins C dx (putF "_states" (.ref D) []))) ds' rows' := w5.keep Keep.at_ (fun kvs e => by rw [hp4] at e; cases e) (fun xs e => by rw [hp4] at e; cases e)
    have nEp : En ≠ p := ne_of hE hp (by intro z; cases z)
    generalize upd H4 p (.ins C dx (putF "_states" (.ref D) [])) = H5 at k5 i5 l6 w6 ⊢
    -- self._ends
    refine ⟨_, rfl, En, ns, rfl, SqL.of (k5 _ _ hE nEp), nl, fun ns' pa pm rising na => ⟨pa, _, rfl, .inl ⟨SqL.of upd_same, fun Te nTe => ?_⟩⟩⟩
    have x6 : Ext H5 (upd (upd H5 pa (.lst (ns'.map V.int))) Te (.tup (ns'.map V.int))) := (Ext.new na).trans (Ext.new nTe)
    have t6 : (upd (upd H5 pa (.lst (ns'.map V.int))) Te (.tup (ns'.map V.int))) Te = some (.tup (ns'.map V.int)) := upd_same
    generalize upd (upd H5 pa (.lst (ns'.map V.int))) Te (.tup (ns'.map V.int)) = H6 at x6 t6 ⊢
    have i6 := x6 _ _ i5
    refine ⟨_, rfl, p, C, dx, _, rfl, i6, T.cl, T.nE, Nat.lt_of_le_of_lt (putF_len _ _ _) (by decide), ?_⟩
    have k7 : Keep p H (upd H6 p (.ins C dx (putF "_ends" (.ref Te) (putF "_states" (.ref D) [])))) := fun b o e n => by
      rw [upd_ne n]
      exact x6 _ _ (k5 b o e n)
    have i7 : (upd H6 p (.ins C dx (putF "_ends" (.ref Te) (putF "_states" (.ref D) [])))) p = some (.ins C dx (putF "_ends" (.ref Te) (putF "_states" (.ref D) []))) := upd_same
    have l7 : (upd H6 p (.ins C dx (putF "_ends" (.ref Te) (putF "_states" (.ref D) [])))) D = some (.lst (ds'.map V.ref)) := by
      rw [upd_ne nDp]
      exact x6 _ _ l6
    have t7 : (upd H6 p (.ins C dx (putF "_ends" (.ref Te) (putF "_states" (.ref D) [])))) Te = some (.tup (ns'.map V.int)) := by
      rw [upd_ne (ne_of t6 i6 (by intro z; cases z))]
      exact t6
    have w7 : RowsAt (upd H6 p (.ins C dx (putF "_ends" (.ref Te) (putF "_states" (.ref D) [])))) ds' rows' := (w6.ext x6).keep Keep.at_ (fun kvs e => by rw [i6] at e; cases e) (fun xs e => by rw [i6] at e; cases e)
    generalize upd H6 p (.ins C dx (putF "_ends" (.ref Te) (putF "_states" (.ref D) []))) = H7 at k7 i7 l7 t7 w7 ⊢
    -- self._start
    have f2 : (putF "_ends" (V.ref Te) (putF "_states" (V.ref D) [])).length ≤ 2 := Nat.le_trans (putF_len _ _ _) (Nat.succ_le_succ (putF_len _ _ _))
    refine ⟨_, rfl, _, rfl, p, C, dx, _, rfl, i7, T.cl, T.nB, by omega, ?_⟩
    have k8 : Keep p H (upd H7 p (.ins C dx (putF "_start" (.int b) (putF "_ends" (.ref Te) (putF "_states" (.ref D) []))))) := fun b' o e n => by
      rw [upd_ne n]
      exact k7 b' o e n
    have i8 : (upd H7 p (.ins C dx (putF "_start" (.int b) (putF "_ends" (.ref Te) (putF "_states" (.ref D) []))))) p = some (.ins C dx (putF "_start" (.int b) (putF "_ends" (.ref Te) (putF "_states" (.ref D) [])))) := upd_same
    have l8 : (upd H7 p (.ins C dx (putF "_start" (.int b) (putF "_ends" (.ref Te) (putF "_states" (.ref D) []))))) D = some (.lst (ds'.map V.ref)) := by
      rw [upd_ne nDp]
      exact l7
    have t8 : (upd H7 p (.ins C dx (putF "_start" (.int b) (putF "_ends" (.ref Te) (putF "_states" (.ref D) []))))) Te = some (.tup (ns'.map V.int)) := by
      rw [upd_ne (ne_of t7 i7 (by intro z; cases z))]
      exact t7
    have w8 : RowsAt (upd H7 p (.ins C dx (putF "_start" (.int b) (putF "_ends" (.ref Te) (putF "_states" (.ref D) []))))) ds' rows' := w7.keep Keep.at_ (fun kvs e => by rw [i7] at e; cases e) (fun xs e => by rw [i7] at e; cases e)
    have f3 : (putF "_start" (V.int b) (putF "_ends" (V.ref Te) (putF "_states" (V.ref D) []))).length ≤ 3 := Nat.le_trans (putF_len _ _ _) (Nat.succ_le_succ f2)
    have look : ∀ f : Str, (putF "_start" (V.int b) (putF "_ends" (V.ref Te) (putF "_states" (V.ref D) []))).lookup f = if f = "_start" then some (V.int b) else if f = "_ends" then some (V.ref Te) else if f = "_states" then some (V.ref D) else none := fun f => by
      rw [lookup_putF, lookup_putF, lookup_putF]
      rfl
    generalize putF "_start" (V.int b) (putF "_ends" (V.ref Te) (putF "_states" (V.ref D) [])) = f3s at i8 f3 look l8 t8 w8 k8 ⊢
    generalize upd H7 p (.ins C dx f3s) = H8 at k8 i8 l8 t8 w8 ⊢
    -- self._collect_names()
    have okall : ∀ r ∈ rows, okRow rows.length r := fun r h => (hok r h).1
    have kn := p5.keys
    have tn := p5.tolds
    have key1 : ∀ z ∈ keysOf rows', z.length = 1 := fun z hz => keys_name okall z ((kn z).mp hz)
    have told8 : ∀ z ∈ toldsOf rows', z.length ≤ 8 := fun z hz => tolds_name okall z ((tn z).mp hz)
    refine ⟨_, rfl, p, dx, f3s, rfl, i8, ?_, p, dx, D, f3s, ds', rows', A, B, rfl, i8, by omega, ?_, l8, nd5, w8, fun z hz => hA z ((kn z).mp hz), by omega, fun z hz => hB z ((tn z).mp hz), lB, fun z hz => by rw [key1 z hz]; decide, told8, fun H9 M ys ts k9 nM gy sy gt st hM i9 => ?_⟩
    · rw [look]
      rfl
    · rw [look]
      rfl
    -- self._check_limits()
    have fl : ∀ f : Str, (putF "_marks" (V.ref M) (putF "_text_signs" (V.str (Txt.join "" (ts.filter signS))) (putF "_page_signs" (V.str (Txt.join "" ys)) f3s))).lookup f = if f = "_marks" then some (V.ref M) else if f = "_text_signs" then some (V.str (Txt.join "" (ts.filter signS))) else if f = "_page_signs" then some (V.str (Txt.join "" ys)) else f3s.lookup f := fun f => by
      rw [lookup_putF, lookup_putF, lookup_putF]
    generalize putF "_marks" (V.ref M) (putF "_text_signs" (V.str (Txt.join "" (ts.filter signS))) (putF "_page_signs" (V.str (Txt.join "" ys)) f3s)) = f6 at i9 fl
    have sub1 : (ts.filter signS).length ≤ 4 := Nat.le_trans (len_le (gt.1.filter _) fun z hz => List.mem_filter.mpr ⟨hB z ((tn z).mp ((gt.2 z).mp (List.mem_filter.mp hz).1)), (List.mem_filter.mp hz).2⟩) fB1
    have sub2 : (ts.filter markS).length ≤ 6 := Nat.le_trans (len_le (gt.1.filter _) fun z hz => List.mem_filter.mpr ⟨hB z ((tn z).mp ((gt.2 z).mp (List.mem_filter.mp hz).1)), (List.mem_filter.mp hz).2⟩) fB2
    have sub3 : ys.length ≤ 6 := Nat.le_trans (len_le gy.1 fun z hz => hA z ((kn z).mp ((gy.2 z).mp hz))) lA
    refine ⟨_, rfl, p, dx, f6, rfl, i9, ?_, p, dx, M, f6, _, _, _, rfl, i9, (by rw [fl]; rfl), (by rw [fl]; rfl), (by rw [fl]; rfl), hM, ?_, ?_, by rw [List.length_map]; exact sub2, ?_⟩
    · rw [fl, look]
      rfl
    · rw [join_len fun z hz => key1 z ((gy.2 z).mp hz)]
      exact sub3
    · rw [join_len fun z hz => ?_]
      · exact sub1
      · have q1 := (List.mem_filter.mp hz).2
        unfold signS at q1
        rw [Bool.and_eq_true, decide_eq_true_eq] at q1
        exact q1.2
    refine q H9 rows' ns' (k8.trans k9) p5 pm ⟨dx, f6, D, ds', Te, i9, (by rw [fl, look]; rfl), k9 _ _ l8 nDp, w8.keep k9 (fun kvs e => by rw [i8] at e; cases e) (fun xs e => by rw [i8] at e; cases e), (by rw [fl, look]; rfl), k9 _ _ t8 (ne_of t8 i8 (by intro z; cases z)), (by rw [fl, look]; rfl), fun f hf => ?_⟩
    rw [fl, look]
    simp only [List.mem_cons, List.not_mem_nil, or_false, not_or] at hf
    obtain ⟨a1, a2, a3, a4, a5, a6⟩ := hf
    rw [if_neg a6, if_neg a5, if_neg a4, if_neg a3, if_neg a2, if_neg a1]
end
end Sl
/-! ## P13 -/
set_option Elab.async false
set_option linter.all false
set_option maxRecDepth 100000
set_option maxHeartbeats 4000000
namespace Sl
open PySem PySem.Spec PyProof.Rows L2 TxS
abbrev sCheckState : Stmt := top 10
abbrev sStart : Stmt := inClass (top 26) 5
abbrev sEnds : Stmt := inClass (top 26) 6
abbrev sMove : Stmt := inClass (top 26) 7
abbrev sWalk : Stmt := top 29
abbrev sRow : Stmt := top 30
abbrev sLast : Stmt := top 31
def spCheckState : Sp := fun vs H Q _ => ∃ (i n : Int), vs = [.int i, .int n] ∧ 0 ≤ i ∧ i < n ∧ Q .non H
/-- the move of a state by a sign -/
def mvOf (rows : List Rw) (q : Int) (z : Str) : Option Mv := (rows.getD q.toNat []).lookup z
/-- what a reader's rows are like -/
def okRows (n : Int) (rows : List Rw) : Prop := (rows.length : Int) = n ∧ ∀ r ∈ rows, okRow n r ∧ (r.map (·.1)).Nodup
/-- an optional move as a value -/
def MvV (H : Hp) (v : V) : Option Mv → Prop
  | none => v = .non
  | some m => ∃ t, v = .ref t ∧ MvAt H t m
def spMove (C : Addr) : Sp := fun vs H Q _ => ∃ (p : Addr) (q : Int) (z : Str) (rows : List Rw) (ends : List Int) (b n : Int), vs = [.ref p, .int q, .str z] ∧ ReaderAt C H p rows ends b ∧ okRows n rows ∧ 0 ≤ q ∧ q < n ∧ ∀ v, MvV H v (mvOf rows q z) → Q v H
/-- the moves along signs -/
def walkL (rows : List Rw) : Int → List Str → List Mv
  | _, [] => []
  | q, z :: r => match mvOf rows q z with
    | none => []
    | some m => m :: walkL rows m.1 r
def signsOf (z : Str) : List Str := z.cps.toList.map fun c => ⟨#[c]⟩
inductive MvsAt (H : Hp) : List Addr → List Mv → Prop
  | nil : MvsAt H [] []
  | cons {t : Addr} {m : Mv} {ts : List Addr} {ms : List Mv} : MvAt H t m → MvsAt H ts ms → MvsAt H (t :: ts) (m :: ms)
theorem MvsAt.ext {H H' : Hp} (x : ∀ t xs, H t = some (.tup xs) → H' t = some (.tup xs)) : ∀ {ts : List Addr} {ms : List Mv}, MvsAt H ts ms → MvsAt H' ts ms
  | _, _, .nil => .nil
  | _, _, .cons a h => .cons (x _ _ a) (h.ext x)
theorem MvsAt.snoc {H : Hp} {t : Addr} {m : Mv} (a : MvAt H t m) : ∀ {ts : List Addr} {ms : List Mv}, MvsAt H ts ms → MvsAt H (ts ++ [t]) (ms ++ [m])
  | _, _, .nil => .cons a .nil
  | _, _, .cons b h => .cons b (h.snoc a)
theorem MvsAt.len {H : Hp} : ∀ {ts : List Addr} {ms : List Mv}, MvsAt H ts ms → ts.length = ms.length
  | _, _, .nil => rfl
  | _, _, .cons _ h => congrArg (· + 1) h.len
theorem MvsAt.at_ {H : Hp} : ∀ {ts : List Addr} {ms : List Mv} {i : Nat} {t : Addr}, MvsAt H ts ms → ts[i]? = some t → ∃ m, ms[i]? = some m ∧ MvAt H t m
  | _, _, 0, _, .cons (m := m) h _, q => by cases q; exact ⟨m, rfl, h⟩
  | _, _, i + 1, _, .cons _ h, q => h.at_ (i := i) q
  | _, _, 0, _, .nil, q => by cases q
  | _, _, i + 1, _, .nil, q => by cases q
theorem ReaderAt.ext {C : Addr} {H H' : Hp} {p : Addr} {rows : List Rw} {ends : List Int} {b : Int} (x : Ext H H') (h : ReaderAt C H p rows ends b) : ReaderAt C H' p rows ends b := by
  obtain ⟨dx, fs, L, ds, Te, a1, a2, a3, a4, a5, a6, a7, a8⟩ := h.ex
  exact ⟨dx, fs, L, ds, Te, x _ _ a1, a2, x _ _ a3, a4.ext x, a5, x _ _ a6, a7, a8⟩
theorem lookup_mem : ∀ {r : Rw} {z : Str} {m : Mv}, (r.map (·.1)).Nodup → (z, m) ∈ r → r.lookup z = some m
  | e :: r, z, m, nd, h => by
    obtain ⟨n1, n2⟩ := List.nodup_cons.mp nd
    obtain ⟨y, k⟩ := e
    rw [List.lookup_cons]
    rcases List.mem_cons.mp h with c | c
    · cases c
      simp
    · have ne : (z == y) = false := by
        cases e : z == y with
        | false => rfl
        | true => exact absurd (List.mem_map.mpr ⟨_, c, beq_iff_eq.mp e⟩) n1
      rw [ne]
      exact lookup_mem n2 c
  | [], _, _, _, h => by cases h
theorem lookup_no : ∀ {r : Rw} {z : Str}, z ∉ r.map (·.1) → r.lookup z = none
  | [], _, _ => rfl
  | (y, k) :: r, z, h => by
    have ne : (z == y) = false := by
      cases e : z == y with
      | false => rfl
      | true => exact absurd (List.mem_map.mpr ⟨(y, k), List.mem_cons_self, (beq_iff_eq.mp e).symm⟩) h
    rw [List.lookup_cons, ne]
    exact lookup_no fun m => h (List.mem_cons_of_mem _ m)
theorem mvOf_ok {n : Int} {rows : List Rw} {q : Int} {z : Str} {m : Mv} (ok : okRows n rows) (h : mvOf rows q z = some m) : okMv n m := by
  unfold mvOf at h
  cases e : rows[q.toNat]? with
  | none =>
    rw [List.getD_eq_getElem?_getD, e] at h
    cases h
  | some r =>
    rw [List.getD_eq_getElem?_getD, e] at h
    have h : r.lookup z = some m := h
    have hr := (ok.2 r (List.mem_of_getElem? e)).1
    have mem : ∀ {l : Rw}, l.lookup z = some m → (z, m) ∈ l := by
      intro l
      induction l with
      | nil => intro k; cases k
      | cons y l ih =>
        obtain ⟨y1, y2⟩ := y
        intro k
        rw [List.lookup_cons] at k
        cases c : z == y1 with
        | true =>
          rw [c] at k
          cases k
          rw [beq_iff_eq.mp c]
          exact List.mem_cons_self
        | false =>
          rw [c] at k
          exact List.mem_cons_of_mem _ (ih k)
    exact (hr _ (mem h)).2
section
variable {P : Program} {w : World} {K : PySem.W.Frag} {mg : Str → Option Value} {base : Heap}
theorem scCheckState : FnScope ["value", "many"] ["value", "many"] (defScope sCheckState) := ⟨rfl, rfl, rfl, by decide +kernel, rfl, by decide +kernel, by decide +kernel⟩
theorem ok_checkstate {f fB : Addr} {fd fdB : FuncData} (F : Fun K "check_state" "check_state" sCheckState f fd) (aB : At K mg "is_below" fB fdB ["value", "limit"] []) (gB : FnOk P w K mg base CX0 2 fB fdB ["value", "limit"] (spBelow K)) :
    FnOk P w K mg base CX0 3 f fd ["value", "many"] spCheckState := by
  refine F.ok scCheckState (fun vs H Q E h => ?_) (fun cdv A0 outer s H vs Q E hr h => ?_)
  · obtain ⟨i, n, rfl, _⟩ := h
    rfl
  · obtain ⟨i, n, rfl, h0, h1, q⟩ := h
    refine ⟨_, pss_one (ps_if (pt_not (pt_val (pe_call gB hr (by rfl) aB.g aB.kp aB.b .nil pass0 (pa_cons (pv 0) (pa_cons (pv 1) pa_nil))))) (pss_one ps_never) pss_nil), ?_⟩
    refine ⟨_, rfl, _, rfl, .int i, n, rfl, .inl ⟨i, rfl⟩, ?_⟩
    have e : below (.int i) n = true := by
      unfold below
      simp [h0, h1]
    rw [e]
    exact ⟨true, rfl, iteF q⟩
theorem scMove : FnScope ["self", "state", "sign"] ["self", "state", "sign"] (defScope sMove) := ⟨rfl, rfl, rfl, by decide +kernel, rfl, by decide +kernel, by decide +kernel⟩
theorem ok_move {f C fS : Addr} {fd fdS : FuncData} (F : Fun K "move" "Reader.move" sMove f fd) (T : RdC K C) (aS : At K mg "check_state" fS fdS ["value", "many"] []) (gS : FnOk P w K mg base CX0 3 fS fdS ["value", "many"] spCheckState) (zn : mg "len" = none) :
    FnOk P w K mg base CX0 4 f fd ["self", "state", "sign"] (spMove C) := by
  refine F.ok scMove (fun vs H Q E h => ?_) (fun cdv A0 outer s H vs Q E hr h => ?_)
  · obtain ⟨p, q, z, rows, ends, b, n, rfl, _⟩ := h
    rfl
  · obtain ⟨p, q, z, rows, ends, b, n, rfl, RA, ok, q0, qn, k⟩ := h
    obtain ⟨dx, fs, L, ds, Te, hp, hst, hL, hrw, _⟩ := RA.ex
    have lr : (ds.map V.ref).length = rows.length := by rw [List.length_map, hrw.len]
    refine ⟨_, pss_cons (ps_expr (pe_call gS hr (by rfl) aS.g aS.kp aS.b .nil pass0 (pa_cons (pv 1) (pa_cons (pe_callB call_len_seq (by rfl) zn PySem.boot_len (pa_cons (pe_fld (pv 0) rfl) pa_nil)) pa_nil))))
      (pss_one (ps_ret (pe_dget1 (hu_of hr) (pe_ix ix_list (pe_fld (pv 0) rfl) (pv 1) (fun _ _ => rfl)) (pv 2) ⟨rfl, rfl, rfl, rfl⟩))), ?_⟩
    refine ⟨_, rfl, _, rfl, p, C, dx, _, _, rfl, hp, T.cl, T.nS, hst, L, _, rfl, .inl (SqL.of hL), q, _, rfl, q0, by rw [lr]; have := ok.1; omega, ?_⟩
    obtain ⟨j, ej⟩ : ∃ j : Nat, q = (j : Int) := ⟨q.toNat, by omega⟩
    subst ej
    have hq : j < rows.length := by have := ok.1; omega
    have hqd : j < ds.length := by rw [hrw.len]; exact hq
    obtain ⟨r, hr1, es, hd, he⟩ := hrw.at_ (i := j) (d := ds[j]) (List.getElem?_eq_getElem hqd)
    have hat : atI (ds.map V.ref) (j : Int) = some (.ref ds[j]) := atI_nat (by rw [List.getElem?_map, List.getElem?_eq_getElem hqd]; rfl)
    refine ⟨_, rfl, p, C, dx, _, _, rfl, hp, T.cl, T.nS, hst, _, rfl, L, _, _, _, rfl, rfl, SqL.of hL, hat, ds[j], rfl, .inl ⟨_, Rd.of hd⟩, _, rfl, _, DGet.k (k := Sum.inr z) hd, ?_⟩
    have ek := he.keys
    have hmem := List.mem_of_getElem? hr1
    have nd := (ok.2 r hmem).2
    have emv : mvOf rows (j : Int) z = r.lookup z := by
      unfold mvOf
      rw [Int.toNat_natCast, List.getD_eq_getElem?_getD, hr1]
      rfl
    by_cases c : z ∈ es.map (·.1)
    · obtain ⟨t, m, m1, m2, m3⟩ := he.mem c
      rw [val_at (by rw [ek]; exact nd) m1]
      refine k _ ?_
      rw [emv, lookup_mem nd m2]
      exact ⟨t, rfl, m3⟩
    · rw [val_no c]
      refine k _ ?_
      rw [emv, lookup_no (by rw [← ek]; exact c)]
      rfl
end
end Sl
/-! ## P14 -/
set_option Elab.async false
set_option linter.all false
set_option maxRecDepth 100000
set_option maxHeartbeats 4000000
namespace Sl
open PySem PySem.Spec PyProof.Rows L2 TxS
def spStart (C : Addr) : Sp := fun vs H Q _ => ∃ (p : Addr) (rows : List Rw) (ends : List Int) (b : Int), vs = [.ref p] ∧ ReaderAt C H p rows ends b ∧ Q (.int b) H
def spEnds (C : Addr) : Sp := fun vs H Q _ => ∃ (p : Addr) (rows : List Rw) (ends : List Int) (b : Int), vs = [.ref p] ∧ ReaderAt C H p rows ends b ∧ ∀ Te, H Te = some (.tup (ends.map V.int)) → Q (.ref Te) H
def spWalk (C : Addr) : Sp := fun vs H Q _ => ∃ (p : Addr) (q : Int) (z : Str) (rows : List Rw) (ends : List Int) (b n : Int), vs = [.ref p, .int q, .str z] ∧ ReaderAt C H p rows ends b ∧ okRows n rows ∧ 0 ≤ q ∧ q < n ∧ z.length ≤ 10000 ∧
  ∀ (H' : Hp) (L : Addr) (ts : List Addr), Ext H H' → H L = none → H' L = some (.lst (ts.map V.ref)) → MvsAt H' ts (walkL rows q (signsOf z)) → Q (.ref L) H'
/-- what the moves tell -/
def toldOf (ms : List Mv) : List Str := ms.filterMap (·.2)
def lastOf (q : Int) (ms : List Mv) : Int := (ms.getLast?.map (·.1)).getD q
def spRow : Sp := fun vs H Q _ => ∃ (L : Addr) (ts : List Addr) (ms : List Mv), vs = [.ref L] ∧ H L = some (.lst (ts.map V.ref)) ∧ MvsAt H ts ms ∧ ms.length ≤ 10000 ∧ ∀ (H' : Hp) (T : Addr), Ext H H' → H T = none → H' T = some (.tup ((toldOf ms).map V.str)) → Q (.ref T) H'
def spLast : Sp := fun vs H Q _ => ∃ (L : Addr) (ts : List Addr) (ms : List Mv) (q : Int), vs = [.int q, .ref L] ∧ H L = some (.lst (ts.map V.ref)) ∧ MvsAt H ts ms ∧ Q (.int (lastOf q ms)) H
theorem walk_some {rows : List Rw} {q : Int} {z : Str} {zs : List Str} {m : Mv} (h : mvOf rows q z = some m) : walkL rows q (z :: zs) = m :: walkL rows m.1 zs := by simp only [walkL, h]
theorem walk_none {rows : List Rw} {q : Int} {z : Str} {zs : List Str} (h : mvOf rows q z = none) : walkL rows q (z :: zs) = [] := by simp only [walkL, h]
theorem walk_len (rows : List Rw) : ∀ (zs : List Str) (q : Int), (walkL rows q zs).length ≤ zs.length
  | [], _ => Nat.le_refl _
  | z :: zs, q => by
    unfold walkL
    cases mvOf rows q z with
    | none => exact Nat.zero_le _
    | some m => exact Nat.succ_le_succ (walk_len rows zs m.1)
section
variable {P : Program} {w : World} {K : PySem.W.Frag} {mg : Str → Option Value} {base : Heap}
theorem scStart : FnScope ["self"] ["self"] (defScope sStart) := ⟨rfl, rfl, rfl, by decide +kernel, rfl, by decide +kernel, by decide +kernel⟩
theorem ok_start {f C : Addr} {fd : FuncData} (F : Fun K "start" "Reader.start" sStart f fd) (T : RdC K C) : FnOk P w K mg base CX0 1 f fd ["self"] (spStart C) := by
  refine F.ok scStart (fun vs H Q E h => ?_) (fun cdv A0 outer s H vs Q E hr h => ?_)
  · obtain ⟨p, rows, ends, b, rfl, _⟩ := h
    rfl
  · obtain ⟨p, rows, ends, b, rfl, RA, q⟩ := h
    obtain ⟨dx, fs, L, ds, Te, a1, a2, a3, a4, a5, a6, a7, a8⟩ := RA.ex
    exact ⟨_, pss_one (ps_ret (pe_fld (pv 0) rfl)), _, rfl, p, C, dx, _, _, rfl, a1, T.cl, T.nB, a7, q⟩
theorem scEnds : FnScope ["self"] ["self"] (defScope sEnds) := ⟨rfl, rfl, rfl, by decide +kernel, rfl, by decide +kernel, by decide +kernel⟩
theorem ok_ends {f C : Addr} {fd : FuncData} (F : Fun K "ends" "Reader.ends" sEnds f fd) (T : RdC K C) : FnOk P w K mg base CX0 1 f fd ["self"] (spEnds C) := by
  refine F.ok scEnds (fun vs H Q E h => ?_) (fun cdv A0 outer s H vs Q E hr h => ?_)
  · obtain ⟨p, rows, ends, b, rfl, _⟩ := h
    rfl
  · obtain ⟨p, rows, ends, b, rfl, RA, q⟩ := h
    obtain ⟨dx, fs, L, ds, Te, a1, a2, a3, a4, a5, a6, a7, a8⟩ := RA.ex
    exact ⟨_, pss_one (ps_ret (pe_fld (pv 0) rfl)), _, rfl, p, C, dx, _, _, rfl, a1, T.cl, T.nE, a5, q Te a6⟩
theorem scWalk : FnScope ["reader", "state", "word", "walk", "sign", "move", "_"] ["reader", "state", "word"] (defScope sWalk) := ⟨rfl, rfl, rfl, by decide +kernel, rfl, by decide +kernel, by decide +kernel⟩
theorem ok_walk {f C fM : Addr} {fd fdM : FuncData} (F : Fun K "_walk" "_walk" sWalk f fd) (T : RdC K C) (mM : Meth K C "move" fM) (bM : Binds K fdM ["self", "state", "sign"] []) (gM : FnOk P w K mg base CX0 4 fM fdM ["self", "state", "sign"] (spMove C)) :
    FnOk P w K mg base CX0 5 f fd ["reader", "state", "word"] (spWalk C) := by
  refine F.ok scWalk (fun vs H Q E h => ?_) (fun cdv A0 outer s H vs Q E hr h => ?_)
  · obtain ⟨p, q, z, rows, ends, b, n, rfl, _⟩ := h
    rfl
  · obtain ⟨p, q, z, rows, ends, b, n, rfl, RA, ok, q0, qn, hz, k⟩ := h
    refine ⟨_, pss_cons (ps_set (i := 3) scWalk.nd rfl (.inl rfl) (pe_lst pa_nil))
      (pss_cons (ps_for PassesOwn.never rfl (pi_str (pv 2)) (pg_name (i := 4) scWalk.nd rfl (.inl rfl))
        (pss_cons (ps_set (i := 5) scWalk.nd rfl (.inl rfl) (pe_meth (pv 0) T.cl mM gM hr bM .nil pass0 (pa_cons (pv 1) (pa_cons (pv 4) pa_nil))))
        (pss_cons (ps_if (pt_cmpR op_isN (pv 5) pe_non (nomark _)) (pss_one (ps_ret (pv 3))) pss_nil)
        (pss_cons (ps_expr (pe_bm PySem.F.plainAttrs_list PySem.F.slot_list_append PySem.F.type_list_append mt_append (pv 3) (pa_cons (pv 5) pa_nil)))
        (pss_one (ps_asg (pv 5) (pg_tup rfl (pgs_cons (pg_name (i := 1) scWalk.nd rfl (.inl rfl)) (pgs_cons (pg_name (i := 6) scWalk.nd rfl (.inl rfl)) pgs_nil)))))))))
      (pss_one (ps_ret (pv 3)))), ?_⟩
    refine ⟨Nat.zero_le _, fun L nL => ?_⟩
    refine ⟨_, rfl, z, rfl, ?_⟩
    have hz' : z.cps.size ≤ 10000 := hz
    refine for_it walk_str (fun i σ H' => ∃ (qi : Int) (ts : List Addr) (ms : List Mv) (v4 v5 v6 : Option V), σ = [some (.ref p), some (.int qi), some (.str z), some (.ref L), v4, v5, v6] ∧ Ext H H' ∧ H' L = some (.lst (ts.map V.ref)) ∧ MvsAt H' ts ms ∧ ms.length = i ∧ 0 ≤ qi ∧ qi < n ∧
      walkL rows q (signsOf z) = ms ++ walkL rows qi ((signsOf z).drop i)) ⟨q, [], [], none, none, none, rfl, Ext.new nL, upd_same, .nil, rfl, q0, qn, rfl⟩ (fun _ _ _ _ _ => trivial) ?_ ?_
    · rintro i x σ H1 H2 hi ⟨qi, ts, ms, v4, v5, v6, rfl, x1, l1, w1, li, c0, cn, ew⟩ ⟨rfl, c, hc, rfl⟩
      have es : (signsOf z).drop i = (⟨#[c]⟩ : Str) :: (signsOf z).drop (i + 1) := by
        have e1 : (signsOf z)[i]? = some (⟨#[c]⟩ : Str) := by
          unfold signsOf
          rw [List.getElem?_map, Array.getElem?_toList, hc]
          rfl
        obtain ⟨h1, h2⟩ := List.getElem?_eq_some_iff.mp e1
        rw [List.drop_eq_getElem_cons h1, h2]
      obtain ⟨dx, fs, L0, ds, Te, a1, a2, a3, a4, a5, a6, a7, a8⟩ := (RA.ext x1).ex
      refine ⟨_, rfl, p, dx, fs, rfl, a1, a8 _ (by decide +kernel), _, rfl, _, rfl, p, qi, _, rows, ends, b, n, rfl, RA.ext x1, ok, c0, cn, fun v hv => ?_⟩
      rw [es] at ew
      cases em : mvOf rows qi (⟨#[c]⟩ : Str) with
      | none =>
        rw [em] at hv
        obtain rfl : v = .non := hv
        refine ⟨_, rfl, rfl, true, rfl, ?_⟩
        refine ⟨_, rfl, k _ L ts x1 nL l1 ?_⟩
        rw [ew, walk_none em, List.append_nil]
        exact w1
      | some m =>
        rw [em] at hv
        obtain ⟨t, rfl, ht⟩ := hv
        have okm := mvOf_ok ok em
        refine ⟨_, rfl, rfl, false, rfl, ?_⟩
        have tl : ts.length = i := by rw [w1.len, li]
        refine ⟨_, rfl, .inl ⟨rfl, _, SqL.of l1⟩, _, rfl, L, _, _, rfl, rfl, l1, by rw [List.length_map]; exact small_list (by omega), ?_⟩
        have nt : t ≠ L := ne_of ht l1 (by intro z; cases z)
        have tt : ∀ t xs, H2 t = some (.tup xs) → (upd H2 L (.lst (ts.map V.ref ++ [V.ref t]))) t = some (.tup xs) := fun t xs e => by
          rw [upd_ne (ne_of e l1 (by intro z; cases z))]
          exact e
        have ht' : MvAt (upd H2 L (.lst (ts.map V.ref ++ [V.ref t]))) t m := by
          show upd _ L _ t = _
          rw [upd_ne nt]
          exact ht
        refine ⟨_, rfl, t, _, rfl, SqT.of ht', rfl, _, _, rfl, _, _, rfl, rfl, ?_⟩
        refine ⟨m.1, ts ++ [t], ms ++ [m], _, _, _, rfl, fun b' o e => ?_, ?_, (w1.ext fun u xs e => ?_).snoc ht', by rw [List.length_append, li]; rfl, okm.1.1, okm.1.2, ?_⟩
        · rw [upd_ne (ne_of_none e nL)]
          exact x1 _ _ e
        · rw [upd_same, List.map_append]
          rfl
        · rw [upd_ne (ne_of e l1 (by intro z; cases z))]
          exact e
        · rw [ew, walk_some em, List.append_assoc]
          rfl
    · rintro σ H1 ⟨qi, ts, ms, v4, v5, v6, rfl, x1, l1, w1, li, c0, cn, ew⟩
      refine ⟨_, rfl, k _ L ts x1 nL l1 ?_⟩
      have e : (signsOf z).drop z.cps.size = [] := List.drop_eq_nil_of_le (by unfold signsOf; rw [List.length_map, Array.length_toList]; exact Nat.le_refl _)
      rw [ew, e]
      show MvsAt H1 ts (ms ++ [])
      rw [List.append_nil]
      exact w1
theorem scRow : FnScope ["walk", "_", "told"] ["walk"] (defScope sRow) := ⟨rfl, rfl, rfl, by decide +kernel, rfl, by decide +kernel, by decide +kernel⟩
theorem ok_row {f : Addr} {fd : FuncData} (F : Fun K "_row" "_row" sRow f fd) (zt : mg "tuple" = none) : FnOk P w K mg base CX0 1 f fd ["walk"] spRow := by
  refine F.ok scRow (fun vs H Q E h => ?_) (fun cdv A0 outer s H vs Q E hr h => ?_)
  · obtain ⟨L, ts, ms, rfl, _⟩ := h
    rfl
  · obtain ⟨L, ts, ms, rfl, hL, hm, hl, k⟩ := h
    refine ⟨_, pss_one (ps_ret (pe_callTy call_tuple_of (by rfl) zt (by decide +kernel) (pa_cons (pe_lc (own := [("_", 1), ("told", 2)]) (g := gTup K 2 (gCons (gName 1) (gCons (gName 2) gNil))) (tt := tTest (tOp rNotN (tVar 2) (tC .non))) rfl scRow.nd (pi_list (pv 0)) (blkOk_by (N := ["walk", "_", "told"]) (sc := defScope sRow) (by decide +kernel))
          (fun _ _ _ _ _ => pg_tup rfl (pgs_cons (pg_name (i := 1) scRow.nd rfl (Or.inl rfl)) (pgs_cons (pg_name (i := 2) scRow.nd rfl (Or.inl rfl)) pgs_nil))) (fun _ _ _ _ _ => pts_one (pt_cmpR op_notN (pv 2) pe_non (nomark _))) (fun _ _ _ _ _ => pv 2)) pa_nil))), ?_⟩
    refine ⟨_, rfl, L, rfl, ⟨_, SqL.of hL⟩, fun D nD => ?_⟩
    refine lc_it (walk_list (xs := ts.map V.ref)) (fun i H' => Ext H H' ∧ H' D = some (.lst ((toldOf (ms.take i)).map V.str))) ⟨Ext.new nD, upd_same⟩ (fun i H' _ h => SqL.of (h.1 _ _ hL)) ?_ ?_
    · rintro i x H1 H2 hi ⟨x1, l1⟩ ⟨rfl, hx⟩
      obtain ⟨t, ht, rfl⟩ := at_map hx
      obtain ⟨m, hm1, mt⟩ := hm.at_ ht
      have mt : H t = some (.tup [.int m.1, toldV m.2]) := mt
      have e2 : toldOf (ms.take (i + 1)) = toldOf (ms.take i) ++ m.2.toList := by
        unfold toldOf
        rw [take_more hm1, List.filterMap_append]
        obtain ⟨mg, mo⟩ := m
        cases mo <;> rfl
      refine ⟨t, _, rfl, SqT.of (x1 _ _ mt), rfl, _, _, rfl, _, _, rfl, rfl, rfl, ?_⟩
      obtain ⟨mg, mo⟩ := m
      cases mo with
      | none =>
        refine ⟨_, rfl, rfl, false, rfl, ?_⟩
        rw [e2]
        show Ext H H2 ∧ H2 D = some (.lst ((_ ++ []).map V.str))
        rw [List.append_nil]
        exact ⟨x1, l1⟩
      | some z0 =>
        refine ⟨_, rfl, rfl, true, rfl, ?_⟩
        refine ⟨_, rfl, _, l1, ?_, fun b o e => by rw [upd_ne (ne_of_none e nD)]; exact x1 _ _ e, ?_⟩
        · rw [List.length_map]
          refine small_list (Nat.le_trans (List.length_filterMap_le _ _) ?_)
          rw [List.length_take]
          omega
        · rw [upd_same, e2, List.map_append]
          rfl
    · rintro H' ⟨x1, l1⟩
      have e : ms.take (ts.map V.ref).length = ms := by rw [List.length_map, hm.len, List.take_length]
      rw [e] at l1
      refine ⟨D, _, rfl, .inl ⟨SqL.of l1, fun T nT => k _ T (x1.trans (Ext.new nT)) (x1.free nT) upd_same⟩⟩
theorem scLast : FnScope ["first", "walk", "last", "_"] ["first", "walk"] (defScope sLast) := ⟨rfl, rfl, rfl, by decide +kernel, rfl, by decide +kernel, by decide +kernel⟩
theorem ok_last {f : Addr} {fd : FuncData} (F : Fun K "_last_state" "_last_state" sLast f fd) : FnOk P w K mg base CX0 1 f fd ["first", "walk"] spLast := by
  refine F.ok scLast (fun vs H Q E h => ?_) (fun cdv A0 outer s H vs Q E hr h => ?_)
  · obtain ⟨L, ts, ms, q, rfl, _⟩ := h
    rfl
  · obtain ⟨L, ts, ms, q, rfl, hL, hm, k⟩ := h
    refine ⟨_, pss_cons (ps_if (pt_not (pt_truth (pv 1) (by intro _; rfl))) (pss_one (ps_ret (pv 0))) pss_nil)
      (pss_cons (ps_asg (pe_ix ix_list (pv 1) (pe_un un_neg pe_int) (fun _ _ => rfl)) (pg_tup rfl (pgs_cons (pg_name (i := 2) scLast.nd rfl (.inl rfl)) (pgs_cons (pg_name (i := 3) scLast.nd rfl (.inl rfl)) pgs_nil))))
      (pss_one (ps_ret (pv 2)))), ?_⟩
    refine ⟨_, rfl, _, .inl ⟨_, SqL.of hL, rfl⟩, ?_⟩
    rcases ts with _ | ⟨a, l⟩
    · cases hm
      refine iteT ?_
      exact ⟨_, rfl, k⟩
    · refine iteF ?_
      generalize ets : a :: l = ts at hL hm k
      have hl : 0 < ts.length := by rw [← ets]; exact Nat.succ_pos _
      have hi : ts[ts.length - 1]? = some (ts[ts.length - 1]) := List.getElem?_eq_getElem (by omega)
      obtain ⟨m, hm1, mt⟩ := hm.at_ hi
      have mt : H ts[ts.length - 1] = some (.tup [.int m.1, toldV m.2]) := mt
      have hlast : ms.getLast? = some m := by
        rw [List.getLast?_eq_getElem?, ← hm.len]
        exact hm1
      have hat : atI (ts.map V.ref) (-1) = some (.ref ts[ts.length - 1]) := by
        unfold atI ixN
        rw [List.length_map, if_neg (by decide), if_pos (by omega)]
        show (ts.map V.ref)[((-1 : Int) + (ts.length : Nat)).toNat]? = _
        rw [show ((-1 : Int) + (ts.length : Nat)).toNat = ts.length - 1 by omega, List.getElem?_map, hi]
        rfl
      refine ⟨_, rfl, _, rfl, L, _, _, _, rfl, rfl, SqL.of hL, hat, ts[ts.length - 1], _, rfl, SqT.of mt, rfl, _, _, rfl, _, _, rfl, rfl, _, rfl, ?_⟩
      have e2 : lastOf q ms = m.1 := by
        unfold lastOf
        rw [hlast]
        rfl
      rw [e2] at k
      exact k
end
end Sl
/-! ## P15 -/
set_option Elab.async false
set_option linter.all false
set_option maxRecDepth 100000
set_option maxHeartbeats 4000000
namespace Sl
open PySem PySem.Spec PyProof.Rows L2 TxS
abbrev sLetters : Stmt := top 36
abbrev sMarks : Stmt := top 37
theorem Rng.keep {H H' : Hp} {a b : Addr} (r : Rng H a) (k : Keep b H H') (n : a ≠ b) : Rng H' a := by
  obtain ⟨x, y, h, q⟩ := r.ex
  exact ⟨x, y, k _ _ h n, q⟩
theorem Rng.ext {H H' : Hp} {a : Addr} (r : Rng H a) (k : Ext H H') : Rng H' a := by
  obtain ⟨x, y, h, q⟩ := r.ex
  exact ⟨x, y, k _ _ h, q⟩
theorem Keep.of {a : Addr} {H H' : Hp} (x : Ext H H') : Keep a H H' := fun b o e _ => x b o e
theorem Keep.free {a : Addr} {H H' : Hp} {p : Addr} {o : HO} (k : Keep a H H') (ha : H' a = some o) (n : H' p = none) : H p = none := by
  cases e : H p with
  | none => rfl
  | some u =>
    by_cases c : p = a
    · rw [c, ha] at n
      cases n
    · rw [k p u e c] at n
      cases n
theorem Rng.there {H : Hp} {a : Addr} (r : Rng H a) : ∃ o, H a = some o := by
  obtain ⟨x, y, h, q⟩ := r.ex
  exact ⟨_, h⟩
theorem Rng.lst {H : Hp} {a b : Addr} {xs : List V} (r : Rng H a) (h : H b = some (.lst xs)) (n : ∀ x y : Int, xs ≠ [.int x, .int y]) : b ≠ a := fun e => by
  obtain ⟨x, y, h2, q⟩ := r.ex
  rw [e, h2] at h
  exact n x y (by injection h with h; injection h with h; exact h.symm)
def spChoice : Sp := fun vs H Q _ => ∃ (a b : Addr) (xs : List V), vs = [.ref a, .ref b] ∧ Rng H a ∧ H b = some (.lst xs) ∧ b ≠ a ∧ 0 < xs.length ∧ xs.length ≤ 10000 ∧
  ∀ (i : Nat) (v : V) (H' : Hp), xs[i]? = some v → Rng H' a → Keep a H H' → Q v H'
def abc : Str := "abcdefghijklmnopqrstuvwxyz"
def abcL : List Str := signsOf abc
/-- different letters -/
def spLetters : Sp := fun vs H Q _ => ∃ (a : Addr) (n : Nat), vs = [.ref a, .int n] ∧ Rng H a ∧ n ≤ 26 ∧
  ∀ (H' : Hp) (L : Addr) (zs : List Str), Rng H' a → Keep a H H' → H L = none → H' L = some (.lst (zs.map V.str)) → zs.length = n → zs.Nodup → (∀ z ∈ zs, z ∈ abcL) → Q (.ref L) H'
def rLen (K : PySem.W.Frag) : List V → Hp → VK → Prop := fun xs H Q => ∃ p ys, xs = [V.ref p] ∧ (SqL K H p ys ∨ SqT K H p ys) ∧ Q (.int (ys.length : Nat)) H
theorem ix_nat {n j : Nat} (h : j < n) : ixN n (j : Int) = some j := by
  unfold ixN
  rw [if_pos (by omega), if_pos (by omega), Int.toNat_natCast]
theorem erase_map {α β : Type} (f : α → β) : ∀ (l : List α) (j : Nat), (l.map f).eraseIdx j = (l.eraseIdx j).map f
  | [], _ => rfl
  | _ :: _, 0 => rfl
  | x :: l, j + 1 => congrArg (f x :: ·) (erase_map f l j)
theorem pick_perm {α : Type} : ∀ (l : List α) (j : Nat) (h : j < l.length), (l[j] :: l.eraseIdx j).Perm l
  | [], _, h => by cases h
  | x :: l, 0, _ => List.Perm.refl _
  | x :: l, j + 1, h => (List.Perm.swap x _ _).trans ((pick_perm l j (Nat.lt_of_succ_lt_succ h)).cons x)
/-- list(a text): its signs -/
def rListStr : List V → Hp → VK → Prop := fun xs H Q => ∃ z : Str, xs = [.str z] ∧ z.length ≤ 10000 ∧ ∀ l, H l = none → Q (.ref l) (upd H l (.lst ((signsOf z).map V.str)))
theorem signs_vals {z : Str} {acc : Array Value} (h : ItemsOf (SignAt z) acc z.cps.size) : Vals ((signsOf z).map V.str) acc.toList := by
  have key : ∀ (cs : List Nat) (vs : List Value), vs.length = cs.length → (∀ (j : Nat) (v : Value), vs[j]? = some v → ∃ c u, cs[j]? = some c ∧ v = Value.str ⟨#[c]⟩ u) → Vals (cs.map fun c => V.str ⟨#[c]⟩) vs := by
    intro cs
    induction cs with
    | nil =>
      intro vs e _
      rw [List.eq_nil_of_length_eq_zero e]
      exact .nil
    | cons c cs ih =>
      intro vs e q
      cases vs with
      | nil => cases e
      | cons v vs =>
        obtain ⟨c', u, e1, e2⟩ := q 0 v rfl
        cases e1
        exact .cons ⟨u, e2⟩ (ih vs (by simpa using e) fun j v' hj => q (j + 1) v' hj)
  have k := key z.cps.toList acc.toList (by rw [Array.length_toList, Array.length_toList]; exact h.1) fun j v hj => by
    obtain ⟨c, u, e1, e2⟩ := h.2 j v (by rw [← Array.getElem?_toList]; exact hj)
    exact ⟨c, u, by rw [Array.getElem?_toList]; exact e1, e2⟩
  unfold signsOf
  rw [List.map_map]
  exact k
theorem cr_listStr {X : Cx} (hc : X.calm = true) : CallR X (.type "list") rListStr := by
  intro pins s σ H xs us Q I r h
  obtain ⟨z, rfl, hz, q⟩ := h
  obtain ⟨u, rfl, t, rfl⟩ := vals1 r
  have hz' : z.cps.size ≤ sizeLine := small_size hz
  refine PySem.call_list_str (I.ok.hd hc) z t (fun h' tk acc' c' k ho hi => ?_) hz'
  have hv := signs_vals hi
  have hl : ((signsOf z).map V.str).length ≤ sizeLine := by
    rw [Paired.length hv, Array.length_toList, hi.1]
    exact hz'
  exact ⟨.ref s.heap.objs.size, upd H s.heap.objs.size (.lst ((signsOf z).map V.str)), I.laid (t' := tk) k (Nat.le_refl _) ⟨hl, acc'.toList, c', hv, ho⟩, rfl, q _ (I.hok.fresh (Nat.le_refl _))⟩
section
variable {P : Program} {w : World} {K : PySem.W.Frag} {mg : Str → Option Value} {base : Heap}
theorem scChoice : FnScope ["_law_rng_here", "_law_some"] ["_law_rng_here", "_law_some"] (defScope sChoice) := ⟨rfl, rfl, rfl, by decide +kernel, rfl, by decide +kernel, by decide +kernel⟩
theorem ok_choice {f fD : Addr} {fd fdD : FuncData} (F : Fun K "_law_choice" "_law_choice" sChoice f fd) (aD : At K mg "_law_draw" fD fdD ["_law_rng_here", "_law_many"] []) (gD : FnOk P w K mg base CX0 1 fD fdD ["_law_rng_here", "_law_many"] spDraw) (zn : mg "len" = none) :
    FnOk P w K mg base CX0 2 f fd ["_law_rng_here", "_law_some"] spChoice := by
  refine F.ok scChoice (fun vs H Q E h => ?_) (fun cdv A0 outer s H vs Q E hr h => ?_)
  · obtain ⟨a, b, xs, rfl, _⟩ := h
    rfl
  · obtain ⟨a, b, xs, rfl, hR, hb, nab, h0, hl, k⟩ := h
    refine ⟨_, pss_one (ps_ret (pe_ix ix_list (pv 1) (pe_call gD hr (by rfl) aD.g aD.kp aD.b .nil pass0 (pa_cons (pv 0) (pa_cons (pe_callB call_len_seq (by rfl) zn PySem.boot_len (pa_cons (pv 1) pa_nil)) pa_nil))) (fun _ _ => rfl))), ?_⟩
    refine ⟨_, rfl, _, rfl, _, rfl, b, xs, rfl, .inl (SqL.of hb), a, _, rfl, hR, by omega, by omega, fun d H' d0 dn r' k' => ?_⟩
    obtain ⟨j, rfl⟩ : ∃ j : Nat, d = (j : Int) := ⟨d.toNat, by omega⟩
    have hj : j < xs.length := by omega
    exact ⟨b, xs, _, xs[j], rfl, rfl, SqL.of (k' _ _ hb nab), atI_nat (List.getElem?_eq_getElem hj), k j _ H' (List.getElem?_eq_getElem hj) r' k'⟩
theorem scLetters : FnScope ["_law_rng_here", "_law_many", "_law_left", "_law_k"] ["_law_rng_here", "_law_many"] (defScope sLetters) := ⟨rfl, rfl, rfl, by decide +kernel, rfl, by decide +kernel, by decide +kernel⟩
theorem ok_letters {f fD : Addr} {fd fdD : FuncData} (F : Fun K "_law_letters" "_law_letters" sLetters f fd) (aD : At K mg "_law_draw" fD fdD ["_law_rng_here", "_law_many"] []) (gD : FnOk P w K mg base CX0 1 fD fdD ["_law_rng_here", "_law_many"] spDraw) (zn : mg "len" = none) (zl : mg "list" = none) (zr : mg "range" = none) :
    FnOk P w K mg base CX0 2 f fd ["_law_rng_here", "_law_many"] spLetters := by
  refine F.ok scLetters (fun vs H Q E h => ?_) (fun cdv A0 outer s H vs Q E hr h => ?_)
  · obtain ⟨a, n, rfl, _⟩ := h
    rfl
  · obtain ⟨a, n, rfl, hR, hn, k⟩ := h
    refine ⟨_, pss_cons (ps_set (i := 2) scLetters.nd rfl (.inr rfl) (pe_callTy (cr_listStr rfl) (by rfl) zl (by decide +kernel) (pa_cons pe_str pa_nil)))
      (pss_one (ps_ret (pe_lc (own := [("_law_k", 3)]) (g := gName 3) (tt := tYes) (te := tBM K "list" rPopAt (tVar 2) (tCons (tCall spDraw [] (fun _ _ _ => False) (tCons (tVar 0) (tCons (tCB (rLen K) (tCons (tVar 2) tNil)) tNil))) tNil)) rfl scLetters.nd (pi_range1 rfl zr (pa_cons (pv 1) pa_nil)) (blkOk_by (N := ["_law_rng_here", "_law_many", "_law_left", "_law_k"]) (sc := defScope sLetters) (by decide +kernel))
          (fun _ _ _ _ _ => pg_name (i := 3) scLetters.nd rfl (Or.inl rfl)) (fun _ _ _ _ _ => pts_nil)
          (fun _ _ _ _ _ => by exact pe_bm PySem.F.plainAttrs_list PySem.F.slot_list_pop PySem.F.type_list_pop mt_popAt (pv 2) (pa_cons (pe_call gD hr (by rfl) aD.g aD.kp aD.b .nil pass0 (pa_cons (pv 0) (pa_cons (pe_callB call_len_seq (by rfl) zn PySem.boot_len (pa_cons (pv 2) pa_nil)) pa_nil))) pa_nil))))), ?_⟩
    have e26 : abcL.length = 26 := by decide +kernel
    have nd26 : abcL.Nodup := by decide +kernel
    refine ⟨abc, rfl, by decide, fun Lf nLf => ?_⟩
    have aLf : Lf ≠ a := fun e => by
      obtain ⟨o, h⟩ := hR.there
      rw [e, h] at nLf
      cases nLf
    refine ⟨_, rfl, n, rfl, by omega, by omega, fun D nD => ?_⟩
    have nLD : Lf ≠ D := ne_of_none upd_same nD
    have nD0 : H D = none := (Ext.new nLf).free nD
    have aD' : D ≠ a := fun e => by
      obtain ⟨o, h⟩ := hR.there
      rw [e, h] at nD0
      cases nD0
    refine lc_range (n := n) (fun i H' => ∃ left picked : List Str, H' Lf = some (.lst (left.map V.str)) ∧ H' D = some (.lst (picked.map V.str)) ∧ (picked ++ left).Perm abcL ∧ picked.length = i ∧ Rng H' a ∧ Keep a H H') ⟨abcL, [], by rw [upd_ne nLD]; exact upd_same, upd_same, List.Perm.refl _, rfl, hR.ext ((Ext.new nLf).trans (Ext.new nD)), Keep.of ((Ext.new nLf).trans (Ext.new nD))⟩ ?_ ?_
    · rintro i H1 hi ⟨left, picked, l1, l2, pm, lp, r1, k1⟩
      have ll : picked.length + left.length = 26 := by rw [← List.length_append, pm.length_eq, e26]
      refine ⟨rfl, _, rfl, .inl ⟨rfl, _, SqL.of l1⟩, _, rfl, _, rfl, Lf, _, rfl, .inl (SqL.of l1), a, _, rfl, r1, by rw [List.length_map]; omega, by rw [List.length_map]; omega, fun d H2 d0 dn r2 k2 => ?_⟩
      rw [List.length_map] at dn
      obtain ⟨j, rfl⟩ : ∃ j : Nat, d = (j : Int) := ⟨d.toNat, by omega⟩
      have hj : j < left.length := by omega
      have l1' := k2 _ _ l1 aLf
      refine ⟨Lf, _, _, j, .str left[j], rfl, rfl, l1', by omega, by omega, (ixN_seq (ix_nat (by rw [List.length_map]; exact hj))).1, by rw [List.getElem?_map, List.getElem?_eq_getElem hj]; rfl, ?_⟩
      have l2' : (upd H2 Lf (.lst ((left.map V.str).eraseIdx j))) D = some (.lst (picked.map V.str)) := by
        rw [upd_ne nLD.symm]
        exact k2 _ _ l2 aD'
      refine ⟨_, l2', by rw [List.length_map]; exact small_list (by omega), left.eraseIdx j, picked ++ [left[j]], ?_, ?_, ?_, ?_, ?_, ?_⟩
      · rw [upd_ne nLD, upd_same, erase_map]
      · rw [upd_same, List.map_append]
        rfl
      · refine List.Perm.trans ?_ pm
        rw [List.append_assoc]
        exact List.Perm.append_left _ (pick_perm left j hj)
      · rw [List.length_append, lp]
        rfl
      · obtain ⟨x, y, h, q⟩ := r2.ex
        exact ⟨x, y, by rw [upd_ne aD'.symm, upd_ne aLf.symm]; exact h, q⟩
      · intro b o e nb
        rw [upd_ne (ne_of_none e nD0), upd_ne (ne_of_none e nLf)]
        exact k2 _ _ (k1 b o e nb) nb
    · rintro H' ⟨left, picked, l1, l2, pm, lp, r1, k1⟩
      have ndp := (List.nodup_append.mp (pm.nodup_iff.mpr nd26)).1
      exact k H' D picked r1 k1 nD0 l2 lp ndp fun z hz => pm.mem_iff.mp (List.mem_append_left _ hz)
end
end Sl
/-! ## P16 -/
set_option Elab.async false
set_option linter.all false
set_option maxRecDepth 100000
set_option maxHeartbeats 4000000
namespace Sl
open PySem PySem.Spec PyProof.Rows L2 TxS
/-- marks that differ -/
def spMarks : Sp := fun vs H Q _ => ∃ (a : Addr) (n : Nat), vs = [.ref a, .int n] ∧ Rng H a ∧ n ≤ 6 ∧
  ∀ (H' : Hp) (L : Addr) (zs : List Str), Rng H' a → Keep a H H' → H L = none → H' L = some (.lst (zs.map V.str)) → zs.length = n → zs.Nodup → (∀ z ∈ zs, markS z = true ∧ z.length ≤ 8) → Q (.ref L) H'
theorem abc_at {j : Nat} (h : j < 26) : ∃ c, abc.cps.toList[j]? = some c ∧ lowC c = true := by
  have k : ∀ j : Fin 26, ∃ c, abc.cps.toList[j.val]? = some c ∧ lowC c = true := by
    intro j
    have q : (abc.cps.toList[j.val]?).all (fun c => lowC c) = true ∧ (abc.cps.toList[j.val]?).isSome = true := by
      revert j
      decide +kernel
    obtain ⟨q1, q2⟩ := q
    obtain ⟨c, hc⟩ := Option.isSome_iff_exists.mp q2
    rw [hc] at q1
    exact ⟨c, hc, q1⟩
  exact k ⟨j, h⟩
theorem word_of_all {z : Str} (h : ∀ c ∈ z.cps.toList, lowC c = true) : isWordS z = true := by
  unfold isWordS
  rw [List.all_eq_true]
  exact h
open TL in
/-- letters joined -/
theorem join_word : ∀ {ys : List Str}, (∀ y ∈ ys, ∃ c, y = ⟨#[c]⟩ ∧ lowC c = true) → isWordS (Txt.join "" ys) = true ∧ (Txt.join "" ys).length = ys.length := fun {ys} h => by
  refine ⟨?_, join_len fun y hy => by obtain ⟨c, rfl, _⟩ := h y hy; rfl⟩
  have e : ∀ l : List (List Nat), (joinL [] l) = l.flatten := by
    intro l
    induction l with
    | nil => rfl
    | cons x l ih =>
      cases l with
      | nil =>
        show x = (x :: []).flatten
        simp
      | cons y r =>
        show x ++ ([] ++ joinL [] (y :: r)) = _
        rw [List.nil_append, ih]
        rfl
  have k : tl (Str.join ("" : Str) ys) = joinL (tl ("" : Str)) (ys.map tl) := tl_join "" ys
  have z : tl ("" : Str) = [] := rfl
  rw [join_eq]
  refine word_of_all fun c hc => ?_
  have hc : c ∈ tl (Str.join ("" : Str) ys) := hc
  rw [k, z, e] at hc
  obtain ⟨l, hl, hcl⟩ := List.mem_flatten.mp hc
  obtain ⟨y, hy, rfl⟩ := List.mem_map.mp hl
  obtain ⟨c', rfl, hl'⟩ := h y hy
  have : c = c' := List.mem_singleton.mp hcl
  rw [this]
  exact hl'
def spare : List Str := abcL.map fun z => ("m" : Str) ++ z
theorem spare_ok : spare.length = 26 ∧ spare.Nodup ∧ ∀ z ∈ spare, markS z = true ∧ z.length ≤ 8 := by
  refine ⟨by decide +kernel, by decide +kernel, ?_⟩
  have h : (spare.all fun z => markS z && decide (z.length ≤ 8)) = true := by decide +kernel
  intro z hz
  have q := List.all_eq_true.mp h z hz
  rw [Bool.and_eq_true, decide_eq_true_eq] at q
  exact q
theorem mark_of {z : Str} (h : isWordS z = true) (h2 : 2 ≤ z.length) (h8 : z.length ≤ 8) : markS z = true := by
  unfold markS nameS
  rw [h, decide_eq_true (by omega : 1 ≤ z.length), decide_eq_true h8, decide_eq_true (by omega : 1 < z.length)]
  rfl
theorem inV_strs {z : Str} : ∀ {l : List Str}, inV (.str z) (l.map V.str) = decide (z ∈ l)
  | [] => rfl
  | y :: l => by
    have ih := inV_strs (z := z) (l := l)
    unfold inV at ih ⊢
    rw [List.map_cons, List.any_cons, ih]
    have e : eqV (.str y) (.str z) = decide (z = y) := by
      show (y == z) = _
      by_cases c : y = z
      · rw [c]
        simp
      · rw [decide_eq_false (fun k => c k.symm)]
        exact beq_eq_false_iff_ne.mpr c
    rw [e]
    by_cases c : z = y
    · subst c
      simp
    · rw [decide_eq_false c, Bool.false_or]
      exact decide_eq_decide.mpr ⟨fun h => List.mem_cons_of_mem _ h, fun h => (List.mem_cons.mp h).resolve_left c⟩
theorem flat_strs : ∀ (l : List Str), (l.map V.str).all flatV = true
  | [] => rfl
  | _ :: l => flat_strs l
section
variable {P : Program} {w : World} {K : PySem.W.Frag} {mg : Str → Option Value} {base : Heap}
theorem scMarks : FnScope ["_law_rng_here", "_law_many", "_law_found", "_law_k", "_law_size", "_law_mark", "_law_spare", "_law_turn", "_law_letter", "_law_one"] ["_law_rng_here", "_law_many"] (defScope sMarks) := ⟨rfl, rfl, rfl, by decide +kernel, rfl, by decide +kernel, by decide +kernel⟩
theorem ok_marks {f fD : Addr} {fd fdD : FuncData} (F : Fun K "_law_marks" "_law_marks" sMarks f fd) (aD : At K mg "_law_draw" fD fdD ["_law_rng_here", "_law_many"] []) (gD : FnOk P w K mg base CX0 1 fD fdD ["_law_rng_here", "_law_many"] spDraw) (zr : mg "range" = none) :
    FnOk P w K mg base CX0 2 f fd ["_law_rng_here", "_law_many"] spMarks := by
  refine F.ok scMarks (fun vs H Q E h => ?_) (fun cdv A0 outer s H vs Q E hr h => ?_)
  · obtain ⟨a, n, rfl, _⟩ := h
    rfl
  · obtain ⟨a, n, rfl, hR, hn, k⟩ := h
    refine ⟨_, pss_cons (ps_set (i := 2) scMarks.nd rfl (.inr rfl) (pe_lst pa_nil))
      (pss_cons (ps_for PassesOwn.never rfl (pi_range1 rfl zr (pa_cons (pv 1) pa_nil)) (pg_name (i := 3) scMarks.nd rfl (.inl rfl))
        (pss_cons (ps_set (i := 4) scMarks.nd rfl (.inl rfl) (pe_op op_add pe_int (pe_ix ix_list (pe_lst (pa_cons pe_int (pa_cons pe_int (pa_cons pe_int (pa_cons pe_int pa_nil))))) (pe_call gD hr (by rfl) aD.g aD.kp aD.b .nil pass0 (pa_cons (pv 0) (pa_cons pe_int pa_nil))) (fun _ _ => rfl))))
        (pss_cons (ps_set (i := 5) scMarks.nd rfl (.inl rfl) (pe_join pe_str (pe_lc (own := [("_law_turn", 7)]) (g := gName 7) (tt := tYes) (te := tOp rIxS (tC (.str abc)) (tCall spDraw [] (fun _ _ _ => False) (tCons (tVar 0) (tCons (tC (.int 26)) tNil)))) rfl scMarks.nd (pi_range1 rfl zr (pa_cons (pv 4) pa_nil)) (blkOk_by (N := ["_law_rng_here", "_law_many", "_law_found", "_law_k", "_law_size", "_law_mark", "_law_spare", "_law_turn", "_law_letter", "_law_one"]) (sc := defScope sMarks) (by decide +kernel))
            (fun _ _ _ _ _ => pg_name (i := 7) scMarks.nd rfl (Or.inl rfl)) (fun _ _ _ _ _ => pts_nil) (fun _ _ _ _ _ => pe_ix ix_str pe_str (pe_call gD hr (by rfl) aD.g aD.kp aD.b .nil pass0 (pa_cons (pv 0) (pa_cons pe_int pa_nil))) (fun _ _ => rfl)))))
        (pss_cons (ps_setLc (i := 6) (own := [("_law_letter", 8)]) (g := gName 8) (tt := tYes) (te := tOp (fun x y H Q => ∃ i j, x = .str i ∧ y = .str j ∧ i.length + j.length ≤ sizeLine ∧ Q (.str (i ++ j)) H) (tC (.str "m")) (tVar 8)) rfl scMarks.nd rfl rfl (sw_true rfl rfl rfl (by decide +kernel)) (pi_str pe_str) (blkOk_by (N := ["_law_rng_here", "_law_many", "_law_found", "_law_k", "_law_size", "_law_mark", "_law_spare", "_law_turn", "_law_letter", "_law_one"]) (sc := defScope sMarks) (by decide +kernel))
            (fun _ _ _ _ _ => pg_name (i := 8) scMarks.nd rfl (Or.inl rfl)) (fun _ _ _ _ _ => pts_nil) (fun _ _ _ _ _ => pe_op op_add_str pe_str (pv 8)))
        (pss_one (ps_expr (pe_bm PySem.F.plainAttrs_list PySem.F.slot_list_append PySem.F.type_list_append mt_append (pv 2) (pa_cons (pe_ix ix_list (pe_lc (own := [("_law_one", 9)]) (g := gName 9) (tt := tTest (tOp (rIn K true) (tVar 9) (tVar 2))) rfl scMarks.nd (pi_list (pe_op op_cat (pe_lst (pa_cons (pv 5) pa_nil)) (pv 6))) (blkOk_by (N := ["_law_rng_here", "_law_many", "_law_found", "_law_k", "_law_size", "_law_mark", "_law_spare", "_law_turn", "_law_letter", "_law_one"]) (sc := defScope sMarks) (by decide +kernel))
            (fun _ _ _ _ _ => pg_name (i := 9) scMarks.nd rfl (Or.inl rfl)) (fun _ _ _ _ _ => pts_one (pt_cmpR op_notIn_seq (pv 9) (pv 2) (by rfl))) (fun _ _ _ _ _ => pv 9)) pe_int (fun _ _ => rfl)) pa_nil))))))))
      (pss_one (ps_ret (pv 2)))), ?_⟩
    refine ⟨Nat.zero_le _, fun Lf nLf => ?_⟩
    have na : ∀ {H' : Hp} {p : Addr}, Rng H' a → H' p = none → p ≠ a := fun r n e => by
      obtain ⟨o, h⟩ := r.there
      rw [e, h] at n
      cases n
    have aLf := na hR nLf
    refine ⟨_, rfl, n, rfl, by omega, by omega, ?_⟩
    refine for_it (walk_range (lo := 0) (n := n)) (fun i σ H' => ∃ (found : List Str) (v3 v4 v5 v6 v7 v8 v9 : Option V), σ = [some (.ref a), some (.int n), some (.ref Lf), v3, v4, v5, v6, v7, v8, v9] ∧ H' Lf = some (.lst (found.map V.str)) ∧ found.length = i ∧ found.Nodup ∧ (∀ z ∈ found, markS z = true ∧ z.length ≤ 8) ∧ Rng H' a ∧ Keep a H H')
      ⟨[], none, none, none, none, none, none, none, rfl, upd_same, rfl, List.nodup_nil, fun z h => (nomatch h), hR.ext (Ext.new nLf), Keep.of (Ext.new nLf)⟩ (fun _ _ _ _ _ => trivial) ?_ ?_
    · rintro i x σ H1 H1' hi ⟨found, v3, v4, v5, v6, v7, v8, v9, rfl, l1, li, nd1, ok1, r1, k1⟩ ⟨rfl, rfl⟩
      -- _law_size
      refine ⟨by show 4 ≤ sizeLine; decide, fun l nl => ⟨_, rfl, a, 4, rfl, r1.ext (Ext.new nl), by decide, by decide, fun d H2 d0 dn r2 k2 => ?_⟩⟩
      obtain ⟨j, rfl⟩ : ∃ j : Nat, d = (j : Int) := ⟨d.toNat, by omega⟩
      obtain ⟨sz, hsz, hs1, hs2⟩ : ∃ sz : Nat, ([V.int 1, V.int 1, V.int 2, V.int 7])[j]? = some (V.int (sz : Nat)) ∧ 1 ≤ sz ∧ sz ≤ 7 := by
        have : j = 0 ∨ j = 1 ∨ j = 2 ∨ j = 3 := by omega
        rcases this with rfl | rfl | rfl | rfl
        · exact ⟨1, rfl, by decide, by decide⟩
        · exact ⟨1, rfl, by decide, by decide⟩
        · exact ⟨2, rfl, by decide, by decide⟩
        · exact ⟨7, rfl, by decide, by decide⟩
      have nla := na r1 nl
      refine ⟨l, _, _, .int (sz : Nat), rfl, rfl, SqL.of (k2 _ _ upd_same nla), atI_nat hsz, _, _, rfl, rfl, ?_⟩
      have l2 : H2 Lf = some (.lst (found.map V.str)) := k2 _ _ ((Ext.new nl) _ _ l1) aLf
      have k2' : Keep a H H2 := k1.trans ((Keep.of (Ext.new nl)).trans k2)
      clear k2
      -- _law_mark
      refine ⟨⟨_, rfl⟩, _, rfl, (1 + (sz : Int)), rfl, by omega, by omega, fun D nD => ?_⟩
      have nDa := na r2 nD
      refine lc_range (n := 1 + sz) (fun i H' => ∃ ys : List Str, H' D = some (.lst (ys.map V.str)) ∧ ys.length = i ∧ (∀ y ∈ ys, ∃ c, y = ⟨#[c]⟩ ∧ lowC c = true) ∧ Rng H' a ∧ Keep a H2 H') ⟨[], upd_same, rfl, fun y h => (nomatch h), r2.ext (Ext.new nD), Keep.of (Ext.new nD)⟩ ?_ ?_
      · rintro j' H3 hj' ⟨ys, d3, ly, oy, r3, k3⟩
        refine ⟨rfl, _, rfl, a, 26, rfl, r3, by decide, by decide, fun d' H4 e0 en r4 k4 => ?_⟩
        obtain ⟨m, rfl⟩ : ∃ m : Nat, d' = (m : Int) := ⟨d'.toNat, by omega⟩
        obtain ⟨c, hc, lc⟩ := abc_at (j := m) (by omega)
        refine ⟨abc, _, c, rfl, rfl, by decide, atI_nat hc, _, k4 _ _ d3 nDa, by rw [List.length_map]; exact small_list (by omega), ys ++ [⟨#[c]⟩], by rw [upd_same, List.map_append]; rfl, by rw [List.length_append, ly]; rfl, fun y hy => ?_, ?_, ?_⟩
        · rcases List.mem_append.mp hy with q | q
          · exact oy y q
          · exact ⟨c, List.mem_singleton.mp q, lc⟩
        · obtain ⟨x, y, h, q⟩ := r4.ex
          exact ⟨x, y, by rw [upd_ne nDa.symm]; exact h, q⟩
        · intro b o e nb
          rw [upd_ne (ne_of_none e nD)]
          exact k4 _ _ (k3 b o e nb) nb
      · rintro H3 ⟨ys, d3, ly, oy, r3, k3⟩
        obtain ⟨wd, wl⟩ := join_word oy
        have hj3 : (ys.map (·.length)).sum + ys.length * ("" : Str).length ≤ 16777216 := join_le (fun y hy => by obtain ⟨c, rfl, _⟩ := oy y hy; show 1 ≤ 8; decide) (by omega)
        refine ⟨_, D, ys, rfl, rfl, .inl (SqL.of d3), hj3, ?_⟩
        generalize Txt.join "" ys = mark at wd wl ⊢
        have l3 := k3 _ _ l2 aLf
        have k3' := k2'.trans k3
        -- _law_spare
        refine ⟨abc, rfl, fun D2 nD2 => ?_⟩
        have nD2a := na r3 nD2
        refine lc_it (walk_str (z := abc)) (fun i H' => H' D2 = some (.lst ((spare.take i).map V.str)) ∧ Ext H3 H') ⟨upd_same, Ext.new nD2⟩ (fun _ _ _ _ => trivial) ?_ ?_
        · rintro j' x H4 H4' hj' ⟨d4, x4⟩ ⟨rfl, c, hc, rfl⟩
          refine ⟨rfl, _, rfl, _, _, rfl, rfl, by show 1 + 1 ≤ sizeLine; decide, _, d4, ?_, ?_, fun b o e => ?_⟩
          · rw [List.length_map, List.length_take]
            exact small_list (by have := spare_ok.1; omega)
          · have e1 : spare[j']? = some (("m" : Str) ++ ⟨#[c]⟩) := by
              unfold spare abcL signsOf
              rw [List.getElem?_map, List.getElem?_map, Array.getElem?_toList, hc]
              rfl
            rw [upd_same, take_more e1, List.map_append]
            rfl
          · rw [upd_ne (ne_of_none e nD2)]
            exact x4 _ _ e
        · rintro H4 ⟨d4, x4⟩
          have e26 : spare.take abc.cps.size = spare := List.take_of_length_le (by rw [spare_ok.1]; decide)
          rw [e26] at d4
          have l4 := x4 _ _ l3
          have r4 := r3.ext x4
          -- the first that is new
          refine ⟨_, rfl, .inl ⟨rfl, _, SqL.of l4⟩, _, rfl, by show 1 ≤ sizeLine; decide, fun L1 nL1 => ?_⟩
          have d5 := (Ext.new nL1 (o := .lst [V.str mark])) _ _ d4
          refine ⟨_, rfl, _, _, _, _, rfl, rfl, upd_same, d5, by rw [List.length_map, spare_ok.1]; show 1 + 26 ≤ sizeLine; decide, fun L2' nL2 => ?_⟩
          have x5 : Ext H4 (upd (upd H4 L1 (.lst [V.str mark])) L2' (.lst ([V.str mark] ++ spare.map V.str))) := (Ext.new nL1).trans (Ext.new nL2)
          have d6 : (upd (upd H4 L1 (.lst [V.str mark])) L2' (.lst ([V.str mark] ++ spare.map V.str))) L2' = some (.lst ((mark :: spare).map V.str)) := upd_same
          generalize upd (upd H4 L1 (.lst [V.str mark])) L2' (.lst ([V.str mark] ++ spare.map V.str)) = H5 at x5 d6 ⊢
          refine ⟨L2', rfl, ⟨_, SqL.of d6⟩, fun D3 nD3 => ?_⟩
          have l5 := x5 _ _ l4
          refine lc_it (walk_list (xs := (mark :: spare).map V.str)) (fun i H' => H' D3 = some (.lst ((((mark :: spare).take i).filter fun z => !decide (z ∈ found)).map V.str)) ∧ Ext H5 H') ⟨upd_same, Ext.new nD3⟩ (fun i H' _ h => SqL.of (h.2 _ _ d6)) ?_ ?_
          · rintro j' x H6 H6' hj' ⟨d7, x7⟩ ⟨rfl, hx⟩
            obtain ⟨z, hz, rfl⟩ := at_map hx
            refine ⟨rfl, _, rfl, _, rfl, Lf, _, rfl, .inl (SqL.of (x7 _ _ l5)), rfl, flat_strs found, ?_⟩
            rw [inV_strs]
            refine ⟨_, rfl, ?_⟩
            rw [take_more hz, List.filter_append]
            have lt : (((mark :: spare).take j').filter fun z => !decide (z ∈ found)).length ≤ 27 := Nat.le_trans (List.length_filter_le _ _) (by rw [List.length_take, List.length_cons, spare_ok.1]; omega)
            by_cases c : z ∈ found
            · have e1 : List.filter (fun z => !decide (z ∈ found)) [z] = [] := by simp [c]
              rw [e1, List.append_nil, decide_eq_true c]
              exact ⟨d7, x7⟩
            · have e1 : List.filter (fun z => !decide (z ∈ found)) [z] = [z] := by simp [c]
              rw [e1, List.map_append, decide_eq_false c]
              refine ⟨_, rfl, _, d7, by rw [List.length_map]; exact small_list (by omega), upd_same, fun b o e => ?_⟩
              rw [upd_ne (ne_of_none e nD3)]
              exact x7 _ _ e
          · rintro H6 ⟨d7, x7⟩
            rw [List.length_map, List.take_length] at d7
            obtain ⟨one, rest, ef⟩ : ∃ one rest, ((mark :: spare).filter fun z => !decide (z ∈ found)) = one :: rest := by
              cases e : ((mark :: spare).filter fun z => !decide (z ∈ found)) with
              | cons one rest => exact ⟨one, rest, rfl⟩
              | nil =>
                have sub : ∀ z ∈ spare, z ∈ found := fun z hz => by
                  by_cases c : z ∈ found
                  · exact c
                  · have m : z ∈ (mark :: spare).filter fun z => !decide (z ∈ found) := List.mem_filter.mpr ⟨List.mem_cons_of_mem _ hz, by simp [c]⟩
                    rw [e] at m
                    cases m
                have := len_le spare_ok.2.1 sub
                have := spare_ok.1
                omega
            rw [ef] at d7
            have hm : one ∈ (mark :: spare).filter fun z => !decide (z ∈ found) := by rw [ef]; exact List.mem_cons_self
            obtain ⟨hm1, hm2⟩ := List.mem_filter.mp hm
            have hnew : one ∉ found := fun c => by
              rw [decide_eq_true c] at hm2
              cases hm2
            have okm : markS one = true ∧ one.length ≤ 8 := by
              rcases List.mem_cons.mp hm1 with rfl | c
              · exact ⟨mark_of wd (by omega) (by omega), by omega⟩
              · exact spare_ok.2.2 one c
            have l6 := x7 _ _ l5
            refine ⟨D3, _, 0, .str one, rfl, rfl, SqL.of d7, atI_nat (j := 0) rfl, Lf, _, _, rfl, rfl, l6, by rw [List.length_map]; exact small_list (by omega), ?_⟩
            have x8 : Ext H3 H6 := x4.trans (x5.trans x7)
            have r6 := r3.ext x8
            refine ⟨found ++ [one], _, _, _, _, _, _, _, rfl, by rw [upd_same, List.map_append]; rfl, by rw [List.length_append, li]; rfl, ?_, fun z hz => ?_, ?_, fun b o e nb => ?_⟩
            · exact List.nodup_append.mpr ⟨nd1, by simp, fun p hp q hq e => hnew (by rw [← List.mem_singleton.mp hq, ← e]; exact hp)⟩
            · rcases List.mem_append.mp hz with c | c
              · exact ok1 z c
              · rw [List.mem_singleton.mp c]
                exact okm
            · obtain ⟨x, y, h, q⟩ := r6.ex
              exact ⟨x, y, by rw [upd_ne aLf.symm]; exact h, q⟩
            · rw [upd_ne (ne_of_none e nLf)]
              exact x8 _ _ (k3' b o e nb)
    · rintro σ H1 ⟨found, v3, v4, v5, v6, v7, v8, v9, rfl, l1, li, nd1, ok1, r1, k1⟩
      exact ⟨_, rfl, k H1 Lf found r1 k1 nLf l1 li nd1 ok1⟩
end
end Sl
/-! ## P17 -/
set_option Elab.async false
set_option linter.all false
set_option maxRecDepth 100000
set_option maxHeartbeats 4000000
namespace Sl
open PySem PySem.Spec PyProof.Rows L2 TxS
abbrev sAnyFormat : Stmt := top 38
theorem RowsAt.keepN {H H' : Hp} {a : Addr} (k : Keep a H H') (n2 : ∀ xs, H a ≠ some (.tup xs)) : ∀ {ds : List Addr} {rows : List Rw}, a ∉ ds → RowsAt H ds rows → RowsAt H' ds rows
  | _, _, _, .nil => .nil
  | _, _, n1, .cons ⟨es, e, b⟩ h => .cons ⟨es, k _ _ e (fun z => n1 (by rw [← z]; exact List.mem_cons_self)), b.ext fun t xs e => k _ _ e (fun z => n2 _ (by rw [← z]; exact e))⟩ (h.keepN k n2 fun m => n1 (List.mem_cons_of_mem _ m))
theorem Rng.notup {H : Hp} {a : Addr} (r : Rng H a) : ∀ xs, H a ≠ some (.tup xs) := fun xs e => by
  obtain ⟨x, y, h, q⟩ := r.ex
  rw [h] at e
  cases e
theorem Rng.nodict {H : Hp} {a : Addr} (r : Rng H a) : ∀ kvs, H a ≠ some (.dK kvs) := fun kvs e => by
  obtain ⟨x, y, h, q⟩ := r.ex
  rw [h] at e
  cases e
theorem Rng.new {H : Hp} {a p : Addr} (r : Rng H a) (n : H p = none) : p ≠ a := fun e => by
  obtain ⟨o, h⟩ := r.there
  rw [e, h] at n
  cases n
theorem Rng.upd {H : Hp} {a p : Addr} {o : HO} (r : Rng H a) (n : p ≠ a) : Rng (upd H p o) a := by
  obtain ⟨x, y, h, q⟩ := r.ex
  exact ⟨x, y, by rw [upd_ne n.symm]; exact h, q⟩
/-- a row over these letters, its goals below n, its told names among these -/
def rowOver (paper names : List Str) (n : Int) (r : Rw) : Prop := (r.map (·.1)).Nodup ∧ ∀ e ∈ r, e.1 ∈ paper ∧ (0 ≤ e.2.1 ∧ e.2.1 < n) ∧ ∀ z, e.2.2 = some z → z ∈ names
structure okModel (cap : Nat) (paper names : List Str) (rows : List Rw) (ns : List Int) (b : Int) : Prop where
  lo : 1 ≤ rows.length
  hi : rows.length ≤ cap
  rw_ : ∀ r ∈ rows, rowOver paper names rows.length r
  nd : ns.Nodup
  len : ns.length ≤ cap
  inn : ∀ i ∈ ns, 0 ≤ i ∧ i < rows.length
  b0 : 0 ≤ b
  b1 : b < rows.length
structure ModelAt (H : Hp) (M L E : Addr) (ds : List Addr) (rows : List Rw) (ns : List Int) (b : Int) : Prop where
  h1 : H M = some (.tup [.ref L, .ref E, .int b])
  h2 : H L = some (.lst (ds.map V.ref))
  h3 : RowsAt H ds rows
  h4 : ds.Nodup
  h5 : H E = some (.lst (ns.map V.int))
theorem ModelAt.keep {H H' : Hp} {a M L E : Addr} {ds : List Addr} {rows : List Rw} {ns : List Int} {b : Int} (m : ModelAt H M L E ds rows ns b) (k : Keep a H H') (r : Rng H a) (n1 : L ≠ a) (n2 : E ≠ a) : ModelAt H' M L E ds rows ns b := by
  refine ⟨k _ _ m.h1 (fun e => r.notup _ (by rw [← e]; exact m.h1)), k _ _ m.h2 n1, m.h3.keepN k r.notup ?_, m.h4, k _ _ m.h5 n2⟩
  intro hm
  obtain ⟨kvs, e⟩ := m.h3.mem hm
  exact r.nodict _ e
/-- what a maker of models hands back -/
def spModelOut (cap : Nat) (a : Addr) (paper names : List Str) (H : Hp) (Q : VK) : Prop := ∀ (H' : Hp) (M L E : Addr) (ds : List Addr) (rows : List Rw) (ns : List Int) (b : Int), Rng H' a → Keep a H H' → H M = none → H L = none → H E = none → (∀ d ∈ ds, H d = none) →
  ModelAt H' M L E ds rows ns b → okModel cap paper names rows ns b → Q (.ref M) H'
/-- the lists of letters, told letters and marks that a maker gets -/
structure Lsts (H : Hp) (a Pa Te Ma : Addr) (paper tells marks : List Str) : Prop where
  p : H Pa = some (.lst (paper.map V.str))
  t : H Te = some (.lst (tells.map V.str))
  m : H Ma = some (.lst (marks.map V.str))
  pa : Pa ≠ a
  ta : Te ≠ a
  ma : Ma ≠ a
  nd : paper.Nodup
  lp : 3 ≤ paper.length
  lp2 : paper.length ≤ 6
  lt : 2 ≤ tells.length
  lt2 : tells.length ≤ 4
  lm : 2 ≤ marks.length
  lm2 : marks.length ≤ 6
theorem Lsts.keep {H H' : Hp} {a Pa Te Ma : Addr} {paper tells marks : List Str} (l : Lsts H a Pa Te Ma paper tells marks) (k : Keep a H H') : Lsts H' a Pa Te Ma paper tells marks :=
  ⟨k _ _ l.p l.pa, k _ _ l.t l.ta, k _ _ l.m l.ma, l.pa, l.ta, l.ma, l.nd, l.lp, l.lp2, l.lt, l.lt2, l.lm, l.lm2⟩
def spAnyFormat : Sp := fun vs H Q _ => ∃ (a Pa Te Ma : Addr) (cap : Nat) (paper tells marks : List Str), vs = [.ref a, .int cap, .ref Pa, .ref Te, .ref Ma] ∧ Rng H a ∧ 1 ≤ cap ∧ cap ≤ 12 ∧ Lsts H a Pa Te Ma paper tells marks ∧ spModelOut cap a paper (tells ++ marks) H Q
section
variable {P : Program} {w : World} {K : PySem.W.Frag} {mg : Str → Option Value} {base : Heap}
theorem scAnyFormat : FnScope ["_law_rng_here", "_law_cap", "_law_paper", "_law_tells", "_law_marks_here", "_law_many", "_law_rows", "_law_spot", "_law_line", "_law_letter", "_law_told", "_law_stops"] ["_law_rng_here", "_law_cap", "_law_paper", "_law_tells", "_law_marks_here"] (defScope sAnyFormat) := ⟨rfl, rfl, rfl, by decide +kernel, rfl, by decide +kernel, by decide +kernel⟩
theorem ok_anyformat {f fD fC : Addr} {fd fdD fdC : FuncData} (F : Fun K "_law_any_format" "_law_any_format" sAnyFormat f fd) (aD : At K mg "_law_draw" fD fdD ["_law_rng_here", "_law_many"] []) (gD : FnOk P w K mg base CX0 1 fD fdD ["_law_rng_here", "_law_many"] spDraw)
    (aC : At K mg "_law_choice" fC fdC ["_law_rng_here", "_law_some"] []) (gC : FnOk P w K mg base CX0 2 fC fdC ["_law_rng_here", "_law_some"] spChoice) (zr : mg "range" = none) :
    FnOk P w K mg base CX0 3 f fd ["_law_rng_here", "_law_cap", "_law_paper", "_law_tells", "_law_marks_here"] spAnyFormat := by
  refine F.ok scAnyFormat (fun vs H Q E h => ?_) (fun cdv A0 outer s H vs Q E hr h => ?_)
  · obtain ⟨a, Pa, Te, Ma, cap, paper, tells, marks, rfl, _⟩ := h
    rfl
  · obtain ⟨a, Pa, Te, Ma, cap, paper, tells, marks, rfl, hR, c1, c12, hl, k⟩ := h
    have hr1 : Room 1 _ := hr.mono (by decide)
    refine ⟨_, pss_cons (ps_set (i := 5) scAnyFormat.nd rfl (.inl rfl) (pe_op op_add pe_int (pe_call gD hr1 (by rfl) aD.g aD.kp aD.b .nil pass0 (pa_cons (pv 0) (pa_cons (pv 1) pa_nil)))))
      (pss_cons (ps_set (i := 6) scAnyFormat.nd rfl (.inl rfl) (pe_lst pa_nil))
      (pss_cons (ps_for PassesOwn.never rfl (pi_range1 rfl zr (pa_cons (pv 5) pa_nil)) (pg_name (i := 7) scAnyFormat.nd rfl (.inl rfl))
        (pss_cons (ps_set (i := 8) scAnyFormat.nd rfl (.inl rfl) pe_dnewK)
        (pss_cons (ps_for PassesOwn.never rfl (pi_list (pv 2)) (pg_name (i := 9) scAnyFormat.nd rfl (.inl rfl))
          (pss_one (ps_if (pt_cmpR op_gt (pe_call gD hr1 (by rfl) aD.g aD.kp aD.b .nil pass0 (pa_cons (pv 0) (pa_cons pe_int pa_nil))) pe_int (nomark _))
            (pss_cons (ps_set (i := 10) scAnyFormat.nd rfl (.inl rfl) (pe_call gC hr (by rfl) aC.g aC.kp aC.b .nil pass0 (pa_cons (pv 0) (pa_cons (pe_op op_cat (pe_op op_cat (pe_lst (pa_cons pe_non pa_nil)) (pe_op op_rep (pv 3) pe_int)) (pv 4)) pa_nil))))
            (pss_one (ps_dput (hu_of hr) (pv 8) (pv 9) (pe_tup (pa_cons (pe_call gD hr1 (by rfl) aD.g aD.kp aD.b .nil pass0 (pa_cons (pv 0) (pa_cons (pv 5) pa_nil))) (pa_cons (pv 10) pa_nil))) rfl))) pss_nil)))
        (pss_one (ps_expr (pe_bm PySem.F.plainAttrs_list PySem.F.slot_list_append PySem.F.type_list_append mt_append (pv 6) (pa_cons (pv 8) pa_nil)))))))
      (pss_cons (ps_setLc (i := 11) (own := [("_law_spot", 7)]) (g := gName 7) (tt := tTest (tOp rEq (tCall spDraw [] (fun _ _ _ => False) (tCons (tVar 0) (tCons (tC (.int 2)) tNil))) (tC (.int 0)))) (te := tVar 7) rfl scAnyFormat.nd rfl rfl (sw_true rfl rfl rfl (by decide +kernel)) (pi_range1 rfl zr (pa_cons (pv 5) pa_nil)) (blkOk_by (N := ["_law_rng_here", "_law_cap", "_law_paper", "_law_tells", "_law_marks_here", "_law_many", "_law_rows", "_law_spot", "_law_line", "_law_letter", "_law_told", "_law_stops"]) (sc := defScope sAnyFormat) (by decide +kernel))
            (fun _ _ _ _ _ => pg_name (i := 7) scAnyFormat.nd rfl (Or.inl rfl)) (fun _ _ _ _ _ => pts_one (pt_cmpR op_eq (pe_call gD hr1 (by rfl) aD.g aD.kp aD.b .nil pass0 (pa_cons (pv 0) (pa_cons pe_int pa_nil))) pe_int (nomark _))) (fun _ _ _ _ _ => pv 7))
      (pss_one (ps_ret (pe_tup (pa_cons (pv 6) (pa_cons (pv 11) (pa_cons (pe_call gD hr1 (by rfl) aD.g aD.kp aD.b .nil pass0 (pa_cons (pv 0) (pa_cons (pv 5) pa_nil))) pa_nil))))))))), ?_⟩
    -- _law_many
    refine ⟨_, rfl, _, rfl, a, cap, rfl, hR, by omega, by omega, fun d0 H1 e0 e1 r1 k1 => ⟨_, _, rfl, rfl, ?_⟩⟩
    obtain ⟨m0, rfl⟩ : ∃ m0 : Nat, d0 = (m0 : Int) := ⟨d0.toNat, by omega⟩
    have n1 : 1 ≤ 1 + m0 := by omega
    have n2 : 1 + m0 ≤ cap := by omega
    show gName 5 (V.int ((1 + m0 : Nat) : Int)) _ H1 _
    generalize 1 + m0 = n at n1 n2 ⊢
    -- _law_rows
    refine ⟨Nat.zero_le _, fun L nL => ?_⟩
    have nLa := r1.new nL
    have nL0 : H L = none := k1.free r1.there.choose_spec nL
    refine ⟨_, rfl, n, rfl, by omega, by omega, ?_⟩
    refine for_it (walk_range (lo := 0) (n := n)) (fun i σ H' => ∃ (ds : List Addr) (rows : List Rw) (v7 v8 v9 v10 : Option V), σ = [some (.ref a), some (.int cap), some (.ref Pa), some (.ref Te), some (.ref Ma), some (.int n), some (.ref L), v7, v8, v9, v10, none] ∧
        H' L = some (.lst (ds.map V.ref)) ∧ RowsAt H' ds rows ∧ ds.Nodup ∧ (∀ d ∈ ds, H d = none) ∧ rows.length = i ∧ (∀ r ∈ rows, rowOver paper (tells ++ marks) n r) ∧ Rng H' a ∧ Keep a H H')
      ⟨[], [], none, none, none, none, rfl, upd_same, .nil, List.nodup_nil, fun d h => (nomatch h), rfl, fun r h => (nomatch h), r1.upd nLa, k1.trans (Keep.of (Ext.new nL))⟩ (fun _ _ _ _ _ => trivial) ?_ ?_
    · rintro i x σ H2' H2 hi ⟨ds, rows, v7, v8, v9, v10, rfl, l2, w2, nd2, f2, li, ok2, r2, k2⟩ ⟨rfl, rfl⟩
      -- _law_line
      intro D nD
      have nDa := r2.new nD
      have nD0 : H D = none := k2.free r2.there.choose_spec nD
      have nDL : D ≠ L := fun e => by rw [e, l2] at nD; cases nD
      have lsD := hl.keep (k2.trans (Keep.of (Ext.new nD (o := .dK []))))
      refine ⟨_, rfl, Pa, rfl, ⟨_, SqL.of lsD.p⟩, ?_⟩
      refine for_it (walk_list (xs := paper.map V.str)) (fun j σ H' => ∃ (es : List (Str × Addr)) (r : Rw) (v9 v10 : Option V), σ = [some (.ref a), some (.int cap), some (.ref Pa), some (.ref Te), some (.ref Ma), some (.int n), some (.ref L), some (.int (0 + (i : Nat))), some (.ref D), v9, v10, none] ∧
          H' D = some (.dK (kvsOf es)) ∧ Ents H' es r ∧ (∀ z ∈ r.map (·.1), z ∈ paper.take j) ∧ rowOver paper (tells ++ marks) n r ∧ r.length ≤ j ∧ Rng H' a ∧ Keep a H2 H')
        ⟨[], [], v9, v10, rfl, upd_same, .nil, fun z h => (nomatch h), ⟨List.nodup_nil, fun e h => (nomatch h)⟩, Nat.le_refl _, r2.upd nDa, Keep.of (Ext.new nD)⟩ (fun j σ H' _ ⟨_, _, _, _, _, _, _, _, _, _, _, kk⟩ => SqL.of ((hl.keep (k2.trans kk)).p)) ?_ ?_
      · rintro j x σ H3' H3 hj ⟨es, r, v9, v10, rfl, d3, e3, s3, ok3, lr3, r3, k3⟩ ⟨rfl, hx⟩
        obtain ⟨z, hz, rfl⟩ := at_map hx
        have hjl : j < paper.length := (List.getElem?_eq_some_iff.mp hz).1
        have lp2 := hl.lp2
        refine ⟨_, rfl, a, 4, rfl, r3, by decide, by decide, fun d4 H4 _ _ r4 k4 => ⟨_, _, rfl, rfl, _, rfl, ?_⟩⟩
        have d4' := k4 _ _ d3 nDa
        have e4 : Ents H4 es r := e3.ext fun t xs e => k4 _ _ e (fun q => r3.notup _ (by rw [← q]; exact e))
        have kk4 := k3.trans k4
        have more : ∀ y ∈ r.map (·.1), y ∈ paper.take (j + 1) := fun y hy => by
          rw [take_more hz]
          exact List.mem_append_left _ (s3 y hy)
        refine ite2 (fun _ => ?_) (fun _ => ?_)
        · -- a move by this letter
          have ls4 := hl.keep (k2.trans kk4)
          have lt2 := hl.lt2
          have lm2 := hl.lm2
          refine ⟨_, rfl, by show 1 ≤ sizeLine; decide, fun p1 np1 => ⟨_, rfl, Te, 2, _, rfl, rfl, (Ext.new np1) _ _ ls4.t, by decide, by decide, ?_, fun p2 np2 => ?_⟩⟩
          · rw [List.length_map]
            exact small_size (by show tells.length * 2 ≤ 10000; omega)
          have b1 := (Ext.new np2 (o := .lst (List.replicate (2 : Int).toNat (tells.map V.str)).flatten)) _ _ (upd_same (H := H4) (a := p1) (o := .lst [V.non]))
          refine ⟨p1, p2, _, _, rfl, rfl, b1, upd_same, ?_, fun p3 np3 => ?_⟩
          · rw [List.length_flatten]
            refine small_size ?_
            show 1 + (List.map List.length [tells.map V.str, tells.map V.str]).sum ≤ 10000
            simp only [List.map_cons, List.map_nil, List.sum_cons, List.sum_nil, List.length_map]
            omega
          have x5 : Ext H4 (upd (upd (upd H4 p1 (.lst [V.non])) p2 (.lst (List.replicate (2 : Int).toNat (tells.map V.str)).flatten)) p3 (.lst ([V.non] ++ (List.replicate (2 : Int).toNat (tells.map V.str)).flatten))) := ((Ext.new np1).trans (Ext.new np2)).trans (Ext.new np3)
          refine ⟨_, rfl, p3, Ma, _, _, rfl, rfl, upd_same, x5 _ _ ls4.m, ?_, fun p4 np4 => ?_⟩
          · rw [List.length_map, List.length_append, List.length_flatten]
            refine small_size ?_
            show 1 + (List.map List.length [tells.map V.str, tells.map V.str]).sum + marks.length ≤ 10000
            simp only [List.map_cons, List.map_nil, List.sum_cons, List.sum_nil, List.length_map]
            omega
          have x6 := x5.trans (Ext.new np4 (o := .lst ([V.non] ++ (List.replicate (2 : Int).toNat (tells.map V.str)).flatten ++ marks.map V.str)))
          have c6 : (upd (upd (upd (upd H4 p1 (.lst [V.non])) p2 (.lst (List.replicate (2 : Int).toNat (tells.map V.str)).flatten)) p3 (.lst ([V.non] ++ (List.replicate (2 : Int).toNat (tells.map V.str)).flatten))) p4 (.lst ([V.non] ++ (List.replicate (2 : Int).toNat (tells.map V.str)).flatten ++ marks.map V.str))) p4 = some (.lst ([V.non] ++ (List.replicate (2 : Int).toNat (tells.map V.str)).flatten ++ marks.map V.str)) := upd_same
          generalize upd (upd (upd (upd H4 p1 (.lst [V.non])) p2 (.lst (List.replicate (2 : Int).toNat (tells.map V.str)).flatten)) p3 (.lst ([V.non] ++ (List.replicate (2 : Int).toNat (tells.map V.str)).flatten))) p4 (.lst ([V.non] ++ (List.replicate (2 : Int).toNat (tells.map V.str)).flatten ++ marks.map V.str)) = H6 at x6 c6 ⊢
          have r6 := r4.ext x6
          have el : ([V.non] ++ (List.replicate (2 : Int).toNat (tells.map V.str)).flatten ++ marks.map V.str) = V.non :: ((tells ++ (tells ++ marks)).map V.str) := by
            show [V.non] ++ (tells.map V.str ++ (tells.map V.str ++ [])) ++ marks.map V.str = _
            rw [List.append_nil, List.map_append, List.map_append, List.append_assoc, List.append_assoc]
            rfl
          rw [el] at c6
          refine ⟨a, p4, _, rfl, r6, c6, r6.lst c6 (fun x y e => by injection e with e1 e2; cases e1), Nat.succ_pos _, ?_, fun t told H7 ht r7 k7 => ?_⟩
          · rw [List.length_cons, List.length_map, List.length_append, List.length_append]
            omega
          obtain ⟨o, rfl, ho⟩ : ∃ o : Option Str, told = toldV o ∧ ∀ y, o = some y → y ∈ tells ++ marks := by
            cases t with
            | zero =>
              cases ht
              exact ⟨none, rfl, fun y e => by cases e⟩
            | succ t =>
              obtain ⟨y, hy, rfl⟩ := at_map (show ((tells ++ (tells ++ marks)).map V.str)[t]? = some told from ht)
              refine ⟨some y, rfl, fun y' e => ?_⟩
              cases e
              rcases List.mem_append.mp (List.mem_of_getElem? hy) with q | q
              · exact List.mem_append_left _ q
              · exact q
          -- _law_line[_law_letter] = ..
          have kk7 : Keep a H4 H7 := (Keep.of x6).trans k7
          refine ⟨_, rfl, _, rfl, a, n, rfl, r7, by omega, by omega, fun g H8 g0 g1 r8 k8 => ⟨_, rfl, by show 2 ≤ sizeLine; decide, fun T nT => ?_⟩⟩
          have kk8 : Keep a H4 (upd H8 T (.tup [.int g, toldV o])) := (kk7.trans k8).trans (Keep.of (Ext.new nT))
          have d8 := kk8 _ _ d4' nDa
          have e8 : Ents (upd H8 T (.tup [.int g, toldV o])) es r := e4.ext fun t xs e => kk8 _ _ e (fun q => r4.notup _ (by rw [← q]; exact e))
          have hT : (upd H8 T (.tup [.int g, toldV o])) T = some (.tup [.int g, toldV o]) := upd_same
          have r8' := r8.upd (o := .tup [.int g, toldV o]) (r8.new nT)
          generalize upd H8 T (.tup [.int g, toldV o]) = H9 at kk8 d8 e8 hT r8' ⊢
          have znew : z ∉ es.map (·.1) := by
            rw [e8.keys]
            intro c
            have c := s3 z c
            obtain ⟨q, hq, e⟩ := List.mem_iff_getElem.mp c
            rw [List.length_take] at hq
            rw [List.getElem_take] at e
            have e2 : paper[j]'hjl = z := (List.getElem?_eq_some_iff.mp hz).2
            have := (List.getElem_inj hl.nd).mp (e.trans e2.symm)
            omega
          have les : es.length ≤ j := by rw [e8.len]; exact lr3
          refine ⟨_, rfl, _, rfl, D, _, rfl, DPut.k (k := Sum.inr z) d8 (by unfold kvsOf; rw [List.length_map]; exact small_list (by omega)), ?_⟩
          rw [putK_new _ (val_no znew)]
          have nTD : T ≠ D := ne_of hT d8 (by intro q; cases q)
          refine ⟨es ++ [(z, T)], r ++ [(z, (g, o))], _, _, rfl, ?_, (e8.ext fun t xs e => ?_).snoc ?_, fun y hy => ?_, ⟨?_, fun e he => ?_⟩, ?_, r8'.upd nDa, fun b o' e nb => ?_⟩
          · rw [upd_same]
            unfold kvsOf
            rw [List.map_append]
            rfl
          · rw [upd_ne (ne_of e d8 (by intro q; cases q))]
            exact e
          · show upd _ D _ T = _
            rw [upd_ne nTD]
            exact hT
          · rw [List.map_append] at hy
            rcases List.mem_append.mp hy with q | q
            · exact more y q
            · have q := List.mem_singleton.mp q
              rw [take_more hz, q]
              exact List.mem_append_right _ List.mem_cons_self
          · rw [List.map_append]
            refine List.nodup_append.mpr ⟨ok3.1, by simp, fun p hp q hq e => znew ?_⟩
            have e0 : q = z := List.mem_singleton.mp hq
            rw [e8.keys, ← e0, ← e]
            exact hp
          · rcases List.mem_append.mp he with q | q
            · exact ok3.2 e q
            · rw [List.mem_singleton.mp q]
              exact ⟨List.mem_of_getElem? hz, ⟨g0, g1⟩, ho⟩
          · rw [List.length_append]
            show r.length + 1 ≤ j + 1
            omega
          · rw [upd_ne (ne_of_none e nD)]
            exact kk8 _ _ (kk4 b o' e nb) nb
        · exact ⟨es, r, _, _, rfl, d4', e4, more, ok3, by omega, r4, kk4⟩
      · rintro σ H3 ⟨es, r, v9', v10', rfl, d3, e3, s3, ok3, lr3, r3, k3⟩
        have l3 := k3 _ _ l2 nLa
        have lds : ds.length = i := by rw [w2.len, li]
        refine ⟨_, rfl, .inl ⟨rfl, _, SqL.of l3⟩, _, rfl, L, _, _, rfl, rfl, l3, by rw [List.length_map]; exact small_list (by omega), ?_⟩
        have w3 : RowsAt H3 ds rows := w2.keepN k3 r2.notup fun hm => by
          obtain ⟨kvs, e⟩ := w2.mem hm
          exact r2.nodict _ e
        refine ⟨ds ++ [D], rows ++ [r], _, _, _, _, rfl, ?_, RowsAt.snoc ?_ (w3.keepN Keep.at_ (fun xs e => by rw [l3] at e; cases e) fun hm => ?_), ?_, fun d hd => ?_, by rw [List.length_append, li]; rfl, fun r' hr' => ?_, r3.upd nLa, fun b o e nb => ?_⟩
        · rw [upd_same, List.map_append]
          rfl
        · refine RowAt.same ⟨es, d3, e3⟩ (upd_ne nDL) fun t xs e => ?_
          rw [upd_ne (ne_of e l3 (by intro q; cases q))]
          exact e
        · obtain ⟨kvs, e⟩ := w3.mem hm
          rw [l3] at e
          cases e
        · refine List.nodup_append.mpr ⟨nd2, by simp, fun p hp q hq e => ?_⟩
          obtain ⟨kvs, e'⟩ := w2.mem hp
          rw [e, List.mem_singleton.mp hq, nD] at e'
          cases e'
        · rcases List.mem_append.mp hd with q | q
          · exact f2 d q
          · rw [List.mem_singleton.mp q]
            exact nD0
        · rcases List.mem_append.mp hr' with q | q
          · exact ok2 r' q
          · rw [List.mem_singleton.mp q]
            exact ok3
        · rw [upd_ne (ne_of_none e nL0)]
          exact k3 _ _ (k2 b o e nb) nb
    rintro σ H2 ⟨ds, rows, v7, v8, v9, v10, rfl, l2, w2, nd2, f2, li, ok2, r2, k2⟩
    -- _law_stops
    refine ⟨_, rfl, n, rfl, by omega, by omega, fun En nE => ?_⟩
    have nEa := r2.new nE
    have nE0 : H En = none := k2.free r2.there.choose_spec nE
    refine lc_range (n := n) (fun i H' => ∃ ns : List Int, H' En = some (.lst (ns.map V.int)) ∧ ns.Nodup ∧ ns.length ≤ i ∧ (∀ q ∈ ns, 0 ≤ q ∧ q < i) ∧ Rng H' a ∧ Keep a H2 H') ⟨[], upd_same, List.nodup_nil, Nat.le_refl _, fun q h => (nomatch h), r2.upd nEa, Keep.of (Ext.new nE)⟩ ?_ ?_
    · rintro i H3 hi ⟨ns, d3, nd3, l3, in3, r3, k3⟩
      refine ⟨rfl, _, rfl, a, 2, rfl, r3, by decide, by decide, fun d4 H4 _ _ r4 k4 => ⟨rfl, _, rfl, ?_⟩⟩
      have d4' := k4 _ _ d3 nEa
      have kk4 := k3.trans k4
      refine ite2 (fun _ => ?_) (fun _ => ?_)
      · refine ⟨_, rfl, _, d4', by rw [List.length_map]; exact small_list (by omega), ns ++ [(0 + (i : Nat) : Int)], by rw [upd_same, List.map_append]; rfl, ?_, by rw [List.length_append]; show ns.length + 1 ≤ i + 1; omega, fun q hq => ?_, r4.upd nEa, fun b o e nb => ?_⟩
        · refine List.nodup_append.mpr ⟨nd3, by simp, fun p hp q hq e => ?_⟩
          have := in3 p hp
          rw [e, List.mem_singleton.mp hq] at this
          omega
        · rcases List.mem_append.mp hq with c | c
          · have := in3 q c
            omega
          · rw [List.mem_singleton.mp c]
            omega
        · rw [upd_ne (ne_of_none e nE)]
          exact kk4 b o e nb
      · exact ⟨ns, d4', nd3, by omega, fun q hq => by have := in3 q hq; omega, r4, kk4⟩
    · rintro H3 ⟨ns, d3, nd3, l3, in3, r3, k3⟩
      have m3 := k3 _ _ l2 nLa
      refine ⟨_, rfl, _, rfl, _, rfl, _, rfl, a, n, rfl, r3, by omega, by omega, fun g H4 g0 g1 r4 k4 => ⟨by show 3 ≤ sizeLine; decide, fun M nM => ?_⟩⟩
      have kk : Keep a H2 (upd H4 M (.tup [.ref L, .ref En, .int g])) := (k3.trans k4).trans (Keep.of (Ext.new nM))
      have kE : Keep a H3 (upd H4 M (.tup [.ref L, .ref En, .int g])) := k4.trans (Keep.of (Ext.new nM))
      have w4 : RowsAt (upd H4 M (.tup [.ref L, .ref En, .int g])) ds rows := w2.keepN kk r2.notup fun hm => by
        obtain ⟨kvs, e⟩ := w2.mem hm
        exact r2.nodict _ e
      refine k _ M L En ds rows ns g (r4.upd (r4.new nM)) (k2.trans kk) ((k2.trans (k3.trans k4)).free r4.there.choose_spec nM) nL0 nE0 f2 ⟨upd_same, kk _ _ l2 nLa, w4, nd2, kE _ _ d3 nEa⟩ ⟨by omega, by omega, fun r hr => by rw [li]; exact ok2 r hr, nd3, by omega, fun q hq => by have := in3 q hq; omega, g0, by omega⟩
end
end Sl
/-! ## P18 -/
set_option Elab.async false
set_option linter.all false
set_option maxRecDepth 100000
set_option maxHeartbeats 4000000
namespace Sl
open PySem PySem.Spec PyProof.Rows L2 TxS
abbrev sFamily : Stmt := top 39
theorem cut_take {xs : List V} {k : Nat} (h : k ≤ xs.length) : cutV xs none (some (k : Int)) = xs.take k := by
  have e0 : HT.sIx xs.length 0 (none : Option Int) = 0 := rfl
  have e1 : HT.sIx xs.length xs.length (some (k : Int)) = min k xs.length := HT.sIx_nat _ _ _
  unfold cutV
  rw [e0, e1, List.drop_zero, Nat.sub_zero, Nat.min_eq_left h]
/-- a written entry of a row: its key, its tuple -/
def EntOk (σ : L2.St) (t : TE × TE) (e : Str × Mv) : Prop := (∀ H (Q : VK), Q (.str e.1) H → t.1 σ H Q) ∧ (∀ H (Q : VK), (∀ p, H p = none → Q (.ref p) (upd H p (.tup [.int e.2.1, toldV e.2.2]))) → t.2 σ H Q)
inductive EntsOk (σ : L2.St) : List (TE × TE) → Rw → Prop
  | nil : EntsOk σ [] []
  | cons {t : TE × TE} {e : Str × Mv} {ts : List (TE × TE)} {r : Rw} : EntOk σ t e → EntsOk σ ts r → EntsOk σ (t :: ts) (e :: r)
theorem pairs_read {σ : L2.St} : ∀ {trs : List (TE × TE)} {r : Rw}, EntsOk σ trs r → ∀ (H : Hp) (Q : List (V × V) → Hp → Prop), (∀ (H' : Hp) (es : List (Str × Addr)), Ext H H' → Ents H' es r → Q (es.map fun e => (.str e.1, .ref e.2)) H') → tPairs trs σ H Q
  | _, _, .nil, H, Q, q => q H [] (Ext.refl H) .nil
  | _, _, .cons (e := e) h hs, H, Q, q => by
    refine h.1 H _ (h.2 H _ fun p np => pairs_read hs _ _ fun H' es x he => ?_)
    refine q H' ((e.1, p) :: es) ((Ext.new np).trans x) (.cons (x _ _ upd_same) he)
theorem merge_new : ∀ {es : List (Str × Addr)} {acc : List (Key × V)}, (es.map (·.1)).Nodup → (∀ z ∈ es.map (·.1), valV acc (Sum.inr z : Key) = none) → mergeK acc (kvsOf es) = acc ++ kvsOf es
  | [], acc, _, _ => (List.append_nil acc).symm
  | e :: es, acc, nd, h => by
    obtain ⟨n1, n2⟩ := List.nodup_cons.mp nd
    show mergeK (putK acc (Sum.inr e.1) (.ref e.2)) (kvsOf es) = acc ++ ((Sum.inr e.1, V.ref e.2) :: kvsOf es)
    have ha := h e.1 List.mem_cons_self
    rw [putK_new _ ha, merge_new n2 fun z hz => ?_, List.append_assoc]
    · rfl
    · rw [valV_snoc _ _ _ _ ha]
      have ne : ¬ (Sum.inr z : Key) = Sum.inr e.1 := fun k => n1 (by injection k with k; show e.1 ∈ _; rw [← k]; exact hz)
      rw [if_neg ne]
      exact h z (List.mem_cons_of_mem _ hz)
/-- a written dict of moves -/
theorem disp_row {σ : L2.St} {trs : List (TE × TE)} {r : Rw} (h : EntsOk σ trs r) (nd : (r.map (·.1)).Nodup) (h15 : r.length ≤ 15) (H : Hp) (Q : VK) (q : ∀ (H' : Hp) (d : Addr), Ext H H' → H d = none → RowAt H' d r → Q (.ref d) H') : tDisp trs σ H Q := by
  intro d nd0
  refine pairs_read h _ _ fun H' es x he => ⟨x _ _ upd_same, kvsOf es, ?_, ?_, ?_⟩
  · unfold kvsOf
    rw [List.map_map]
    rfl
  · unfold kvsOf
    rw [List.length_map, he.len]
    exact h15
  have e : mergeK [] (kvsOf es) = kvsOf es := by
    rw [merge_new (by rw [he.keys]; exact nd) fun z _ => rfl]
    rfl
  rw [e]
  have hd := x _ _ upd_same
  refine q _ d (fun b o eb => ?_) nd0 ⟨es, upd_same, he.ext fun t xs et => ?_⟩
  · rw [upd_ne (ne_of_none eb nd0)]
    exact x _ _ ((Ext.new nd0) _ _ eb)
  · rw [upd_ne (ne_of et hd (by intro z; cases z))]
    exact et
theorem ent_told {σ : L2.St} {i j : Nat} {z y : Str} {g : Int} (hi : σ[i]? = some (some (.str z))) (hj : σ[j]? = some (some (.str y))) : EntOk σ (tVar i, tTup (tCons (tC (.int g)) (tCons (tVar j) tNil))) (z, (g, some y)) :=
  ⟨fun H Q q => ⟨_, hi, q⟩, fun H Q q => ⟨_, hj, by show 2 ≤ sizeLine; decide, fun p np => q p np⟩⟩
theorem ent_none {σ : L2.St} {i : Nat} {z : Str} {g : Int} (hi : σ[i]? = some (some (.str z))) : EntOk σ (tVar i, tTup (tCons (tC (.int g)) (tCons (tC .non) tNil))) (z, (g, none)) :=
  ⟨fun H Q q => ⟨_, hi, q⟩, fun H Q q => ⟨by show 2 ≤ sizeLine; decide, fun p np => q p np⟩⟩
theorem rowOver_nil {paper names : List Str} {n : Int} : rowOver paper names n [] := ⟨List.nodup_nil, fun e h => (nomatch h)⟩
theorem rowOver_cons {paper names : List Str} {n : Int} {z : Str} {g : Int} {o : Option Str} {r : Rw} (h1 : z ∉ r.map (·.1)) (h2 : z ∈ paper) (h3 : 0 ≤ g ∧ g < n) (h4 : ∀ y, o = some y → y ∈ names) (h : rowOver paper names n r) : rowOver paper names n ((z, (g, o)) :: r) :=
  ⟨List.nodup_cons.mpr ⟨h1, h.1⟩, fun e he => (List.mem_cons.mp he).elim (fun k => by rw [k]; exact ⟨h2, h3, h4⟩) (h.2 e)⟩
def spFamily : Sp := fun vs H Q _ => ∃ (a Pa Te Ma : Addr) (way : Nat) (paper tells marks : List Str), vs = [.int way, .ref Pa, .ref Te, .ref Ma] ∧ Rng H a ∧ Lsts H a Pa Te Ma paper tells marks ∧ (∀ (H' : Hp) (M L E : Addr) (ds : List Addr) (rows : List Rw) (ns : List Int) (b : Int), Ext H H' → H M = none → H L = none → H E = none → (∀ d ∈ ds, H d = none) →
  ModelAt H' M L E ds rows ns b → okModel 5 paper (tells ++ marks) rows ns b → Q (.ref M) H')
theorem RowAt.ext {H H' : Hp} {d : Addr} {r : Rw} (x : Ext H H') (h : RowAt H d r) : RowAt H' d r := by
  obtain ⟨es, a, b⟩ := h
  exact ⟨es, x _ _ a, b.ext fun t xs e => x _ _ e⟩
/-- an expression that makes a new dict of moves -/
def DictOk (σ : L2.St) (te : TE) (r : Rw) : Prop := ∀ (H : Hp) (Q : VK), (∀ (H' : Hp) (d : Addr), Ext H H' → H d = none → RowAt H' d r → Q (.ref d) H') → te σ H Q
theorem dict_new (σ : L2.St) : DictOk σ tDNewK [] := fun H Q q d nd => q _ d (Ext.new nd) nd ⟨[], upd_same, .nil⟩
theorem dict_disp {σ : L2.St} {trs : List (TE × TE)} {r : Rw} (h : EntsOk σ trs r) (nd : (r.map (·.1)).Nodup) (h15 : r.length ≤ 15) : DictOk σ (tDisp trs) r := fun H Q q => disp_row h nd h15 H Q q
inductive DictsOk (σ : L2.St) : List TE → List Rw → Prop
  | nil : DictsOk σ [] []
  | cons {t : TE} {r : Rw} {ts : List TE} {rs : List Rw} : DictOk σ t r → DictsOk σ ts rs → DictsOk σ (t :: ts) (r :: rs)
def chainT : List TE → TA
  | [] => tNil
  | t :: ts => tCons t (chainT ts)
theorem rows_read {σ : L2.St} : ∀ {ts : List TE} {rows : List Rw}, DictsOk σ ts rows → ∀ (H : Hp) (Q : List V → Hp → Prop), (∀ (H' : Hp) (ds : List Addr), Ext H H' → (∀ d ∈ ds, H d = none) → ds.Nodup → RowsAt H' ds rows → Q (ds.map V.ref) H') → chainT ts σ H Q
  | _, _, .nil, H, Q, q => q H [] (Ext.refl H) (fun d h => nomatch h) List.nodup_nil .nil
  | _, _, .cons h hs, H, Q, q => h H _ fun H1 d x1 n1 r1 => rows_read hs H1 _ fun H2 ds x2 f2 nd2 w2 => by
    refine q H2 (d :: ds) (x1.trans x2) (fun e he => (List.mem_cons.mp he).elim (fun k => by rw [k]; exact n1) fun k => x1.free (f2 e k)) (List.nodup_cons.mpr ⟨fun m => ?_, nd2⟩) (.cons (r1.ext x2) w2)
    obtain ⟨es, a, _⟩ := r1
    rw [f2 d m] at a
    cases a
theorem fam_end {H Hx : Hp} {Q : VK} {ds : List Addr} {rows : List Rw} {ns : List Int} {b : Int} {L En M : Addr} {paper names : List Str} (x : Ext H Hx) (w : RowsAt Hx ds rows) (nd : ds.Nodup) (fr : ∀ d ∈ ds, H d = none) (nL : Hx L = none) (nE : upd Hx L (.lst (ds.map V.ref)) En = none)
    (nM : upd (upd Hx L (.lst (ds.map V.ref))) En (.lst (ns.map V.int)) M = none) (ok : okModel 5 paper names rows ns b)
    (k : ∀ (H' : Hp) (M L E : Addr) (ds : List Addr) (rows : List Rw) (ns : List Int) (b : Int), Ext H H' → H M = none → H L = none → H E = none → (∀ d ∈ ds, H d = none) → ModelAt H' M L E ds rows ns b → okModel 5 paper names rows ns b → Q (.ref M) H') :
    Q (.ref M) (upd (upd (upd Hx L (.lst (ds.map V.ref))) En (.lst (ns.map V.int))) M (.tup [.ref L, .ref En, .int b])) := by
  have x1 : Ext Hx (upd Hx L (.lst (ds.map V.ref))) := Ext.new nL
  have x2 := x1.trans (Ext.new nE (o := .lst (ns.map V.int)))
  have x3 := x2.trans (Ext.new nM (o := .tup [.ref L, .ref En, .int b]))
  refine k _ M L En ds rows ns b (x.trans x3) ((x.trans x2).free nM) (x.free nL) ((x.trans x1).free nE) fr ⟨upd_same, ?_, w.ext x3, nd, ?_⟩ ok
  · exact ((Ext.new nE).trans (Ext.new nM)) _ _ upd_same
  · exact (Ext.new nM) _ _ upd_same
section
variable {P : Program} {w : World} {K : PySem.W.Frag} {mg : Str → Option Value} {base : Heap}
theorem scFamily : FnScope ["_law_way", "_law_paper", "_law_tells", "_law_marks_here", "_law_p", "_law_q", "_law_r", "_law_a", "_law_b", "_law_m", "_law_n", "_law_core"] ["_law_way", "_law_paper", "_law_tells", "_law_marks_here"] (defScope sFamily) := ⟨rfl, rfl, rfl, by decide +kernel, rfl, by decide +kernel, by decide +kernel⟩
theorem ok_family {f : Addr} {fd : FuncData} (F : Fun K "_law_family" "_law_family" sFamily f fd) : FnOk P w K mg base CX0 1 f fd ["_law_way", "_law_paper", "_law_tells", "_law_marks_here"] spFamily := by
  refine F.ok scFamily (fun vs H Q E h => ?_) (fun cdv A0 outer s H vs Q E hr h => ?_)
  · obtain ⟨a, Pa, Te, Ma, way, paper, tells, marks, rfl, _⟩ := h
    rfl
  · obtain ⟨a, Pa, Te, Ma, way, paper, tells, marks, rfl, hR, hl, k⟩ := h
    refine ⟨_, pss_cons (ps_asg (pe_slice sl_list (pv 1) po_none (po_some pe_int)) (pg_unl rfl (pgs_cons (pg_name (i := 4) scFamily.nd rfl (.inl rfl)) (pgs_cons (pg_name (i := 5) scFamily.nd rfl (.inl rfl)) (pgs_cons (pg_name (i := 6) scFamily.nd rfl (.inl rfl)) pgs_nil)))))
      (pss_cons (ps_asg (pe_slice sl_list (pv 2) po_none (po_some pe_int)) (pg_unl rfl (pgs_cons (pg_name (i := 7) scFamily.nd rfl (.inl rfl)) (pgs_cons (pg_name (i := 8) scFamily.nd rfl (.inl rfl)) pgs_nil))))
      (pss_cons (ps_asg (pe_slice sl_list (pv 3) po_none (po_some pe_int)) (pg_unl rfl (pgs_cons (pg_name (i := 9) scFamily.nd rfl (.inl rfl)) (pgs_cons (pg_name (i := 10) scFamily.nd rfl (.inl rfl)) pgs_nil))))
      (pss_cons (ps_if (pt_cmpR op_eq (pv 0) pe_int (nomark _)) (pss_cons (ps_set (i := 11) scFamily.nd rfl (.inl rfl) (pe_disp (pps_cons (pv 4) (pe_tup (pa_cons pe_int (pa_cons (pv 7) pa_nil))) (pps_cons (pv 5) (pe_tup (pa_cons pe_int (pa_cons (pv 10) pa_nil))) (pps_cons (pv 6) (pe_tup (pa_cons pe_int (pa_cons pe_non pa_nil))) pps_nil))) (by rfl) (by rfl) (fun z => by cases z) (by decide))) (pss_one (ps_ret (pe_tup (pa_cons (pe_lst (pa_cons (pe_disp (pps_cons (pv 5) (pe_tup (pa_cons pe_int (pa_cons (pv 9) pa_nil))) pps_nil) (by rfl) (by rfl) (fun z => by cases z) (by decide)) (pa_cons (pv 11) (pa_cons pe_dnewK (pa_cons (pe_disp (pps_cons (pv 5) (pe_tup (pa_cons pe_int (pa_cons (pv 8) pa_nil))) (pps_cons (pv 6) (pe_tup (pa_cons pe_int (pa_cons (pv 7) pa_nil))) pps_nil)) (by rfl) (by rfl) (fun z => by cases z) (by decide)) pa_nil))))) (pa_cons (pe_lst (pa_cons pe_int pa_nil)) (pa_cons pe_int pa_nil))))))) pss_nil)
      (pss_cons (ps_if (pt_cmpR op_eq (pv 0) pe_int (nomark _)) (pss_one (ps_ret (pe_tup (pa_cons (pe_lst (pa_cons (pe_disp (pps_cons (pv 5) (pe_tup (pa_cons pe_int (pa_cons (pv 9) pa_nil))) pps_nil) (by rfl) (by rfl) (fun z => by cases z) (by decide)) (pa_cons (pe_disp (pps_cons (pv 4) (pe_tup (pa_cons pe_int (pa_cons (pv 7) pa_nil))) (pps_cons (pv 5) (pe_tup (pa_cons pe_int (pa_cons pe_non pa_nil))) pps_nil)) (by rfl) (by rfl) (fun z => by cases z) (by decide)) (pa_cons (pe_disp (pps_cons (pv 5) (pe_tup (pa_cons pe_int (pa_cons (pv 8) pa_nil))) (pps_cons (pv 6) (pe_tup (pa_cons pe_int (pa_cons (pv 10) pa_nil))) pps_nil)) (by rfl) (by rfl) (fun z => by cases z) (by decide)) (pa_cons pe_dnewK pa_nil))))) (pa_cons (pe_lst (pa_cons pe_int pa_nil)) (pa_cons pe_int pa_nil)))))) pss_nil)
      (pss_cons (ps_if (pt_cmpR op_eq (pv 0) pe_int (nomark _)) (pss_one (ps_ret (pe_tup (pa_cons (pe_lst (pa_cons (pe_disp (pps_cons (pv 4) (pe_tup (pa_cons pe_int (pa_cons (pv 7) pa_nil))) (pps_cons (pv 5) (pe_tup (pa_cons pe_int (pa_cons (pv 7) pa_nil))) (pps_cons (pv 6) (pe_tup (pa_cons pe_int (pa_cons (pv 9) pa_nil))) pps_nil))) (by rfl) (by rfl) (fun z => by cases z) (by decide)) (pa_cons (pe_disp (pps_cons (pv 6) (pe_tup (pa_cons pe_int (pa_cons (pv 9) pa_nil))) pps_nil) (by rfl) (by rfl) (fun z => by cases z) (by decide)) (pa_cons (pe_disp (pps_cons (pv 4) (pe_tup (pa_cons pe_int (pa_cons (pv 8) pa_nil))) (pps_cons (pv 5) (pe_tup (pa_cons pe_int (pa_cons (pv 8) pa_nil))) (pps_cons (pv 6) (pe_tup (pa_cons pe_int (pa_cons (pv 10) pa_nil))) pps_nil))) (by rfl) (by rfl) (fun z => by cases z) (by decide)) (pa_cons pe_dnewK pa_nil))))) (pa_cons (pe_lst (pa_cons pe_int (pa_cons pe_int pa_nil))) (pa_cons pe_int pa_nil)))))) pss_nil)
      (pss_cons (ps_if (pt_cmpR op_eq (pv 0) pe_int (nomark _)) (pss_one (ps_ret (pe_tup (pa_cons (pe_lst (pa_cons (pe_disp (pps_cons (pv 4) (pe_tup (pa_cons pe_int (pa_cons (pv 7) pa_nil))) (pps_cons (pv 5) (pe_tup (pa_cons pe_int (pa_cons (pv 7) pa_nil))) pps_nil)) (by rfl) (by rfl) (fun z => by cases z) (by decide)) (pa_cons (pe_disp (pps_cons (pv 4) (pe_tup (pa_cons pe_int (pa_cons (pv 7) pa_nil))) (pps_cons (pv 6) (pe_tup (pa_cons pe_int (pa_cons (pv 9) pa_nil))) pps_nil)) (by rfl) (by rfl) (fun z => by cases z) (by decide)) (pa_cons (pe_disp (pps_cons (pv 4) (pe_tup (pa_cons pe_int (pa_cons (pv 7) pa_nil))) (pps_cons (pv 5) (pe_tup (pa_cons pe_int (pa_cons (pv 8) pa_nil))) pps_nil)) (by rfl) (by rfl) (fun z => by cases z) (by decide)) pa_nil)))) (pa_cons (pe_lst (pa_cons pe_int (pa_cons pe_int pa_nil))) (pa_cons pe_int pa_nil)))))) pss_nil)
      (pss_one (ps_ret (pe_tup (pa_cons (pe_lst (pa_cons (pe_disp (pps_cons (pv 4) (pe_tup (pa_cons pe_int (pa_cons pe_non pa_nil))) (pps_cons (pv 5) (pe_tup (pa_cons pe_int (pa_cons (pv 9) pa_nil))) pps_nil)) (by rfl) (by rfl) (fun z => by cases z) (by decide)) (pa_cons (pe_disp (pps_cons (pv 4) (pe_tup (pa_cons pe_int (pa_cons (pv 7) pa_nil))) (pps_cons (pv 5) (pe_tup (pa_cons pe_int (pa_cons (pv 8) pa_nil))) pps_nil)) (by rfl) (by rfl) (fun z => by cases z) (by decide)) (pa_cons (pe_disp (pps_cons (pv 4) (pe_tup (pa_cons pe_int (pa_cons pe_non pa_nil))) (pps_cons (pv 6) (pe_tup (pa_cons pe_int (pa_cons (pv 10) pa_nil))) pps_nil)) (by rfl) (by rfl) (fun z => by cases z) (by decide)) pa_nil)))) (pa_cons (pe_lst (pa_cons pe_int (pa_cons pe_int pa_nil))) (pa_cons pe_int pa_nil)))))))))))), ?_⟩
    obtain ⟨p, q, r, rest, rfl⟩ : ∃ p q r rest, paper = p :: q :: r :: rest := by
      have := hl.lp
      match paper, this with
      | p :: q :: r :: rest, _ => exact ⟨p, q, r, rest, rfl⟩
    obtain ⟨ta, tb, trest, rfl⟩ : ∃ p q rest, tells = p :: q :: rest := by
      have := hl.lt
      match tells, this with
      | p :: q :: rest, _ => exact ⟨p, q, rest, rfl⟩
    obtain ⟨ma, mb, mrest, rfl⟩ : ∃ p q rest, marks = p :: q :: rest := by
      have := hl.lm
      match marks, this with
      | p :: q :: rest, _ => exact ⟨p, q, rest, rfl⟩
    have nd := hl.nd
    obtain ⟨nd1, nd2⟩ := List.nodup_cons.mp nd
    obtain ⟨nd3, nd4⟩ := List.nodup_cons.mp nd2
    have npq : ¬ p = q := fun e => nd1 (by rw [e]; exact List.mem_cons_self)
    have npr : ¬ p = r := fun e => nd1 (by rw [e]; exact List.mem_cons_of_mem _ List.mem_cons_self)
    have nqr : ¬ q = r := fun e => nd3 (by rw [e]; exact List.mem_cons_self)
    have ip : p ∈ p :: q :: r :: rest := List.mem_cons_self
    have iq : q ∈ p :: q :: r :: rest := List.mem_cons_of_mem _ List.mem_cons_self
    have ir : r ∈ p :: q :: r :: rest := List.mem_cons_of_mem _ (List.mem_cons_of_mem _ List.mem_cons_self)
    have ia : ta ∈ (ta :: tb :: trest) ++ (ma :: mb :: mrest) := List.mem_append_left _ List.mem_cons_self
    have ib : tb ∈ (ta :: tb :: trest) ++ (ma :: mb :: mrest) := List.mem_append_left _ (List.mem_cons_of_mem _ List.mem_cons_self)
    have im : ma ∈ (ta :: tb :: trest) ++ (ma :: mb :: mrest) := List.mem_append_right _ List.mem_cons_self
    have i_n : mb ∈ (ta :: tb :: trest) ++ (ma :: mb :: mrest) := List.mem_append_right _ (List.mem_cons_of_mem _ List.mem_cons_self)
    -- the three unpackings
    refine ⟨_, rfl, _, rfl, Pa, _, rfl, SqL.of hl.p, fun p1 np1 => ?_⟩
    have c1 : cutV ((p :: q :: r :: rest).map V.str) none (some ((3 : Nat) : Int)) = [.str p, .str q, .str r] := cut_take (by rw [List.length_map]; exact hl.lp)
    refine ⟨p1, [.str p, .str q, .str r], rfl, SqL.of (by rw [upd_same, ← c1]; rfl), rfl, _, _, rfl, _, _, rfl, _, _, rfl, rfl, ?_⟩
    have x1 : Ext H (upd H p1 (.lst (cutV ((p :: q :: r :: rest).map V.str) none (some ((3 : Nat) : Int))))) := Ext.new np1
    refine ⟨_, rfl, _, rfl, Te, _, rfl, SqL.of (x1 _ _ hl.t), fun p2 np2 => ?_⟩
    have c2 : cutV ((ta :: tb :: trest).map V.str) none (some ((2 : Nat) : Int)) = [.str ta, .str tb] := cut_take (by rw [List.length_map]; exact hl.lt)
    refine ⟨p2, [.str ta, .str tb], rfl, SqL.of (by rw [upd_same, ← c2]; rfl), rfl, _, _, rfl, _, _, rfl, rfl, ?_⟩
    have x2 := x1.trans (Ext.new np2 (o := .lst (cutV ((ta :: tb :: trest).map V.str) none (some ((2 : Nat) : Int)))))
    refine ⟨_, rfl, _, rfl, Ma, _, rfl, SqL.of (x2 _ _ hl.m), fun p3 np3 => ?_⟩
    have c3 : cutV ((ma :: mb :: mrest).map V.str) none (some ((2 : Nat) : Int)) = [.str ma, .str mb] := cut_take (by rw [List.length_map]; exact hl.lm)
    refine ⟨p3, [.str ma, .str mb], rfl, SqL.of (by rw [upd_same, ← c3]; rfl), rfl, _, _, rfl, _, _, rfl, rfl, ?_⟩
    have x3 := x2.trans (Ext.new np3 (o := .lst (cutV ((ma :: mb :: mrest).map V.str) none (some ((2 : Nat) : Int)))))
    refine ⟨_, rfl, rfl, _, rfl, ?_⟩
    refine ite2 (fun _ => ?_) (fun _ => ?_)
    · try dsimp only [tNext, tSeq, tAsg, gName, tRet, tTup, tLst, tCons, tNil]
      refine disp_row (r := [(p, ((1 : Int), some ta)), (q, ((2 : Int), some mb)), (r, ((3 : Int), none))]) (by refine .cons ?_ (.cons ?_ (.cons ?_ .nil)) <;> first | exact ent_none rfl | exact ent_told rfl rfl) (by simp [npq, npr, nqr]) (by show 3 ≤ 15; decide) _ _ fun G1 d0 y0 n0 r0 => ?_
      try dsimp only [tNext, tSeq, tAsg, gName, tRet, tTup, tLst, tCons, tNil]
      refine disp_row (r := [(q, ((1 : Int), some ma))]) (by refine .cons ?_ .nil <;> first | exact ent_none rfl | exact ent_told rfl rfl) (by simp [npq, npr, nqr]) (by show 1 ≤ 15; decide) _ _ fun G2 d1 y1 n1 r1 => ?_
      refine ⟨_, rfl, ?_⟩
      refine fun d2 n2 => ?_
      have y2 := Ext.new n2 (o := .dK [])
      have r2 : RowAt (upd G2 d2 (.dK [])) d2 [] := ⟨[], upd_same, .nil⟩
      try dsimp only [tNext, tSeq, tAsg, gName, tRet, tTup, tLst, tCons, tNil]
      refine disp_row (r := [(q, ((1 : Int), some tb)), (r, ((1 : Int), some ta))]) (by refine .cons ?_ (.cons ?_ .nil) <;> first | exact ent_none rfl | exact ent_told rfl rfl) (by simp [npq, npr, nqr]) (by show 2 ≤ 15; decide) _ _ fun G4 d3 y3 n3 r3 => ?_
      refine ⟨by show 4 ≤ sizeLine; decide, fun L nL => ⟨by show 1 ≤ sizeLine; decide, fun En nE => ⟨by show 3 ≤ sizeLine; decide, fun M nM => ?_⟩⟩⟩
      obtain ⟨_, k0, _⟩ := id r0
      obtain ⟨_, k1, _⟩ := id r1
      obtain ⟨_, k2, _⟩ := id r2
      obtain ⟨_, k3, _⟩ := id r3
      have a01 : ¬ d0 = d1 := fun e => by rw [← e, k0] at n1; cases n1
      have a02 : ¬ d0 = d2 := fun e => by rw [← e, y1 _ _ k0] at n2; cases n2
      have a12 : ¬ d1 = d2 := fun e => by rw [← e, k1] at n2; cases n2
      have a03 : ¬ d0 = d3 := fun e => by rw [← e, (y1.trans y2) _ _ k0] at n3; cases n3
      have a13 : ¬ d1 = d3 := fun e => by rw [← e, y2 _ _ k1] at n3; cases n3
      have a23 : ¬ d2 = d3 := fun e => by rw [← e, k2] at n3; cases n3
      refine fam_end (ds := [d1, d0, d2, d3]) (rows := [[(q, ((1 : Int), some ma))], [(p, ((1 : Int), some ta)), (q, ((2 : Int), some mb)), (r, ((3 : Int), none))], [], [(q, ((1 : Int), some tb)), (r, ((1 : Int), some ta))]]) (ns := [2]) (b := 0) (x3.trans (((y0.trans y1).trans y2).trans y3)) (.cons (r1.ext (y2.trans y3)) (.cons (r0.ext ((y1.trans y2).trans y3)) (.cons (r2.ext y3) (.cons r3 .nil)))) (by simp [a01, (show ¬ d1 = d0 from fun e => a01 e.symm), a02, (show ¬ d2 = d0 from fun e => a02 e.symm), a12, (show ¬ d2 = d1 from fun e => a12 e.symm), a03, (show ¬ d3 = d0 from fun e => a03 e.symm), a13, (show ¬ d3 = d1 from fun e => a13 e.symm), a23, (show ¬ d3 = d2 from fun e => a23 e.symm)]) (fun d hd => ?_) nL nE nM ⟨by show 1 ≤ 4; decide, by show 4 ≤ 5; decide, (fun r hr => by
        simp only [List.mem_cons, List.not_mem_nil, or_false] at hr
        rcases hr with rfl | rfl | rfl | rfl
        · exact (rowOver_cons (fun h => nomatch h) iq ⟨by decide, by show (1 : Int) < 4; decide⟩ (fun y e => by cases e; exact im) rowOver_nil)
        · exact (rowOver_cons (fun h => (List.mem_cons.mp h).elim npq fun h => npr (List.mem_singleton.mp h)) ip ⟨by decide, by show (1 : Int) < 4; decide⟩ (fun y e => by cases e; exact ia) (rowOver_cons (fun h => nqr (List.mem_singleton.mp h)) iq ⟨by decide, by show (2 : Int) < 4; decide⟩ (fun y e => by cases e; exact i_n) (rowOver_cons (fun h => nomatch h) ir ⟨by decide, by show (3 : Int) < 4; decide⟩ (fun y e => by cases e) rowOver_nil)))
        · exact rowOver_nil
        · exact (rowOver_cons (fun h => nqr (List.mem_singleton.mp h)) iq ⟨by decide, by show (1 : Int) < 4; decide⟩ (fun y e => by cases e; exact ib) (rowOver_cons (fun h => nomatch h) ir ⟨by decide, by show (1 : Int) < 4; decide⟩ (fun y e => by cases e; exact ia) rowOver_nil))), by decide, by show 1 ≤ 5; decide, (by show ∀ i ∈ ([2] : List Int), 0 ≤ i ∧ i < 4; decide), by decide, by show (0 : Int) < 4; decide⟩ k
      simp only [List.mem_cons, List.not_mem_nil, or_false] at hd
      rcases hd with rfl | rfl | rfl | rfl
      · exact (x3.trans y0).free n1
      · exact x3.free n0
      · exact (x3.trans (y0.trans y1)).free n2
      · exact (x3.trans ((y0.trans y1).trans y2)).free n3
    refine ⟨_, rfl, rfl, _, rfl, ?_⟩
    refine ite2 (fun _ => ?_) (fun _ => ?_)
    · try dsimp only [tNext, tSeq, tAsg, gName, tRet, tTup, tLst, tCons, tNil]
      refine disp_row (r := [(q, ((1 : Int), some ma))]) (by refine .cons ?_ .nil <;> first | exact ent_none rfl | exact ent_told rfl rfl) (by simp [npq, npr, nqr]) (by show 1 ≤ 15; decide) _ _ fun G1 d0 y0 n0 r0 => ?_
      try dsimp only [tNext, tSeq, tAsg, gName, tRet, tTup, tLst, tCons, tNil]
      refine disp_row (r := [(p, ((1 : Int), some ta)), (q, ((2 : Int), none))]) (by refine .cons ?_ (.cons ?_ .nil) <;> first | exact ent_none rfl | exact ent_told rfl rfl) (by simp [npq, npr, nqr]) (by show 2 ≤ 15; decide) _ _ fun G2 d1 y1 n1 r1 => ?_
      try dsimp only [tNext, tSeq, tAsg, gName, tRet, tTup, tLst, tCons, tNil]
      refine disp_row (r := [(q, ((1 : Int), some tb)), (r, ((3 : Int), some mb))]) (by refine .cons ?_ (.cons ?_ .nil) <;> first | exact ent_none rfl | exact ent_told rfl rfl) (by simp [npq, npr, nqr]) (by show 2 ≤ 15; decide) _ _ fun G3 d2 y2 n2 r2 => ?_
      refine fun d3 n3 => ?_
      have y3 := Ext.new n3 (o := .dK [])
      have r3 : RowAt (upd G3 d3 (.dK [])) d3 [] := ⟨[], upd_same, .nil⟩
      refine ⟨by show 4 ≤ sizeLine; decide, fun L nL => ⟨by show 1 ≤ sizeLine; decide, fun En nE => ⟨by show 3 ≤ sizeLine; decide, fun M nM => ?_⟩⟩⟩
      obtain ⟨_, k0, _⟩ := id r0
      obtain ⟨_, k1, _⟩ := id r1
      obtain ⟨_, k2, _⟩ := id r2
      obtain ⟨_, k3, _⟩ := id r3
      have a01 : ¬ d0 = d1 := fun e => by rw [← e, k0] at n1; cases n1
      have a02 : ¬ d0 = d2 := fun e => by rw [← e, y1 _ _ k0] at n2; cases n2
      have a12 : ¬ d1 = d2 := fun e => by rw [← e, k1] at n2; cases n2
      have a03 : ¬ d0 = d3 := fun e => by rw [← e, (y1.trans y2) _ _ k0] at n3; cases n3
      have a13 : ¬ d1 = d3 := fun e => by rw [← e, y2 _ _ k1] at n3; cases n3
      have a23 : ¬ d2 = d3 := fun e => by rw [← e, k2] at n3; cases n3
      refine fam_end (ds := [d0, d1, d2, d3]) (rows := [[(q, ((1 : Int), some ma))], [(p, ((1 : Int), some ta)), (q, ((2 : Int), none))], [(q, ((1 : Int), some tb)), (r, ((3 : Int), some mb))], []]) (ns := [3]) (b := 0) (x3.trans (((y0.trans y1).trans y2).trans y3)) (.cons (r0.ext ((y1.trans y2).trans y3)) (.cons (r1.ext (y2.trans y3)) (.cons (r2.ext y3) (.cons r3 .nil)))) (by simp [a01, (show ¬ d1 = d0 from fun e => a01 e.symm), a02, (show ¬ d2 = d0 from fun e => a02 e.symm), a12, (show ¬ d2 = d1 from fun e => a12 e.symm), a03, (show ¬ d3 = d0 from fun e => a03 e.symm), a13, (show ¬ d3 = d1 from fun e => a13 e.symm), a23, (show ¬ d3 = d2 from fun e => a23 e.symm)]) (fun d hd => ?_) nL nE nM ⟨by show 1 ≤ 4; decide, by show 4 ≤ 5; decide, (fun r hr => by
        simp only [List.mem_cons, List.not_mem_nil, or_false] at hr
        rcases hr with rfl | rfl | rfl | rfl
        · exact (rowOver_cons (fun h => nomatch h) iq ⟨by decide, by show (1 : Int) < 4; decide⟩ (fun y e => by cases e; exact im) rowOver_nil)
        · exact (rowOver_cons (fun h => npq (List.mem_singleton.mp h)) ip ⟨by decide, by show (1 : Int) < 4; decide⟩ (fun y e => by cases e; exact ia) (rowOver_cons (fun h => nomatch h) iq ⟨by decide, by show (2 : Int) < 4; decide⟩ (fun y e => by cases e) rowOver_nil))
        · exact (rowOver_cons (fun h => nqr (List.mem_singleton.mp h)) iq ⟨by decide, by show (1 : Int) < 4; decide⟩ (fun y e => by cases e; exact ib) (rowOver_cons (fun h => nomatch h) ir ⟨by decide, by show (3 : Int) < 4; decide⟩ (fun y e => by cases e; exact i_n) rowOver_nil))
        · exact rowOver_nil), by decide, by show 1 ≤ 5; decide, (by show ∀ i ∈ ([3] : List Int), 0 ≤ i ∧ i < 4; decide), by decide, by show (0 : Int) < 4; decide⟩ k
      simp only [List.mem_cons, List.not_mem_nil, or_false] at hd
      rcases hd with rfl | rfl | rfl | rfl
      · exact x3.free n0
      · exact (x3.trans y0).free n1
      · exact (x3.trans (y0.trans y1)).free n2
      · exact (x3.trans ((y0.trans y1).trans y2)).free n3
    refine ⟨_, rfl, rfl, _, rfl, ?_⟩
    refine ite2 (fun _ => ?_) (fun _ => ?_)
    · try dsimp only [tNext, tSeq, tAsg, gName, tRet, tTup, tLst, tCons, tNil]
      refine disp_row (r := [(p, ((0 : Int), some ta)), (q, ((1 : Int), some ta)), (r, ((2 : Int), some ma))]) (by refine .cons ?_ (.cons ?_ (.cons ?_ .nil)) <;> first | exact ent_none rfl | exact ent_told rfl rfl) (by simp [npq, npr, nqr]) (by show 3 ≤ 15; decide) _ _ fun G1 d0 y0 n0 r0 => ?_
      try dsimp only [tNext, tSeq, tAsg, gName, tRet, tTup, tLst, tCons, tNil]
      refine disp_row (r := [(r, ((2 : Int), some ma))]) (by refine .cons ?_ .nil <;> first | exact ent_none rfl | exact ent_told rfl rfl) (by simp [npq, npr, nqr]) (by show 1 ≤ 15; decide) _ _ fun G2 d1 y1 n1 r1 => ?_
      try dsimp only [tNext, tSeq, tAsg, gName, tRet, tTup, tLst, tCons, tNil]
      refine disp_row (r := [(p, ((2 : Int), some tb)), (q, ((3 : Int), some tb)), (r, ((3 : Int), some mb))]) (by refine .cons ?_ (.cons ?_ (.cons ?_ .nil)) <;> first | exact ent_none rfl | exact ent_told rfl rfl) (by simp [npq, npr, nqr]) (by show 3 ≤ 15; decide) _ _ fun G3 d2 y2 n2 r2 => ?_
      refine fun d3 n3 => ?_
      have y3 := Ext.new n3 (o := .dK [])
      have r3 : RowAt (upd G3 d3 (.dK [])) d3 [] := ⟨[], upd_same, .nil⟩
      refine ⟨by show 4 ≤ sizeLine; decide, fun L nL => ⟨by show 2 ≤ sizeLine; decide, fun En nE => ⟨by show 3 ≤ sizeLine; decide, fun M nM => ?_⟩⟩⟩
      obtain ⟨_, k0, _⟩ := id r0
      obtain ⟨_, k1, _⟩ := id r1
      obtain ⟨_, k2, _⟩ := id r2
      obtain ⟨_, k3, _⟩ := id r3
      have a01 : ¬ d0 = d1 := fun e => by rw [← e, k0] at n1; cases n1
      have a02 : ¬ d0 = d2 := fun e => by rw [← e, y1 _ _ k0] at n2; cases n2
      have a12 : ¬ d1 = d2 := fun e => by rw [← e, k1] at n2; cases n2
      have a03 : ¬ d0 = d3 := fun e => by rw [← e, (y1.trans y2) _ _ k0] at n3; cases n3
      have a13 : ¬ d1 = d3 := fun e => by rw [← e, y2 _ _ k1] at n3; cases n3
      have a23 : ¬ d2 = d3 := fun e => by rw [← e, k2] at n3; cases n3
      refine fam_end (ds := [d0, d1, d2, d3]) (rows := [[(p, ((0 : Int), some ta)), (q, ((1 : Int), some ta)), (r, ((2 : Int), some ma))], [(r, ((2 : Int), some ma))], [(p, ((2 : Int), some tb)), (q, ((3 : Int), some tb)), (r, ((3 : Int), some mb))], []]) (ns := [2, 3]) (b := 0) (x3.trans (((y0.trans y1).trans y2).trans y3)) (.cons (r0.ext ((y1.trans y2).trans y3)) (.cons (r1.ext (y2.trans y3)) (.cons (r2.ext y3) (.cons r3 .nil)))) (by simp [a01, (show ¬ d1 = d0 from fun e => a01 e.symm), a02, (show ¬ d2 = d0 from fun e => a02 e.symm), a12, (show ¬ d2 = d1 from fun e => a12 e.symm), a03, (show ¬ d3 = d0 from fun e => a03 e.symm), a13, (show ¬ d3 = d1 from fun e => a13 e.symm), a23, (show ¬ d3 = d2 from fun e => a23 e.symm)]) (fun d hd => ?_) nL nE nM ⟨by show 1 ≤ 4; decide, by show 4 ≤ 5; decide, (fun r hr => by
        simp only [List.mem_cons, List.not_mem_nil, or_false] at hr
        rcases hr with rfl | rfl | rfl | rfl
        · exact (rowOver_cons (fun h => (List.mem_cons.mp h).elim npq fun h => npr (List.mem_singleton.mp h)) ip ⟨by decide, by show (0 : Int) < 4; decide⟩ (fun y e => by cases e; exact ia) (rowOver_cons (fun h => nqr (List.mem_singleton.mp h)) iq ⟨by decide, by show (1 : Int) < 4; decide⟩ (fun y e => by cases e; exact ia) (rowOver_cons (fun h => nomatch h) ir ⟨by decide, by show (2 : Int) < 4; decide⟩ (fun y e => by cases e; exact im) rowOver_nil)))
        · exact (rowOver_cons (fun h => nomatch h) ir ⟨by decide, by show (2 : Int) < 4; decide⟩ (fun y e => by cases e; exact im) rowOver_nil)
        · exact (rowOver_cons (fun h => (List.mem_cons.mp h).elim npq fun h => npr (List.mem_singleton.mp h)) ip ⟨by decide, by show (2 : Int) < 4; decide⟩ (fun y e => by cases e; exact ib) (rowOver_cons (fun h => nqr (List.mem_singleton.mp h)) iq ⟨by decide, by show (3 : Int) < 4; decide⟩ (fun y e => by cases e; exact ib) (rowOver_cons (fun h => nomatch h) ir ⟨by decide, by show (3 : Int) < 4; decide⟩ (fun y e => by cases e; exact i_n) rowOver_nil)))
        · exact rowOver_nil), by decide, by show 2 ≤ 5; decide, (by show ∀ i ∈ ([2, 3] : List Int), 0 ≤ i ∧ i < 4; decide), by decide, by show (0 : Int) < 4; decide⟩ k
      simp only [List.mem_cons, List.not_mem_nil, or_false] at hd
      rcases hd with rfl | rfl | rfl | rfl
      · exact x3.free n0
      · exact (x3.trans y0).free n1
      · exact (x3.trans (y0.trans y1)).free n2
      · exact (x3.trans ((y0.trans y1).trans y2)).free n3
    refine ⟨_, rfl, rfl, _, rfl, ?_⟩
    refine ite2 (fun _ => ?_) (fun _ => ?_)
    · try dsimp only [tNext, tSeq, tAsg, gName, tRet, tTup, tLst, tCons, tNil]
      refine disp_row (r := [(p, ((1 : Int), some ta)), (q, ((2 : Int), some ta))]) (by refine .cons ?_ (.cons ?_ .nil) <;> first | exact ent_none rfl | exact ent_told rfl rfl) (by simp [npq, npr, nqr]) (by show 2 ≤ 15; decide) _ _ fun G1 d0 y0 n0 r0 => ?_
      try dsimp only [tNext, tSeq, tAsg, gName, tRet, tTup, tLst, tCons, tNil]
      refine disp_row (r := [(p, ((2 : Int), some ta)), (r, ((0 : Int), some ma))]) (by refine .cons ?_ (.cons ?_ .nil) <;> first | exact ent_none rfl | exact ent_told rfl rfl) (by simp [npq, npr, nqr]) (by show 2 ≤ 15; decide) _ _ fun G2 d1 y1 n1 r1 => ?_
      try dsimp only [tNext, tSeq, tAsg, gName, tRet, tTup, tLst, tCons, tNil]
      refine disp_row (r := [(p, ((1 : Int), some ta)), (q, ((1 : Int), some tb))]) (by refine .cons ?_ (.cons ?_ .nil) <;> first | exact ent_none rfl | exact ent_told rfl rfl) (by simp [npq, npr, nqr]) (by show 2 ≤ 15; decide) _ _ fun G3 d2 y2 n2 r2 => ?_
      refine ⟨by show 3 ≤ sizeLine; decide, fun L nL => ⟨by show 2 ≤ sizeLine; decide, fun En nE => ⟨by show 3 ≤ sizeLine; decide, fun M nM => ?_⟩⟩⟩
      obtain ⟨_, k0, _⟩ := id r0
      obtain ⟨_, k1, _⟩ := id r1
      obtain ⟨_, k2, _⟩ := id r2
      have a01 : ¬ d0 = d1 := fun e => by rw [← e, k0] at n1; cases n1
      have a02 : ¬ d0 = d2 := fun e => by rw [← e, y1 _ _ k0] at n2; cases n2
      have a12 : ¬ d1 = d2 := fun e => by rw [← e, k1] at n2; cases n2
      refine fam_end (ds := [d0, d1, d2]) (rows := [[(p, ((1 : Int), some ta)), (q, ((2 : Int), some ta))], [(p, ((2 : Int), some ta)), (r, ((0 : Int), some ma))], [(p, ((1 : Int), some ta)), (q, ((1 : Int), some tb))]]) (ns := [0, 1]) (b := 0) (x3.trans ((y0.trans y1).trans y2)) (.cons (r0.ext (y1.trans y2)) (.cons (r1.ext y2) (.cons r2 .nil))) (by simp [a01, (show ¬ d1 = d0 from fun e => a01 e.symm), a02, (show ¬ d2 = d0 from fun e => a02 e.symm), a12, (show ¬ d2 = d1 from fun e => a12 e.symm)]) (fun d hd => ?_) nL nE nM ⟨by show 1 ≤ 3; decide, by show 3 ≤ 5; decide, (fun r hr => by
        simp only [List.mem_cons, List.not_mem_nil, or_false] at hr
        rcases hr with rfl | rfl | rfl
        · exact (rowOver_cons (fun h => npq (List.mem_singleton.mp h)) ip ⟨by decide, by show (1 : Int) < 3; decide⟩ (fun y e => by cases e; exact ia) (rowOver_cons (fun h => nomatch h) iq ⟨by decide, by show (2 : Int) < 3; decide⟩ (fun y e => by cases e; exact ia) rowOver_nil))
        · exact (rowOver_cons (fun h => npr (List.mem_singleton.mp h)) ip ⟨by decide, by show (2 : Int) < 3; decide⟩ (fun y e => by cases e; exact ia) (rowOver_cons (fun h => nomatch h) ir ⟨by decide, by show (0 : Int) < 3; decide⟩ (fun y e => by cases e; exact im) rowOver_nil))
        · exact (rowOver_cons (fun h => npq (List.mem_singleton.mp h)) ip ⟨by decide, by show (1 : Int) < 3; decide⟩ (fun y e => by cases e; exact ia) (rowOver_cons (fun h => nomatch h) iq ⟨by decide, by show (1 : Int) < 3; decide⟩ (fun y e => by cases e; exact ib) rowOver_nil))), by decide, by show 2 ≤ 5; decide, (by show ∀ i ∈ ([0, 1] : List Int), 0 ≤ i ∧ i < 3; decide), by decide, by show (0 : Int) < 3; decide⟩ k
      simp only [List.mem_cons, List.not_mem_nil, or_false] at hd
      rcases hd with rfl | rfl | rfl
      · exact x3.free n0
      · exact (x3.trans y0).free n1
      · exact (x3.trans (y0.trans y1)).free n2
    try dsimp only [tNext, tSeq, tAsg, gName, tRet, tTup, tLst, tCons, tNil]
    refine disp_row (r := [(p, ((1 : Int), none)), (q, ((2 : Int), some ma))]) (by refine .cons ?_ (.cons ?_ .nil) <;> first | exact ent_none rfl | exact ent_told rfl rfl) (by simp [npq, npr, nqr]) (by show 2 ≤ 15; decide) _ _ fun G1 d0 y0 n0 r0 => ?_
    try dsimp only [tNext, tSeq, tAsg, gName, tRet, tTup, tLst, tCons, tNil]
    refine disp_row (r := [(p, ((0 : Int), some ta)), (q, ((0 : Int), some tb))]) (by refine .cons ?_ (.cons ?_ .nil) <;> first | exact ent_none rfl | exact ent_told rfl rfl) (by simp [npq, npr, nqr]) (by show 2 ≤ 15; decide) _ _ fun G2 d1 y1 n1 r1 => ?_
    try dsimp only [tNext, tSeq, tAsg, gName, tRet, tTup, tLst, tCons, tNil]
    refine disp_row (r := [(p, ((2 : Int), none)), (r, ((0 : Int), some mb))]) (by refine .cons ?_ (.cons ?_ .nil) <;> first | exact ent_none rfl | exact ent_told rfl rfl) (by simp [npq, npr, nqr]) (by show 2 ≤ 15; decide) _ _ fun G3 d2 y2 n2 r2 => ?_
    refine ⟨by show 3 ≤ sizeLine; decide, fun L nL => ⟨by show 2 ≤ sizeLine; decide, fun En nE => ⟨by show 3 ≤ sizeLine; decide, fun M nM => ?_⟩⟩⟩
    obtain ⟨_, k0, _⟩ := id r0
    obtain ⟨_, k1, _⟩ := id r1
    obtain ⟨_, k2, _⟩ := id r2
    have a01 : ¬ d0 = d1 := fun e => by rw [← e, k0] at n1; cases n1
    have a02 : ¬ d0 = d2 := fun e => by rw [← e, y1 _ _ k0] at n2; cases n2
    have a12 : ¬ d1 = d2 := fun e => by rw [← e, k1] at n2; cases n2
    refine fam_end (ds := [d0, d1, d2]) (rows := [[(p, ((1 : Int), none)), (q, ((2 : Int), some ma))], [(p, ((0 : Int), some ta)), (q, ((0 : Int), some tb))], [(p, ((2 : Int), none)), (r, ((0 : Int), some mb))]]) (ns := [0, 2]) (b := 0) (x3.trans ((y0.trans y1).trans y2)) (.cons (r0.ext (y1.trans y2)) (.cons (r1.ext y2) (.cons r2 .nil))) (by simp [a01, (show ¬ d1 = d0 from fun e => a01 e.symm), a02, (show ¬ d2 = d0 from fun e => a02 e.symm), a12, (show ¬ d2 = d1 from fun e => a12 e.symm)]) (fun d hd => ?_) nL nE nM ⟨by show 1 ≤ 3; decide, by show 3 ≤ 5; decide, (fun r hr => by
        simp only [List.mem_cons, List.not_mem_nil, or_false] at hr
        rcases hr with rfl | rfl | rfl
        · exact (rowOver_cons (fun h => npq (List.mem_singleton.mp h)) ip ⟨by decide, by show (1 : Int) < 3; decide⟩ (fun y e => by cases e) (rowOver_cons (fun h => nomatch h) iq ⟨by decide, by show (2 : Int) < 3; decide⟩ (fun y e => by cases e; exact im) rowOver_nil))
        · exact (rowOver_cons (fun h => npq (List.mem_singleton.mp h)) ip ⟨by decide, by show (0 : Int) < 3; decide⟩ (fun y e => by cases e; exact ia) (rowOver_cons (fun h => nomatch h) iq ⟨by decide, by show (0 : Int) < 3; decide⟩ (fun y e => by cases e; exact ib) rowOver_nil))
        · exact (rowOver_cons (fun h => npr (List.mem_singleton.mp h)) ip ⟨by decide, by show (2 : Int) < 3; decide⟩ (fun y e => by cases e) (rowOver_cons (fun h => nomatch h) ir ⟨by decide, by show (0 : Int) < 3; decide⟩ (fun y e => by cases e; exact i_n) rowOver_nil))), by decide, by show 2 ≤ 5; decide, (by show ∀ i ∈ ([0, 2] : List Int), 0 ≤ i ∧ i < 3; decide), by decide, by show (0 : Int) < 3; decide⟩ k
    simp only [List.mem_cons, List.not_mem_nil, or_false] at hd
    rcases hd with rfl | rfl | rfl
    · exact x3.free n0
    · exact (x3.trans y0).free n1
    · exact (x3.trans (y0.trans y1)).free n2
end
end Sl
/-! ## P19 -/
set_option Elab.async false
set_option linter.all false
set_option maxRecDepth 100000
set_option maxHeartbeats 4000000
namespace Sl
open PySem PySem.Spec PyProof.Rows L2 TxS
abbrev sBent : Stmt := top 40
def putE {α : Type} (l : List (Str × α)) (z : Str) (x : α) : List (Str × α) := if z ∈ l.map (·.1) then l.map (fun e => if e.1 = z then (e.1, x) else e) else l ++ [(z, x)]
theorem any_keys (es : List (Str × Addr)) (z : Str) : ((kvsOf es).any fun kv => decide (kv.1 = (Sum.inr z : Key))) = decide (z ∈ es.map (·.1)) := by
  induction es with
  | nil => rfl
  | cons e es ih =>
    show (decide ((Sum.inr e.1 : Key) = Sum.inr z) || (kvsOf es).any _) = _
    rw [ih, Bool.eq_iff_iff, Bool.or_eq_true, decide_eq_true_eq, decide_eq_true_eq, decide_eq_true_eq, List.map_cons, List.mem_cons]
    exact or_congr ⟨fun k => by injection k with k; exact k.symm, fun k => by rw [k]⟩ Iff.rfl
theorem put_kvs (es : List (Str × Addr)) (z : Str) (T : Addr) : putK (kvsOf es) (Sum.inr z : Key) (.ref T) = kvsOf (putE es z T) := by
  unfold putK putE
  rw [any_keys]
  by_cases c : z ∈ es.map (·.1)
  · rw [decide_eq_true c, if_pos rfl, if_pos c]
    unfold kvsOf
    rw [List.map_map, List.map_map]
    refine List.map_congr_left fun e _ => ?_
    show (if (Sum.inr e.1 : Key) = Sum.inr z then _ else _) = _
    by_cases k : e.1 = z
    · rw [if_pos (by rw [k])]
      show _ = (Sum.inr (if e.1 = z then (e.1, T) else e).1, V.ref (if e.1 = z then (e.1, T) else e).2)
      rw [if_pos k]
    · rw [if_neg (fun q => k (by injection q))]
      show _ = (Sum.inr (if e.1 = z then (e.1, T) else e).1, V.ref (if e.1 = z then (e.1, T) else e).2)
      rw [if_neg k]
  · rw [decide_eq_false c, if_neg Bool.false_ne_true, if_neg c]
    unfold kvsOf
    rw [List.map_append]
    rfl
theorem Ents.put {H : Hp} {es : List (Str × Addr)} {r : Rw} {z : Str} {T : Addr} {m : Mv} (h : Ents H es r) (hT : MvAt H T m) : Ents H (putE es z T) (putE r z m) := by
  unfold putE
  rw [h.keys]
  by_cases c : z ∈ r.map (·.1)
  · rw [if_pos c, if_pos c]
    clear c
    induction h with
    | nil => exact .nil
    | cons a b ih =>
      rename_i z' t' m' es' r'
      by_cases k : z' = z
      · rw [List.map_cons, List.map_cons, if_pos k, if_pos k]
        exact .cons hT ih
      · rw [List.map_cons, List.map_cons, if_neg k, if_neg k]
        exact .cons a ih
  · rw [if_neg c, if_neg c]
    exact h.snoc hT
theorem Ents.drop {H : Hp} {z : Str} : ∀ {es : List (Str × Addr)} {r : Rw}, Ents H es r → Ents H (es.filter fun e => decide (e.1 ≠ z)) (r.filter fun e => decide (e.1 ≠ z))
  | _, _, .nil => .nil
  | _, _, .cons (z := y) a b => by
    by_cases k : y = z
    · rw [List.filter_cons_of_neg (by simp [k]), List.filter_cons_of_neg (by simp [k])]
      exact b.drop
    · rw [List.filter_cons_of_pos (by simp [k]), List.filter_cons_of_pos (by simp [k])]
      exact .cons a b.drop
theorem drop_kvs (es : List (Str × Addr)) (z : Str) : dropK (kvsOf es) (Sum.inr z : Key) = kvsOf (es.filter fun e => decide (e.1 ≠ z)) := by
  unfold dropK kvsOf
  rw [List.filter_map]
  congr 1
  refine List.filter_congr fun e _ => ?_
  show decide ((Sum.inr e.1 : Key) ≠ Sum.inr z) = decide (e.1 ≠ z)
  exact decide_eq_decide.mpr ⟨fun h k => h (by rw [k]), fun h k => h (by injection k)⟩
theorem rowOver.put {paper names : List Str} {n : Int} {r : Rw} {z : Str} {m : Mv} (h : rowOver paper names n r) (hz : z ∈ paper) (hm : (0 ≤ m.1 ∧ m.1 < n) ∧ ∀ y, m.2 = some y → y ∈ names) : rowOver paper names n (putE r z m) := by
  unfold putE
  by_cases c : z ∈ r.map (·.1)
  · rw [if_pos c]
    refine ⟨?_, fun e he => ?_⟩
    · rw [List.map_map]
      have e : (r.map ((·.1) ∘ fun e => if e.1 = z then (e.1, m) else e)) = r.map (·.1) := List.map_congr_left fun e _ => by
        show (if e.1 = z then (e.1, m) else e).1 = e.1
        by_cases k : e.1 = z
        · rw [if_pos k]
        · rw [if_neg k]
      rw [e]
      exact h.1
    · obtain ⟨e0, h0, rfl⟩ := List.mem_map.mp he
      by_cases k : e0.1 = z
      · rw [if_pos k]
        exact ⟨(h.2 e0 h0).1, hm⟩
      · rw [if_neg k]
        exact h.2 e0 h0
  · rw [if_neg c]
    refine ⟨?_, fun e he => ?_⟩
    · rw [List.map_append]
      exact List.nodup_append.mpr ⟨h.1, by simp, fun p hp q hq e => c (by
        have e0 : q = z := List.mem_singleton.mp hq
        rw [← e0, ← e]
        exact hp)⟩
    · rcases List.mem_append.mp he with q | q
      · exact h.2 e q
      · rw [List.mem_singleton.mp q]
        exact ⟨hz, hm⟩
theorem rowOver.drop {paper names : List Str} {n : Int} {r : Rw} {z : Str} (h : rowOver paper names n r) : rowOver paper names n (r.filter fun e => decide (e.1 ≠ z)) :=
  ⟨(List.filter_sublist.map _).nodup h.1, fun e he => h.2 e (List.mem_filter.mp he).1⟩
theorem put_len (r : Rw) (z : Str) (m : Mv) : (putE r z m).length ≤ r.length + 1 := by
  unfold putE
  split
  · rw [List.length_map]
    omega
  · rw [List.length_append]
    exact Nat.le_refl _
theorem RowsAt.others {H H' : Hp} {d : Addr} (ht : ∀ t xs, H t = some (.tup xs) → H' t = some (.tup xs)) (he : ∀ b, b ≠ d → ∀ kvs, H b = some (.dK kvs) → H' b = some (.dK kvs)) : ∀ {ds : List Addr} {rows : List Rw}, RowsAt H ds rows → d ∉ ds → RowsAt H' ds rows
  | _, _, .nil, _ => .nil
  | _, _, .cons (d := d0) ⟨es, a1, a2⟩ b, n => .cons ⟨es, he d0 (fun e => n (by rw [e]; exact List.mem_cons_self)) _ a1, a2.ext ht⟩ (RowsAt.others ht he b fun m => n (List.mem_cons_of_mem _ m))
/-- one row changed -/
theorem RowsAt.set {H H' : Hp} {d : Addr} {r' : Rw} (ht : ∀ t xs, H t = some (.tup xs) → H' t = some (.tup xs)) (he : ∀ b, b ≠ d → ∀ kvs, H b = some (.dK kvs) → H' b = some (.dK kvs)) (hd : RowAt H' d r') : ∀ {ds : List Addr} {rows : List Rw} {j : Nat}, RowsAt H ds rows → ds.Nodup → ds[j]? = some d → RowsAt H' ds (rows.set j r')
  | _, _, _, .nil, _, q => by cases q
  | _, _, 0, .cons a b, nd, q => by
    cases q
    obtain ⟨n1, n2⟩ := List.nodup_cons.mp nd
    refine .cons hd ?_
    exact b.others ht he n1
  | _, _, j + 1, .cons (d := d0) (ds := ds0) ⟨es, a1, a2⟩ b, nd, q => by
    obtain ⟨n1, n2⟩ := List.nodup_cons.mp nd
    have hm := List.mem_of_getElem? (show ds0[j]? = some d from q)
    exact .cons ⟨es, he d0 (fun e => n1 (by rw [e]; exact hm)) _ a1, a2.ext ht⟩ (RowsAt.set ht he hd b n2 q)
def rDictD : List V → Hp → VK → Prop := fun xs H Q => ∃ (a : Addr) (kvs : List (Key × V)), xs = [V.ref a] ∧ Rd H a (.dK kvs) ∧ ∀ p, H p = none → Q (.ref p) (upd H p (.dK kvs))
def spBent : Sp := fun vs H Q _ => ∃ (a M L E Pa Te Ma : Addr) (ds : List Addr) (rows : List Rw) (ns : List Int) (b : Int) (paper tells marks : List Str), vs = [.ref a, .ref M, .ref Pa, .ref Te, .ref Ma] ∧ Rng H a ∧ ModelAt H M L E ds rows ns b ∧ L ≠ a ∧ E ≠ a ∧ okModel 5 paper (tells ++ marks) rows ns b ∧
  Lsts H a Pa Te Ma paper tells marks ∧ spModelOut 5 a paper (tells ++ marks) H Q
theorem row_len {paper names : List Str} {n : Int} {r : Rw} (h : rowOver paper names n r) (hp : paper.length ≤ 6) : r.length ≤ 6 := by
  have q := len_le h.1 (A := paper) fun z hz => by
    obtain ⟨e, he, rfl⟩ := List.mem_map.mp hz
    exact (h.2 e he).1
  rw [List.length_map] at q
  omega
section
variable {P : Program} {w : World} {K : PySem.W.Frag} {mg : Str → Option Value} {base : Heap}
theorem scBent : FnScope ["_law_rng_here", "_law_model", "_law_paper", "_law_tells", "_law_marks_here", "_law_rows", "_law_at", "_law_letter", "_law_line"] ["_law_rng_here", "_law_model", "_law_paper", "_law_tells", "_law_marks_here"] (defScope sBent) := ⟨rfl, rfl, rfl, by decide +kernel, rfl, by decide +kernel, by decide +kernel⟩
theorem ok_bent {f fD fC : Addr} {fd fdD fdC : FuncData} (F : Fun K "_law_bent" "_law_bent" sBent f fd) (aD : At K mg "_law_draw" fD fdD ["_law_rng_here", "_law_many"] []) (gD : FnOk P w K mg base CX0 1 fD fdD ["_law_rng_here", "_law_many"] spDraw)
    (aC : At K mg "_law_choice" fC fdC ["_law_rng_here", "_law_some"] []) (gC : FnOk P w K mg base CX0 2 fC fdC ["_law_rng_here", "_law_some"] spChoice) (zd : mg "dict" = none) (zn : mg "len" = none) (zl : mg "list" = none) :
    FnOk P w K mg base CX0 3 f fd ["_law_rng_here", "_law_model", "_law_paper", "_law_tells", "_law_marks_here"] spBent := by
  refine F.ok scBent (fun vs H Q E h => ?_) (fun cdv A0 outer s H vs Q E0 hr h => ?_)
  · obtain ⟨a, M, L, E', Pa, Te, Ma, ds, rows, ns, b, paper, tells, marks, rfl, _⟩ := h
    rfl
  · obtain ⟨a, M, L, En, Pa, Te, Ma, ds, rows, ns, b, paper, tells, marks, rfl, hR, hM, nLa, nEa, ok, hl, k⟩ := h
    have hr1 : Room 1 _ := hr.mono (by decide)
    have hu := hu_of hr
    refine ⟨_, pss_cons (ps_setLc (i := 5) (own := [("_law_line", 8)]) (g := gName 8) (tt := tYes) (te := tCB rDictD (tCons (tVar 8) tNil)) rfl scBent.nd rfl rfl (sw_true rfl rfl rfl (by decide +kernel)) (pi_list (pe_ix ix_tup (pv 1) pe_int (fun _ _ => rfl))) (blkOk_by (N := ["_law_rng_here", "_law_model", "_law_paper", "_law_tells", "_law_marks_here", "_law_rows", "_law_at", "_law_letter", "_law_line"]) (sc := defScope sBent) (by decide +kernel))
          (fun _ _ _ _ _ => pg_name (i := 8) scBent.nd rfl (Or.inl rfl)) (fun _ _ _ _ _ => pts_nil) (fun _ _ _ _ _ => pe_callTy (T := "dict") (r := rDictD) call_dictD (by rfl) zd (by decide +kernel) (pa_cons (pv 8) pa_nil)))
      (pss_cons (ps_par (i := 6) (j := 7) (by rfl) scBent.nd rfl rfl (by decide) rfl rfl (pa_cons (pe_call gD hr1 (by rfl) aD.g aD.kp aD.b .nil pass0 (pa_cons (pv 0) (pa_cons (pe_callB call_len_seq (by rfl) zn PySem.boot_len (pa_cons (pv 5) pa_nil)) pa_nil))) (pa_cons (pe_call gC hr (by rfl) aC.g aC.kp aC.b .nil pass0 (pa_cons (pv 0) (pa_cons (pv 2) pa_nil))) pa_nil)) (by rfl))
      (pss_cons (ps_dput hu (pe_ix ix_list (pv 5) (pv 6) (fun _ _ => rfl)) (pv 7) (pe_tup (pa_cons (pe_call gD hr1 (by rfl) aD.g aD.kp aD.b .nil pass0 (pa_cons (pv 0) (pa_cons (pe_callB call_len_seq (by rfl) zn PySem.boot_len (pa_cons (pv 5) pa_nil)) pa_nil)))
          (pa_cons (pe_call gC hr (by rfl) aC.g aC.kp aC.b .nil pass0 (pa_cons (pv 0) (pa_cons (pe_op op_cat (pe_op op_cat (pe_lst (pa_cons pe_non pa_nil)) (pv 3)) (pv 4)) pa_nil))) pa_nil))) rfl)
      (pss_cons (ps_if (pt_cmpR op_eq (pe_call gD hr1 (by rfl) aD.g aD.kp aD.b .nil pass0 (pa_cons (pv 0) (pa_cons pe_int pa_nil))) pe_int (nomark _)) (pss_one (ps_expr (pe_dpop1 (pe_ix ix_list (pv 5) (pv 6) (fun _ _ => rfl)) (pv 7) ⟨rfl, rfl, rfl, rfl⟩))) pss_nil)
      (pss_one (ps_ret (pe_tup (pa_cons (pv 5) (pa_cons (pe_callTy call_list_of (by rfl) zl (by decide +kernel) (pa_cons (pe_ix ix_tup (pv 1) pe_int (fun _ _ => rfl)) pa_nil)) (pa_cons (pe_ix ix_tup (pv 1) pe_int (fun _ _ => rfl)) pa_nil))))))))), ?_⟩
    have ph := hl.nd
    have plo := hl.lp
    have phi := hl.lp2
    have tl2 := hl.lt2
    have ml2 := hl.lm2
    have rhi := ok.hi
    have rlo := ok.lo
    -- the rows again
    refine ⟨_, rfl, M, _, _, .ref L, rfl, rfl, SqT.of hM.h1, atI_nat (j := 0) rfl, L, rfl, ⟨_, SqL.of hM.h2⟩, fun L2 nL2 => ?_⟩
    refine lc_it (walk_list (xs := ds.map V.ref)) (fun i H' => Ext H H' ∧ ∃ ds', H' L2 = some (.lst (ds'.map V.ref)) ∧ RowsAt H' ds' (rows.take i) ∧ ds'.Nodup ∧ (∀ d ∈ ds', H d = none)) ⟨Ext.new nL2, [], upd_same, .nil, List.nodup_nil, fun d h => nomatch h⟩ (fun i H' _ h => SqL.of (h.1 _ _ hM.h2)) ?_ ?_
    · rintro i x H1' H1 hi ⟨x1, ds', l1, w1, nd1, f1⟩ ⟨rfl, hx⟩
      obtain ⟨d, hd, rfl⟩ := at_map hx
      obtain ⟨r, hri, es, he1, he2⟩ := hM.h3.at_ hd
      have hil : i < rows.length := (List.getElem?_eq_some_iff.mp hri).1
      refine ⟨rfl, _, rfl, d, _, rfl, Rd.of (x1 _ _ he1), fun p np => ?_⟩
      have xp : Ext H1 (upd H1 p (.dK (kvsOf es))) := Ext.new np
      have lp1 := xp _ _ l1
      have w2 := w1.ext xp
      have ld : ds'.length = i := by
        rw [w1.len, List.length_take]
        omega
      refine ⟨_, lp1, by rw [List.length_map]; exact small_list (by omega), fun b' o e => by rw [upd_ne (ne_of_none e nL2)]; exact xp _ _ (x1 _ _ e), ds' ++ [p], by rw [upd_same, List.map_append]; rfl, ?_, ?_, fun d' hd' => ?_⟩
      · rw [take_more hri]
        refine RowsAt.snoc ?_ ?_
        · refine RowAt.same (H := upd H1 p (.dK (kvsOf es))) ⟨es, upd_same, he2.ext fun t xs e => xp _ _ (x1 _ _ e)⟩ (upd_ne (fun e => by rw [e, l1] at np; cases np)) fun t xs e => ?_
          rw [upd_ne (ne_of e lp1 (by intro q; cases q))]
          exact e
        · refine w2.keepN Keep.at_ (fun xs e => by rw [lp1] at e; cases e) fun hm => ?_
          obtain ⟨kvs, e⟩ := w2.mem hm
          rw [lp1] at e
          cases e
      · refine List.nodup_append.mpr ⟨nd1, by simp, fun p1 hp1 q hq e => ?_⟩
        obtain ⟨kvs, e'⟩ := w1.mem hp1
        rw [e, List.mem_singleton.mp hq, np] at e'
        cases e'
      · rcases List.mem_append.mp hd' with c | c
        · exact f1 d' c
        · rw [List.mem_singleton.mp c]
          exact x1.free np
    rintro H1 ⟨x1, ds', l1, w1, nd1, f1⟩
    rw [List.length_map, hM.h3.len, List.take_length] at w1
    have ld : ds'.length = rows.length := w1.len
    have r1 := hR.ext x1
    have nL2a : L2 ≠ a := hR.new nL2
    have nda : ∀ d ∈ ds', d ≠ a := fun d hd => hR.new (f1 d hd)
    -- _law_at, _law_letter
    refine ⟨_, rfl, _, rfl, L2, _, rfl, .inl (SqL.of l1), a, _, rfl, r1, by rw [List.length_map]; omega, by rw [List.length_map]; omega, fun d0 H2 e0 e1 r2 k2 => ?_⟩
    rw [List.length_map, ld] at e1
    obtain ⟨j, rfl⟩ : ∃ j : Nat, d0 = (j : Int) := ⟨d0.toNat, by omega⟩
    have k02 : Keep a H H2 := (Keep.of x1).trans k2
    have lsA := hl.keep k02
    refine ⟨_, rfl, _, rfl, a, Pa, _, rfl, r2, lsA.p, hl.pa, by rw [List.length_map]; omega, by rw [List.length_map]; omega, fun i v H3 hv r3 k3 => ?_⟩
    obtain ⟨z, hz, rfl⟩ := at_map hv
    have hzp := List.mem_of_getElem? hz
    refine ⟨_, _, rfl, ?_⟩
    have k03 := k02.trans k3
    have k13 := k2.trans k3
    have l3 := k13 _ _ l1 nL2a
    have lsB := hl.keep k03
    -- the move
    refine ⟨_, rfl, _, rfl, L2, _, rfl, .inl (SqL.of l3), a, _, rfl, r3, by rw [List.length_map]; omega, by rw [List.length_map]; omega, fun g H4 g0 g1 r4 k4 => ?_⟩
    rw [List.length_map, ld] at g1
    have ls4 := lsB.keep k4
    refine ⟨_, rfl, by show 1 ≤ sizeLine; decide, fun p1 np1 => ⟨_, rfl, p1, Te, _, _, rfl, rfl, upd_same, (Ext.new np1) _ _ ls4.t, by rw [List.length_map]; exact small_size (by show 1 + tells.length ≤ 10000; omega), fun p2 np2 => ⟨_, rfl, p2, Ma, _, _, rfl, rfl, upd_same, (Ext.new np2) _ _ ((Ext.new np1) _ _ ls4.m), ?_, fun p3 np3 => ?_⟩⟩⟩
    · rw [List.length_append, List.length_map, List.length_map]
      exact small_size (by show 1 + tells.length + marks.length ≤ 10000; omega)
    have x5 : Ext H4 (upd (upd (upd H4 p1 (.lst [V.non])) p2 (.lst ([V.non] ++ tells.map V.str))) p3 (.lst ([V.non] ++ tells.map V.str ++ marks.map V.str))) := ((Ext.new np1).trans (Ext.new np2)).trans (Ext.new np3)
    have c5 : (upd (upd (upd H4 p1 (.lst [V.non])) p2 (.lst ([V.non] ++ tells.map V.str))) p3 (.lst ([V.non] ++ tells.map V.str ++ marks.map V.str))) p3 = some (.lst ([V.non] ++ tells.map V.str ++ marks.map V.str)) := upd_same
    generalize upd (upd (upd H4 p1 (.lst [V.non])) p2 (.lst ([V.non] ++ tells.map V.str))) p3 (.lst ([V.non] ++ tells.map V.str ++ marks.map V.str)) = H5 at x5 c5 ⊢
    have el : ([V.non] ++ tells.map V.str ++ marks.map V.str) = V.non :: ((tells ++ marks).map V.str) := by
      rw [List.map_append, List.append_assoc]
      rfl
    rw [el] at c5
    have r5 := r4.ext x5
    refine ⟨a, p3, _, rfl, r5, c5, r5.lst c5 (fun x y e => by injection e with e1 e2; cases e1), Nat.succ_pos _, by rw [List.length_cons, List.length_map, List.length_append]; omega, fun t told H6 ht r6 k6 => ?_⟩
    obtain ⟨o, rfl, ho⟩ : ∃ o : Option Str, told = toldV o ∧ ∀ y, o = some y → y ∈ tells ++ marks := by
      cases t with
      | zero =>
        cases ht
        exact ⟨none, rfl, fun y e => by cases e⟩
      | succ t =>
        obtain ⟨y, hy, rfl⟩ := at_map (show ((tells ++ marks).map V.str)[t]? = some told from ht)
        exact ⟨some y, rfl, fun y' e => by cases e; exact List.mem_of_getElem? hy⟩
    refine ⟨by show 2 ≤ sizeLine; decide, fun T nT => ?_⟩
    have k16 : Keep a H1 (upd H6 T (.tup [.int g, toldV o])) := ((((k13.trans k4).trans (Keep.of x5)).trans k6)).trans (Keep.of (Ext.new nT))
    have l6 := k16 _ _ l1 nL2a
    have hT : (upd H6 T (.tup [.int g, toldV o])) T = some (.tup [.int g, toldV o]) := upd_same
    have r6' := r6.upd (o := .tup [.int g, toldV o]) (r6.new nT)
    have w6 : RowsAt (upd H6 T (.tup [.int g, toldV o])) ds' rows := w1.keepN k16 r1.notup fun hm => nda a hm rfl
    generalize upd H6 T (.tup [.int g, toldV o]) = H7 at k16 l6 hT r6' w6 ⊢
    have hj : j < ds'.length := by omega
    have hdj : ds'[j]? = some ds'[j] := List.getElem?_eq_getElem hj
    obtain ⟨r, hrj, es, hd, he⟩ := w6.at_ hdj
    have hrm := List.mem_of_getElem? hrj
    have okr := ok.rw_ r hrm
    have rl6 := row_len okr phi
    have hat : atI (ds'.map V.ref) (j : Int) = some (.ref ds'[j]) := atI_nat (by rw [List.getElem?_map, hdj]; rfl)
    refine ⟨_, rfl, _, rfl, L2, _, _, _, rfl, rfl, SqL.of l6, hat, _, rfl, ds'[j], _, rfl, DPut.k (k := Sum.inr z) hd (by unfold kvsOf; rw [List.length_map, he.len]; exact small_list (by omega)), ?_⟩
    rw [put_kvs]
    -- what follows from any row in its place
    have nLd : L2 ≠ ds'[j] := ne_of l6 hd (by intro q; cases q)
    have nTd : T ≠ ds'[j] := ne_of hT hd (by intro q; cases q)
    have ndj : ds'[j] ≠ a := nda _ (List.getElem_mem hj)
    have okp : rowOver paper (tells ++ marks) rows.length (putE r z (g, o)) := okr.put hzp ⟨⟨g0, g1⟩, ho⟩
    have fin : ∀ (H8 : Hp) (r' : Rw) (es' : List (Str × Addr)), (∀ b o, b ≠ ds'[j] → b ≠ a → H7 b = some o → H8 b = some o) → H8 ds'[j] = some (.dK (kvsOf es')) → Ents H8 es' r' → rowOver paper (tells ++ marks) rows.length r' → Rng H8 a →
        (∀ b, H8 b = none → H b = none) →
        tRet (tTup (tCons (tVar 5) (tCons (tCB (fun xs H Q => ∃ p ys, xs = [V.ref p] ∧ (SqL K H p ys ∨ SqT K H p ys) ∧ ∀ l, H l = none → Q (.ref l) (upd H l (.lst ys))) (tCons (tOp (rIxT K) (tVar 1) (tC (.int 1))) tNil)) (tCons (tOp (rIxT K) (tVar 1) (tC (.int 2))) tNil)))) { nx := fun _ H' => Q .non H', rt := Q }
          [some (.ref a), some (.ref M), some (.ref Pa), some (.ref Te), some (.ref Ma), some (.ref L2), some (.int (j : Nat)), some (.str z), none] H8 := by
      intro H8 r' es' keep hd8 he8 ok8 r8 fr8
      have k8 : ∀ b o, H b = some o → b ≠ a → H8 b = some o := fun b o e nb => keep b o (fun q => by have := f1 _ (List.getElem_mem hj); rw [← q, e] at this; cases this) nb (k16 _ _ (x1 _ _ e) nb)
      have M8 := k8 _ _ hM.h1 (fun e => hR.notup _ (by rw [← e]; exact hM.h1))
      have E8 := k8 _ _ hM.h5 nEa
      have L8 : H8 L2 = some (.lst (ds'.map V.ref)) := keep _ _ nLd nL2a l6
      have w8 : RowsAt H8 ds' (rows.set j r') := by
        refine RowsAt.set (H := H7) (d := ds'[j]) (fun t xs e => keep t _ (ne_of e hd (by intro q; cases q)) (fun q => r6'.notup _ (by rw [← q]; exact e)) e) (fun b' nb kvs e => keep b' _ nb (fun q => r6'.nodict _ (by rw [← q]; exact e)) e) ⟨es', hd8, he8⟩ w6 nd1 hdj
      refine ⟨_, rfl, _, rfl, M, _, _, _, rfl, rfl, SqT.of M8, atI_nat (j := 1) rfl, En, _, rfl, .inl (SqL.of E8), fun E2 nE2 => ?_⟩
      have M9 := (Ext.new nE2 (o := .lst (ns.map V.int))) _ _ M8
      refine ⟨_, rfl, M, _, _, _, rfl, rfl, SqT.of M9, atI_nat (j := 2) rfl, by show 3 ≤ sizeLine; decide, fun M2 nM2 => ?_⟩
      have x9 : Ext H8 (upd (upd H8 E2 (.lst (ns.map V.int))) M2 (.tup [.ref L2, .ref E2, .int b])) := (Ext.new nE2).trans (Ext.new nM2)
      refine k _ M2 L2 E2 ds' (rows.set j r') ns b (r8.ext x9) (fun b' o e nb => x9 _ _ (k8 b' o e nb)) (fr8 _ ((Ext.new nE2).free nM2)) nL2 (fr8 _ nE2) f1 ⟨upd_same, x9 _ _ L8, w8.ext x9, nd1, (Ext.new nM2) _ _ upd_same⟩ ⟨by rw [List.length_set]; exact rlo, by rw [List.length_set]; exact rhi, fun r0 hr0 => ?_, ok.nd, ok.len, by rw [List.length_set]; exact ok.inn, ok.b0, by rw [List.length_set]; exact ok.b1⟩
      rw [List.length_set]
      rcases List.mem_or_eq_of_mem_set hr0 with c | c
      · exact ok.rw_ r0 c
      · rw [c]
        exact ok8
    have fr7 : ∀ b, H7 b = none → H b = none := fun b hb => by
      cases e : H b with
      | none => rfl
      | some o' =>
        by_cases c : b = a
        · obtain ⟨o2, h2⟩ := r6'.there
          rw [c, h2] at hb
          cases hb
        · rw [k16 _ _ (x1 _ _ e) c] at hb
          cases hb
    have ents8 : Ents (upd H7 ds'[j] (.dK (kvsOf (putE es z T)))) (putE es z T) (putE r z (g, o)) := (he.put (m := (g, o)) (show MvAt H7 T (g, o) from hT)).ext fun t xs e => by
      rw [upd_ne (ne_of e hd (by intro q; cases q))]
      exact e
    have hd8 : (upd H7 ds'[j] (.dK (kvsOf (putE es z T)))) ds'[j] = some (.dK (kvsOf (putE es z T))) := upd_same
    have keep8 : ∀ b o', b ≠ ds'[j] → H7 b = some o' → (upd H7 ds'[j] (.dK (kvsOf (putE es z T)))) b = some o' := fun b o' nb e => by
      rw [upd_ne nb]
      exact e
    have r8 := r6'.upd (o := .dK (kvsOf (putE es z T))) ndj
    have fr8 : ∀ b, (upd H7 ds'[j] (.dK (kvsOf (putE es z T)))) b = none → H b = none := fun b hb => by
      by_cases c : b = ds'[j]
      · rw [c, upd_same] at hb
        cases hb
      · rw [upd_ne c] at hb
        exact fr7 b hb
    generalize upd H7 ds'[j] (.dK (kvsOf (putE es z T))) = H8 at ents8 hd8 keep8 r8 fr8 ⊢
    refine ⟨_, rfl, a, 3, rfl, r8, by decide, by decide, fun d9 H9 _ _ r9 k9 => ⟨rfl, _, rfl, ?_⟩⟩
    have hd9 := k9 _ _ hd8 ndj
    have ents9 : Ents H9 (putE es z T) (putE r z (g, o)) := ents8.ext fun t xs e => k9 _ _ e (fun q => r8.notup _ (by rw [← q]; exact e))
    have keep9 : ∀ b o', b ≠ ds'[j] → b ≠ a → H7 b = some o' → H9 b = some o' := fun b o' nb na e => k9 _ _ (keep8 b o' nb e) na
    have fr9 : ∀ b, H9 b = none → H b = none := fun b hb => fr8 b (k9.free r9.there.choose_spec hb)
    refine ite2 (fun _ => ?_) (fun _ => ?_)
    · have L9 : H9 L2 = some (.lst (ds'.map V.ref)) := keep9 _ _ nLd nL2a l6
      refine ⟨_, rfl, _, rfl, L2, _, _, _, rfl, rfl, SqL.of L9, hat, ds'[j], rfl, .inl ⟨_, Rd.of hd9⟩, _, rfl, kvsOf (putE es z T), Sum.inr z, .ref T, hd9, rfl, ?_, ?_⟩
      · rw [← put_kvs, valV_put, if_pos rfl]
      · rw [drop_kvs]
        refine fin _ _ _ (fun b o' nb na e => ?_) upd_same (ents9.drop.ext fun t xs e => ?_) okp.drop (r9.upd ndj) fun b hb => ?_
        · rw [upd_ne nb]
          exact keep9 b o' nb na e
        · rw [upd_ne (ne_of e hd9 (by intro q; cases q))]
          exact e
        · by_cases c : b = ds'[j]
          · rw [c, upd_same] at hb
            cases hb
          · rw [upd_ne c] at hb
            exact fr9 b hb
    · exact fin H9 _ _ keep9 hd9 ents9 okp r9 fr9
end
end Sl
/-! ## P20 -/
set_option Elab.async false
set_option linter.all false
set_option maxRecDepth 100000
set_option maxHeartbeats 4000000
namespace Sl
open PySem PySem.Spec PyProof.Rows L2 TxS
abbrev sFormat : Stmt := top 41
abbrev sTexts : Stmt := top 42
def spFormat : Sp := fun vs H Q _ => ∃ (a Pa Te Ma : Addr) (paper tells marks : List Str), vs = [.ref a, .int 5, .ref Pa, .ref Te, .ref Ma] ∧ Rng H a ∧ Lsts H a Pa Te Ma paper tells marks ∧ spModelOut 5 a paper (tells ++ marks) H Q
/-- a new drawing object -/
def spRng (K : PySem.W.Frag) : Sp := fun vs H Q _ => ∃ (S : Addr) (ns : List Int) (k : Nat), vs = [.ref S, .int k] ∧ SqL K H S (ns.map V.int) ∧ ns.length ≤ 63 ∧ k ≤ 100 ∧ ∀ (H' : Hp) (a : Addr), Ext H H' → H a = none → Rng H' a → Q (.ref a) H'
/-- a list of words -/
def wordsL (n : Nat) (l : List Str) : Prop := ∀ z ∈ l, isWordS z = true ∧ z.length ≤ n
def spTexts : Sp := fun vs H Q _ => ∃ (A : Addr) (abc : List Str), vs = [.ref A, .int 3] ∧ H A = some (.lst (abc.map V.str)) ∧ abc.length = 3 ∧ (∀ z ∈ abc, z ∈ abcL) ∧ ∀ (H' : Hp) (L : Addr) (l : List Str), Ext H H' → H L = none → H' L = some (.lst (l.map V.str)) → wordsL 3 l → l.length ≤ 60 → Q (.ref L) H'
theorem abc_word {z : Str} (h : z ∈ abcL) : isWordS z = true ∧ z.length = 1 := by
  have q : (abcL.all fun z => isWordS z && decide (z.length = 1)) = true := by decide +kernel
  have k := List.all_eq_true.mp q z h
  rw [Bool.and_eq_true, decide_eq_true_eq] at k
  exact k
theorem word_append {x y : Str} (hx : isWordS x = true) (hy : isWordS y = true) : isWordS (x ++ y) = true ∧ (x ++ y).length = x.length + y.length := by
  have e : (x ++ y).cps.toList = x.cps.toList ++ y.cps.toList := TL.tl_append x y
  refine ⟨?_, ?_⟩
  · unfold isWordS at hx hy ⊢
    rw [e, List.all_append, hx, hy]
    rfl
  · have k := congrArg List.length e
    rw [List.length_append, Array.length_toList, Array.length_toList, Array.length_toList] at k
    exact k
section
variable {P : Program} {w : World} {K : PySem.W.Frag} {mg : Str → Option Value} {base : Heap}
theorem scFormat : FnScope ["_law_rng_here", "_law_cap", "_law_paper", "_law_tells", "_law_marks_here", "_law_way", "_law_found"] ["_law_rng_here", "_law_cap", "_law_paper", "_law_tells", "_law_marks_here"] (defScope sFormat) := ⟨rfl, rfl, rfl, by decide +kernel, rfl, by decide +kernel, by decide +kernel⟩
theorem ok_format {f fD fA fF fB : Addr} {fd fdD fdA fdF fdB : FuncData} (F : Fun K "_law_format" "_law_format" sFormat f fd) (aD : At K mg "_law_draw" fD fdD ["_law_rng_here", "_law_many"] []) (gD : FnOk P w K mg base CX0 1 fD fdD ["_law_rng_here", "_law_many"] spDraw)
    (aA : At K mg "_law_any_format" fA fdA ["_law_rng_here", "_law_cap", "_law_paper", "_law_tells", "_law_marks_here"] []) (gA : FnOk P w K mg base CX0 3 fA fdA ["_law_rng_here", "_law_cap", "_law_paper", "_law_tells", "_law_marks_here"] spAnyFormat)
    (aF : At K mg "_law_family" fF fdF ["_law_way", "_law_paper", "_law_tells", "_law_marks_here"] []) (gF : FnOk P w K mg base CX0 1 fF fdF ["_law_way", "_law_paper", "_law_tells", "_law_marks_here"] spFamily)
    (aB : At K mg "_law_bent" fB fdB ["_law_rng_here", "_law_model", "_law_paper", "_law_tells", "_law_marks_here"] []) (gB : FnOk P w K mg base CX0 3 fB fdB ["_law_rng_here", "_law_model", "_law_paper", "_law_tells", "_law_marks_here"] spBent) :
    FnOk P w K mg base CX0 4 f fd ["_law_rng_here", "_law_cap", "_law_paper", "_law_tells", "_law_marks_here"] spFormat := by
  refine F.ok scFormat (fun vs H Q E h => ?_) (fun cdv A0 outer s H vs Q E0 hr h => ?_)
  · obtain ⟨a, Pa, Te, Ma, paper, tells, marks, rfl, _⟩ := h
    rfl
  · obtain ⟨a, Pa, Te, Ma, paper, tells, marks, rfl, hR, hl, k⟩ := h
    have hr1 : Room 1 _ := hr.mono (by decide)
    refine ⟨_, pss_cons (ps_set (i := 5) scFormat.nd rfl (.inl rfl) (pe_call gD hr1 (by rfl) aD.g aD.kp aD.b .nil pass0 (pa_cons (pv 0) (pa_cons pe_int pa_nil))))
      (pss_cons (ps_if (pt_cmpR op_lt (pv 5) pe_int (nomark _)) (pss_one (ps_ret (pe_call gA hr (by rfl) aA.g aA.kp aA.b .nil pass0 (pa_cons (pv 0) (pa_cons (pv 1) (pa_cons (pv 2) (pa_cons (pv 3) (pa_cons (pv 4) pa_nil)))))))) pss_nil)
      (pss_cons (ps_set (i := 6) scFormat.nd rfl (.inl rfl) (pe_call gF hr1 (by rfl) aF.g aF.kp aF.b .nil pass0 (pa_cons (pe_call gD hr1 (by rfl) aD.g aD.kp aD.b .nil pass0 (pa_cons (pv 0) (pa_cons pe_int pa_nil))) (pa_cons (pv 2) (pa_cons (pv 3) (pa_cons (pv 4) pa_nil))))))
      (pss_one (ps_ret (pe_ifExp (pt_cmpR op_lt (pv 5) pe_int (nomark _)) (pv 6) (pe_call gB hr (by rfl) aB.g aB.kp aB.b .nil pass0 (pa_cons (pv 0) (pa_cons (pv 6) (pa_cons (pv 2) (pa_cons (pv 3) (pa_cons (pv 4) pa_nil)))))))))))  , ?_⟩
    refine ⟨_, rfl, a, 9, rfl, hR, by decide, by decide, fun d H1 d0 dn r1 k1 => ?_⟩
    have l1 := hl.keep k1
    have M0 : ∀ {H' : Hp} {M : Addr}, Keep a H H' → Rng H' a → H' M = none → H M = none := fun kk rr n => kk.free rr.there.choose_spec n
    refine ⟨_, rfl, _, _, rfl, rfl, _, rfl, ?_⟩
    refine ite2 (fun _ => ?_) (fun _ => ?_)
    · refine ⟨_, rfl, _, rfl, _, rfl, _, rfl, _, rfl, a, Pa, Te, Ma, 5, paper, tells, marks, rfl, r1, by decide, by decide, l1, fun H' M L E ds rows ns b r' k' nM nL nE nd hM ok => ?_⟩
      exact k H' M L E ds rows ns b r' (k1.trans k') (M0 k1 r1 nM) (M0 k1 r1 nL) (M0 k1 r1 nE) (fun d hd => M0 k1 r1 (nd d hd)) hM ok
    · refine ⟨_, rfl, a, 5, rfl, r1, by decide, by decide, fun d2 H2 e0 e1 r2 k2 => ?_⟩
      obtain ⟨way, rfl⟩ : ∃ way : Nat, d2 = (way : Int) := ⟨d2.toNat, by omega⟩
      have kk2 := k1.trans k2
      have l2 := hl.keep kk2
      refine ⟨_, rfl, _, rfl, _, rfl, a, Pa, Te, Ma, way, paper, tells, marks, rfl, r2, l2, fun H3 M L E ds rows ns b x3 nM nL nE nd hM ok => ?_⟩
      have r3 := r2.ext x3
      have kk3 := kk2.trans (Keep.of x3)
      have l3 := hl.keep kk3
      refine ⟨_, rfl, _, _, rfl, rfl, _, rfl, ?_⟩
      refine ite2 (fun _ => ?_) (fun _ => ?_)
      · exact ⟨_, rfl, k H3 M L E ds rows ns b r3 kk3 (M0 kk2 r2 nM) (M0 kk2 r2 nL) (M0 kk2 r2 nE) (fun d hd => M0 kk2 r2 (nd d hd)) hM ok⟩
      · refine ⟨_, rfl, _, rfl, _, rfl, _, rfl, _, rfl, a, M, L, E, Pa, Te, Ma, ds, rows, ns, b, paper, tells, marks, rfl, r3, hM, r2.new nL, r2.new nE, ok, l3, fun H' M' L' E' ds' rows' ns' b' r' k' nM' nL' nE' nd' hM' ok' => ?_⟩
        exact k H' M' L' E' ds' rows' ns' b' r' (kk3.trans k') (M0 kk3 r3 nM') (M0 kk3 r3 nL') (M0 kk3 r3 nE') (fun d hd => M0 kk3 r3 (nd' d hd)) hM' ok'
theorem scRng : FnScope ["_law_script", "_law_k", "_law_cell"] ["_law_script", "_law_k"] (defScope sRng) := ⟨rfl, rfl, rfl, by decide +kernel, rfl, by decide +kernel, by decide +kernel⟩
theorem ok_rng {f : Addr} {fd : FuncData} (F : Fun K "_law_rng" "_law_rng" sRng f fd) (zn : mg "len" = none) (zm : mg "max" = none) (za : mg "abs" = none) (zi : mg "int" = none) : FnOk P w K mg base CX0 1 f fd ["_law_script", "_law_k"] (spRng K) := by
  refine F.ok scRng (fun vs H Q E h => ?_) (fun cdv A0 outer s H vs Q E0 hr h => ?_)
  · obtain ⟨S, ns, k, rfl, _⟩ := h
    rfl
  · obtain ⟨S, ns, kk, rfl, hS, h63, k100, k⟩ := h
    refine ⟨_, pss_cons (ps_set (i := 2) scRng.nd rfl (.inl rfl) (pe_op op_add (pe_op op_mul pe_int (pv 1)) pe_int))
      (pss_cons (ps_if (pt_cmpR op_lt (pv 1) (pe_callB call_len_seq (by rfl) zn PySem.boot_len (pa_cons (pv 0) pa_nil)) (nomark _)) (pss_one (ps_set (i := 2) scRng.nd rfl (.inl rfl) (pe_ix ix_list (pv 0) (pv 1) (fun _ _ => rfl)))) pss_nil)
      (pss_one (ps_ret (pe_lst (pa_cons (pe_callB (call_max2 rfl) (by rfl) zm (by decide +kernel) (pa_cons pe_int (pa_cons (pe_op op_sub (pe_callB call_abs (by rfl) za (by decide +kernel) (pa_cons (pv 2) pa_nil)) (pe_op op_pow pe_int pe_int)) pa_nil)))
        (pa_cons (pe_op op_add (pe_op op_mod (pe_op op_mul (pe_callTy call_int1 (by rfl) zi (by decide +kernel) (pa_cons (pe_op op_add (pe_op op_mod (pe_callTy call_int1 (by rfl) zi (by decide +kernel) (pa_cons (pe_callB call_abs (by rfl) za (by decide +kernel) (pa_cons (pv 2) pa_nil)) pa_nil)) pe_int) pe_int) pa_nil))
          (pe_op op_pow (pe_op op_add (pe_op op_mul pe_int (pv 1)) pe_int) pe_int)) pe_int) pe_int) pa_nil)))))), ?_⟩
    have fin : ∀ c : Int, ∃ x y : Int, (0 ≤ (if (if c < 0 then -c else c) - 10 ^ (18 : Int).toNat > 0 then (if c < 0 then -c else c) - 10 ^ (18 : Int).toNat else 0)) ∧ (0 ≤ ((if c < 0 then -c else c) % 2147483549 + 1) * (2 * (kk : Int) + 3) ^ (3 : Int).toNat % 2147483543 + 1 ∧ ((if c < 0 then -c else c) % 2147483549 + 1) * (2 * (kk : Int) + 3) ^ (3 : Int).toNat % 2147483543 + 1 < 2147483648) ∧
        (0 ≤ (if c < 0 then -c else c) % 2147483549 ∧ (if c < 0 then -c else c) % 2147483549 < 2147483549) := fun c => by
      refine ⟨0, 0, ?_, ?_, Int.emod_nonneg _ (by decide), Int.emod_lt_of_pos _ (by decide)⟩
      · split <;> omega
      · have h1 := Int.emod_nonneg (((if c < 0 then -c else c) % 2147483549 + 1) * (2 * (kk : Int) + 3) ^ (3 : Int).toNat) (show (2147483543 : Int) ≠ 0 by decide)
        have h2 := Int.emod_lt_of_pos (((if c < 0 then -c else c) % 2147483549 + 1) * (2 * (kk : Int) + 3) ^ (3 : Int).toNat) (show (0 : Int) < 2147483543 by decide)
        omega
    refine ⟨_, rfl, _, _, rfl, rfl, .inl ⟨by decide, by decide⟩, _, _, rfl, rfl, ?_⟩
    refine ⟨_, rfl, _, rfl, S, _, rfl, .inl hS, _, _, rfl, rfl, _, rfl, ?_⟩
    refine ite2 (fun c => ?_) (fun c => ?_)
    · have c := of_decide_eq_true c
      rw [List.length_map] at c
      have hk : kk < ns.length := by omega
      refine ⟨_, rfl, _, rfl, S, _, _, .int ns[kk], rfl, rfl, hS, atI_nat (by rw [List.getElem?_map, List.getElem?_eq_getElem hk]; rfl), ?_⟩
      obtain ⟨_, _, f1, f2, f3⟩ := fin ns[kk]
      refine ⟨_, rfl, _, rfl, _, _, rfl, rfl, ⟨by decide, by decide, by decide⟩, _, _, rfl, rfl, _, _, rfl, _, rfl, _, rfl, .inl ⟨_, rfl, _, _, rfl, rfl, (by show (0 : Int) < 2147483549; decide), _, _, rfl, rfl, .inl ⟨_, rfl, _, rfl, _, _, rfl, rfl, .inl ⟨by decide, by decide⟩, _, _, rfl, rfl, _, _, rfl, rfl, ⟨by decide, by decide, ?_⟩, _, _, rfl, rfl, .inl ⟨by omega, by omega⟩, _, _, rfl, rfl, (by show (0 : Int) < 2147483543; decide), _, _, rfl, rfl, by show 2 ≤ sizeLine; decide, fun p np => k _ p (Ext.new np) np ⟨_, _, upd_same, f1, f2.1, f2.2⟩⟩⟩⟩
      show (2 * (kk : Int) + 3).natAbs < 2 ^ 64
      omega
    · obtain ⟨_, _, f1, f2, f3⟩ := fin (11 * kk + 5)
      refine ⟨_, rfl, _, rfl, _, _, rfl, rfl, ⟨by decide, by decide, by decide⟩, _, _, rfl, rfl, _, _, rfl, _, rfl, _, rfl, .inl ⟨_, rfl, _, _, rfl, rfl, (by show (0 : Int) < 2147483549; decide), _, _, rfl, rfl, .inl ⟨_, rfl, _, rfl, _, _, rfl, rfl, .inl ⟨by decide, by decide⟩, _, _, rfl, rfl, _, _, rfl, rfl, ⟨by decide, by decide, ?_⟩, _, _, rfl, rfl, .inl ⟨by omega, by omega⟩, _, _, rfl, rfl, (by show (0 : Int) < 2147483543; decide), _, _, rfl, rfl, by show 2 ≤ sizeLine; decide, fun p np => k _ p (Ext.new np) np ⟨_, _, upd_same, f1, f2.1, f2.2⟩⟩⟩⟩
      show (2 * (kk : Int) + 3).natAbs < 2 ^ 64
      omega
end
end Sl
/-! ## P21 -/
set_option Elab.async false
set_option linter.all false
set_option maxRecDepth 100000
set_option maxHeartbeats 4000000
namespace Sl
open PySem PySem.Spec PyProof.Rows L2 TxS
abbrev rStrCat : R2 := fun x y H Q => ∃ i j, x = .str i ∧ y = .str j ∧ i.length + j.length ≤ sizeLine ∧ Q (.str (i ++ j)) H
section
variable {P : Program} {w : World} {K : PySem.W.Frag} {mg : Str → Option Value} {base : Heap}
theorem scTexts : FnScope ["_law_abc", "_law_cap", "_law_found", "_law_latest", "_law_turn", "_law_longer", "_law_note", "_law_letter"] ["_law_abc", "_law_cap"] (defScope sTexts) := ⟨rfl, rfl, rfl, by decide +kernel, rfl, by decide +kernel, by decide +kernel⟩
theorem ok_texts {f : Addr} {fd : FuncData} (F : Fun K "_law_texts" "_law_texts" sTexts f fd) (zr : mg "range" = none) : FnOk P w K mg base CX0 1 f fd ["_law_abc", "_law_cap"] spTexts := by
  refine F.ok scTexts (fun vs H Q E h => ?_) (fun cdv A0 outer s H vs Q E0 hr h => ?_)
  · obtain ⟨A, abc, rfl, _⟩ := h
    rfl
  · obtain ⟨A, abc, rfl, hA, la, ha, k⟩ := h
    refine ⟨_, pss_cons (ps_par (i := 2) (j := 3) (by rfl) scTexts.nd rfl rfl (by decide) rfl rfl (pa_cons (pe_lst (pa_cons pe_str pa_nil)) (pa_cons (pe_lst (pa_cons pe_str pa_nil)) pa_nil)) (by rfl))
      (pss_cons (ps_for PassesOwn.never rfl (pi_range1 rfl zr (pa_cons (pv 1) pa_nil)) (pg_name (i := 4) scTexts.nd rfl (.inl rfl))
        (pss_cons (ps_set (i := 5) scTexts.nd rfl (.inl rfl) (pe_lst pa_nil))
        (pss_cons (ps_for PassesOwn.never rfl (pi_list (pv 3)) (pg_name (i := 6) scTexts.nd rfl (.inr rfl))
          (pss_one (ps_set (i := 5) scTexts.nd rfl (.inl rfl) (pe_op op_cat (pv 5) (pe_lc (own := [("_law_letter", 7)]) (g := gName 7) (tt := tYes) (te := tOp rStrCat (tVar 6) (tVar 7)) rfl scTexts.nd (pi_list (pv 0)) (blkOk_by (N := ["_law_abc", "_law_cap", "_law_found", "_law_latest", "_law_turn", "_law_longer", "_law_note", "_law_letter"]) (sc := defScope sTexts) (by decide +kernel))
            (fun _ _ _ _ _ => pg_name (i := 7) scTexts.nd rfl (Or.inl rfl)) (fun _ _ _ _ _ => pts_nil) (fun _ _ _ _ _ => pe_op op_add_str (pv 6) (pv 7)))))))
        (pss_cons (ps_set (i := 3) scTexts.nd rfl (.inl rfl) (pv 5))
        (pss_one (ps_set (i := 2) scTexts.nd rfl (.inl rfl) (pe_op op_cat (pv 2) (pv 3))))))))
      (pss_one (ps_ret (pv 2)))), ?_⟩
    refine ⟨by show 1 ≤ sizeLine; decide, fun F0 nF => ⟨by show 1 ≤ sizeLine; decide, fun L0 nL => ⟨_, _, rfl, ?_⟩⟩⟩
    have x0 : Ext H (upd (upd H F0 (.lst [.str ""])) L0 (.lst [.str ""])) := (Ext.new nF).trans (Ext.new nL)
    have w0 : wordsL 0 [("" : Str)] := fun z hz => by rw [List.mem_singleton.mp hz]; exact ⟨rfl, Nat.le_refl _⟩
    refine ⟨_, rfl, 3, rfl, by decide, by decide, ?_⟩
    refine for_it (walk_range (lo := 0) (n := 3)) (fun i σ H' => ∃ (Fa La : Addr) (fl ll : List Str) (v4 v5 v6 : Option V), σ = [some (.ref A), some (.int 3), some (.ref Fa), some (.ref La), v4, v5, v6, none] ∧ Ext H H' ∧ H Fa = none ∧ H' Fa = some (.lst (fl.map V.str)) ∧ H' La = some (.lst (ll.map V.str)) ∧ wordsL i ll ∧ wordsL i fl ∧ ll.length = 3 ^ i ∧ fl.length + 3 ^ i ≤ 3 ^ (i + 1))
      ⟨F0, L0, [""], [""], none, none, none, rfl, x0, nF, (Ext.new nL) _ _ upd_same, upd_same, w0, w0, rfl, by decide⟩ (fun _ _ _ _ _ => trivial) ?_ ?_
    · rintro i x σ H1' H1 hi ⟨Fa, La, fl, ll, v4, v5, v6, rfl, x1, nF1, f1, l1, wl, wf, ln, fn⟩ ⟨rfl, rfl⟩
      have p3 : 3 ^ i ≤ 9 := by
        have : i = 0 ∨ i = 1 ∨ i = 2 := by omega
        rcases this with rfl | rfl | rfl <;> decide
      have p4 : 3 ^ (i + 1) = 3 * 3 ^ i := by rw [Nat.pow_succ]; omega
      have p5 : 3 ^ (i + 1 + 1) = 9 * 3 ^ i := by rw [Nat.pow_succ, p4]; omega
      refine ⟨Nat.zero_le _, fun G0 nG => ?_⟩
      have g1 := (Ext.new nG (o := .lst [])) _ _ l1
      refine ⟨_, rfl, La, rfl, ⟨_, SqL.of g1⟩, ?_⟩
      refine for_it (walk_list (xs := ll.map V.str)) (fun j σ H' => ∃ (Ga : Addr) (gl : List Str) (v6 : Option V), σ = [some (.ref A), some (.int 3), some (.ref Fa), some (.ref La), some (.int (0 + (i : Nat))), some (.ref Ga), v6, none] ∧ Ext H1 H' ∧ H' Ga = some (.lst (gl.map V.str)) ∧ wordsL (i + 1) gl ∧ gl.length = 3 * j)
        ⟨G0, [], v6, rfl, Ext.new nG, upd_same, (fun z h => nomatch h), rfl⟩ (fun j σ H' _ ⟨_, _, _, _, xx, _⟩ => SqL.of (xx _ _ l1)) ?_ ?_
      · rintro j x σ H2' H2 hj ⟨Ga, gl, v6, rfl, x2, g2, wg, lg⟩ ⟨rfl, hx⟩
        obtain ⟨note, hn, rfl⟩ := at_map hx
        obtain ⟨wn, nl⟩ := wl note (List.mem_of_getElem? hn)
        have hjl : j < ll.length := (List.getElem?_eq_some_iff.mp hn).1
        refine ⟨_, rfl, _, rfl, A, rfl, ⟨_, SqL.of (x2 _ _ (x1 _ _ hA))⟩, fun D nD => ?_⟩
        refine lc_it (walk_list (xs := abc.map V.str)) (fun m H' => Ext H2 H' ∧ ∃ dl : List Str, H' D = some (.lst (dl.map V.str)) ∧ wordsL (i + 1) dl ∧ dl.length = m) ⟨Ext.new nD, [], upd_same, (fun z h => nomatch h), rfl⟩ (fun m H' _ h => SqL.of (h.1 _ _ (x2 _ _ (x1 _ _ hA)))) ?_ ?_
        · rintro m x H3' H3 hm ⟨x3, dl, d3, wd, ld⟩ ⟨rfl, hx⟩
          obtain ⟨y, hy, rfl⟩ := at_map hx
          obtain ⟨wy, ly⟩ := abc_word (ha y (List.mem_of_getElem? hy))
          obtain ⟨wz, lz⟩ := word_append wn wy
          refine ⟨rfl, _, rfl, _, rfl, note, y, rfl, rfl, small_size (by omega), _, d3, by rw [List.length_map]; exact small_list (by rw [List.length_map] at hm; omega), fun b o e => by rw [upd_ne (ne_of_none e nD)]; exact x3 _ _ e, dl ++ [note ++ y], by rw [upd_same, List.map_append]; rfl, fun z hz => ?_, by rw [List.length_append, ld]; rfl⟩
          rcases List.mem_append.mp hz with c | c
          · exact wd z c
          · rw [List.mem_singleton.mp c]
            exact ⟨wz, by omega⟩
        · rintro H3 ⟨x3, dl, d3, wd, ld⟩
          rw [List.length_map, la] at ld
          refine ⟨Ga, D, _, _, rfl, rfl, x3 _ _ g2, d3, by rw [List.length_map, List.length_map]; exact small_size (by omega), fun G2 nG2 => ?_⟩
          refine ⟨G2, gl ++ dl, _, rfl, x2.trans (x3.trans (Ext.new nG2)), by rw [upd_same, List.map_append], fun z hz => ?_, by rw [List.length_append]; omega⟩
          rcases List.mem_append.mp hz with c | c
          · exact wg z c
          · exact wd z c
      · rintro σ H2 ⟨Ga, gl, v6', rfl, x2, g2, wg, lg⟩
        rw [List.length_map, ln] at lg
        refine ⟨_, rfl, _, rfl, _, rfl, Fa, Ga, _, _, rfl, rfl, x2 _ _ f1, g2, by rw [List.length_map, List.length_map]; exact small_size (by omega), fun F2 nF2 => ?_⟩
        refine ⟨F2, Ga, fl ++ gl, gl, _, _, _, rfl, x1.trans (x2.trans (Ext.new nF2)), (x1.trans x2).free nF2, by rw [upd_same, List.map_append], (Ext.new nF2) _ _ g2, wg, fun z hz => ?_, by rw [lg, p4], by rw [List.length_append, p5, p4]; omega⟩
        rcases List.mem_append.mp hz with c | c
        · have := wf z c
          exact ⟨this.1, by omega⟩
        · exact wg z c
    · rintro σ H1 ⟨Fa, La, fl, ll, v4, v5, v6, rfl, x1, nF1, f1, l1, wl, wf, ln, fn⟩
      have e1 : (3 : Nat) ^ 3 = 27 := rfl
      have e2 : (3 : Nat) ^ (3 + 1) = 81 := rfl
      exact ⟨_, rfl, k H1 Fa fl x1 nF1 f1 wf (by omega)⟩
end
end Sl
/-! ## Q1 -/
set_option Elab.async false
set_option linter.all false
set_option maxRecDepth 100000
set_option maxHeartbeats 4000000
namespace Sl
open PySem PySem.Spec PyProof.Rows L2
/-! ### each place and sign of a text, in new pairs -/
def Itn (z : Str) : It :=
  ⟨fun i _ => i < z.cps.size, fun i H v H' => ∃ T c, v = .ref T ∧ H T = none ∧ H' = upd H T (.tup [.int (i : Nat), .str ⟨#[c]⟩]) ∧ z.cps[i]? = some c, fun i _ => z.cps.size ≤ i⟩
theorem itn_turn {P : Program} {w : World} {K : PySem.W.Frag} {elts : List Expr} {kk : Nat} {tpos : Pos} (x : Str) (t : Tok) (e it : Addr) :
    Turn P w K (.Tuple elts kk tpos) (Itn x) [e, it] e (fun i h => (∃ old, IsEnum h e it ((i : Nat) : Int) old) ∧ h.IsStrIter it (strIterType x) x t i ∧ e ≠ it) where
  mem := by simp
  obj := fun i h st b hb => by
    obtain ⟨⟨old, he⟩, ⟨o, ho, hc, hd⟩, _⟩ := st
    have e' : b = e ∨ b = it := by simpa using hb
    rcases e' with z | z
    · rw [z]; exact ⟨_, he, fun v q => nomatch q⟩
    · rw [z]; exact ⟨o, ho, fun v q => by rw [hd] at q; cases q⟩
  keep := fun i h h' st k => by
    obtain ⟨⟨old, he⟩, ⟨o, ho, hr⟩, hne⟩ := st
    exact ⟨⟨old, k e (by simp) _ he⟩, ⟨o, k it (by simp) _ ho, hr⟩, hne⟩
  item := by
    intro X hP hw hK hc i pins s σ H E I hf st hg
    subst hP hw hK
    obtain ⟨⟨old, he⟩, hit, hne⟩ := st
    have hel : e < s.heap.objs.size := Heap.lt_size he
    have hil : it < s.heap.objs.size := by obtain ⟨_, q, _⟩ := hit; exact Heap.lt_size q
    have hh : X.A.in1.handled = none := I.ok.hd hc
    have D : Draws X.prog X.w X.A.in1 it [it] x.cps.size (fun i v => ∃ c u, x.cps[i]? = some c ∧ v = .str ⟨#[c]⟩ u) (fun i h => h.IsStrIter it (strIterType x) x t i) := by
      by_cases q : strIterType x = "str_ascii_iterator"
      · rw [q]; exact Draws.strAscii hh it x t
      · have q2 : strIterType x = "str_iterator" := by
          unfold strIterType at q ⊢
          split at q
          · exact absurd rfl q
          · rename_i h0; rw [if_neg h0]
        rw [q2]; exact Draws.strWide hh it x t
    refine wpAny_pyNext_enum_itemD D he hit hg hne (by simpa using hne) fun u h' tk hP ho hit' hT hsz hk => ?_
    obtain ⟨c, ut, hcx, rfl⟩ := hP
    refine ⟨_, rfl, wpAny_letOwnedTupleGo_enum (s := { s with heap := h', toks := tk + 1 }) ho fun h'' he' sb => ?_⟩
    have hT2 : h''.get? s.heap.objs.size = some { cls := .type "tuple", data := .seq #[.int i tk, .str ⟨#[c]⟩ ut] } := (sb.2 _ (Nat.ne_of_gt hel)).trans hT
    have new : ObjOk X.prog X.w (upd H s.heap.objs.size (.tup [.int (i : Nat), .str ⟨#[c]⟩])) h'' s.heap.objs.size (.tup [.int (i : Nat), .str ⟨#[c]⟩]) :=
      ⟨by show 2 ≤ sizeLine; decide, [.int i tk, .str ⟨#[c]⟩ ut], .cons ⟨_, rfl⟩ (.cons ⟨_, rfl⟩ .nil), ⟨_, hT2, rfl, _, rfl⟩⟩
    have I1 : Inv X pins σ (upd H s.heap.objs.size (.tup [.int (i : Nat), .str ⟨#[c]⟩])) { s with heap := h'', toks := tk + 1 } :=
      I.turnedNew (ch := [e, it]) (fun b ob hb q => (sb.2 b (fun z => hb (by simp [z]))).trans (hk b ob (fun z => hb (by simp [z])) (fun z => hb (by simp [z])) q)) hf (Nat.le_refl _) new
    refine ⟨.ref s.heap.objs.size, _, I1, rfl, ⟨_, c, rfl, I.hok.fresh (Nat.le_refl _), rfl, hcx⟩, ⟨⟨.str ⟨#[c]⟩ ut, ?_⟩, ?_, hne⟩, fun b hb => ?_⟩
    · have e1 : ((i + 1 : Nat) : Int) = (i : Int) + 1 := by omega
      rw [e1]; exact he'
    · obtain ⟨o, ho', hr⟩ := hit'
      exact ⟨o, (sb.2 it (Ne.symm hne)).trans ho', hr⟩
    · have hb' : b < s.heap.objs.size := by
        have e' : b = e ∨ b = it := by simpa using hb
        rcases e' with z | z
        · rw [z]; exact hel
        · rw [z]; exact hil
      rw [upd_ne (Nat.ne_of_lt hb')]
      exact (hf b hb).1
  done := by
    intro X hP hw hK hc i pins s σ H E I hf st hg
    subst hP hw hK
    obtain ⟨⟨old, he⟩, hit, hne⟩ := st
    obtain ⟨f0, f1, f2, f3, f4, f5⟩ := hf it (by simp)
    have hh : X.A.in1.in1.handled = none := I.ok.hd hc
    have hx : x.cps[i]? = none := Array.getElem?_eq_none hg
    have hT : s.TypeIs (.ref e) "enumerate" := ⟨_, he, rfl⟩
    have fin : ∀ h', Heap.ExtBut it s.heap h' → (none : Option Value) = none ∧ Inv X pins σ H { s with heap := h' } := fun h' eb => ⟨rfl, I.turned (t' := s.toks) (fun b o hb q => eb b o hb q) f0 f1 f3 f4 f5⟩
    unfold pyNext
    refine wpAny_bind (wpAny_attempt (wpAny_callSpecial?_slot (name := Str.ofString "__next__") hT F.slot_enumerate_next
      (wpAny_call_entry F.slot_enumerate_next hT F.entry_enumerate_next ?_ (F.args_enumerate_next_1 _))))
    show wpAny _ _ (field (.ref e) 2 >>= _) _ _ _
    refine wpAny_bind (wpAny_field he rfl (x := .ref it) rfl ?_)
    have nx : ∀ (E2 : Value → Shared → Prop) (Q2 : Value → Shared → Prop), (∀ h' e, Heap.ExtBut it s.heap h' → (∃ o, h'.get? e = some o ∧ o.cls = .type "StopIteration") → E2 (.ref e) { s with heap := h' }) →
        wpAny (model X.prog X.w) X.A.in1 (Builtin.SmallTypes.nextOf (.ref it)) Q2 E2 s := by
      intro E2 Q2 hE
      by_cases q : strIterType x = "str_ascii_iterator"
      · rw [q] at hit; exact wpAny_nextOf_ascii_end hh hit hx hE
      · have q2 : strIterType x = "str_iterator" := by
          unfold strIterType at q ⊢
          split at q
          · exact absurd rfl q
          · rename_i h0; rw [if_neg h0]
        rw [q2] at hit; exact wpAny_nextOf_wide_end hh hit hx hE
    refine wpAny_bind (nx _ _ fun h' x he' hx' => ?_)
    obtain ⟨o, ho, hc⟩ := hx'
    refine wpAny_bind (wpAny_isInstance (T := "StopIteration") (b := true) ⟨o, ho, hc⟩ isSubtype_stop ?_)
    exact wpAny_pure (fin _ he')
  self := fun A i s Q E st h => let ⟨⟨_, he⟩, _⟩ := st; wpAny_pyIter_enum he h
def iEnumS (ta : TA) : TI := fun σ H R => ta σ H fun vs H1 => ∃ z : Str, vs = [.str z] ∧ R (Itn z) H1
theorem pi_enumStr {X : Cx} {e : Expr} {ta : TA} {p pos tpos : Pos} {elts : List Expr} {kk : Nat} (hg : Gl X "enumerate") (hm : X.mg "enumerate" = none) (ha : PA X [e] ta) (hs : starEach [e] X.env = [(false, eval e X.env)] := by rfl) :
    PI X (.Tuple elts kk tpos) (.Call (.Name "enumerate" p) [e] [] pos) (iEnumS ta) := by
  refine ⟨fun pins s σ H R I h => ?_⟩
  refine Call_ (ld_blt I hg hm boot_enumerate (PyProof.Rows.callWith_type1 (thn (ha.run pos pins s σ H _ I h) fun us s1 ⟨vs, H1, I1, r1, q1⟩ => ?_) hs rfl))
  obtain ⟨z, ex, q⟩ := q1
  subst ex
  cases r1 with
  | cons r rr =>
    cases rr
    obtain ⟨t, rfl⟩ := r
    refine call_enumerate_str fun h' he hit hsz hk => wpAny_pyIter_enum he ?_
    have I2 : Inv X pins σ H1 { s1 with heap := h' } := I1.kept (t' := s1.toks) hk
    refine ⟨s1.heap.objs.size + 1, [s1.heap.objs.size + 1, s1.heap.objs.size], _, _, H1, rfl, I2, itn_turn z t (s1.heap.objs.size + 1) s1.heap.objs.size, ⟨⟨.none, he⟩, hit, Nat.succ_ne_self _⟩, fun b hb => ?_, q⟩
    have e' : b = s1.heap.objs.size + 1 ∨ b = s1.heap.objs.size := by simpa using hb
    have hle : s1.heap.objs.size ≤ b := by
      rcases e' with z | z
      · rw [z]; exact Nat.le_add_right _ _
      · rw [z]; exact Nat.le_refl _
    exact I1.fpOk hle (I1.hok.fresh hle)
theorem walk_enumStr {z : Str} : Walk (Itn z) z.cps.size (fun _ => True) (fun i H v H' => ∃ T c, v = .ref T ∧ H T = none ∧ H' = upd H T (.tup [.int (i : Nat), .str ⟨#[c]⟩]) ∧ z.cps[i]? = some c) :=
  ⟨fun _ _ hi _ => hi, fun _ _ => Nat.le_refl _, fun _ _ _ _ _ _ y => y⟩
end Sl
/-! ## P22 -/
set_option Elab.async false
set_option linter.all false
set_option maxRecDepth 100000
set_option maxHeartbeats 4000000
namespace Sl
open PySem PySem.Spec PyProof.Rows L2
abbrev sDue : Stmt := top 43
/-- what is due for a page -/
def DueAt (H : Hp) (R : Addr) (rows : List Rw) (ns : List Int) (b : Int) (z : Str) : Prop :=
  if (walkL rows b (signsOf z)).length = z.length ∧ lastOf b (walkL rows b (signsOf z)) ∈ ns then ∃ T, H R = some (.lst [.str "told", .ref T]) ∧ H T = some (.tup ((toldOf (walkL rows b (signsOf z))).map V.str))
  else H R = some (.lst [.str "unreadable", .int (walkL rows b (signsOf z)).length])
def spDue : Sp := fun vs H Q _ => ∃ (M L E : Addr) (ds : List Addr) (rows : List Rw) (ns : List Int) (b n : Int) (z : Str), vs = [.ref M, .str z] ∧ ModelAt H M L E ds rows ns b ∧ okRows n rows ∧ 0 ≤ b ∧ b < n ∧ z.length ≤ 10000 ∧
  ∀ (H' : Hp) (R : Addr), Ext H H' → H R = none → DueAt H' R rows ns b z → Q (.ref R) H'
theorem ModelAt.ext {H H' : Hp} {M L E : Addr} {ds : List Addr} {rows : List Rw} {ns : List Int} {b : Int} (m : ModelAt H M L E ds rows ns b) (x : Ext H H') : ModelAt H' M L E ds rows ns b :=
  ⟨x _ _ m.h1, x _ _ m.h2, m.h3.ext x, m.h4, x _ _ m.h5⟩
theorem signs_drop {z : Str} {i c : Nat} (hc : z.cps[i]? = some c) : (signsOf z).drop i = (⟨#[c]⟩ : Str) :: (signsOf z).drop (i + 1) := by
  have e1 : (signsOf z)[i]? = some (⟨#[c]⟩ : Str) := by
    unfold signsOf
    rw [List.getElem?_map, Array.getElem?_toList, hc]
    rfl
  obtain ⟨h1, h2⟩ := List.getElem?_eq_some_iff.mp e1
  rw [List.drop_eq_getElem_cons h1, h2]
theorem lastOf_snoc (b : Int) (ms : List Mv) (m : Mv) : lastOf b (ms ++ [m]) = m.1 := by
  unfold lastOf
  rw [List.getLast?_append]
  rfl
theorem toldOf_snoc (ms : List Mv) (m : Mv) : toldOf (ms ++ [m]) = toldOf ms ++ m.2.toList := by
  unfold toldOf
  rw [List.filterMap_append]
  obtain ⟨mg, mo⟩ := m
  cases mo <;> rfl
theorem inV_ints {z : Int} : ∀ {l : List Int}, inV (.int z) (l.map V.int) = decide (z ∈ l)
  | [] => rfl
  | y :: l => by
    have ih := inV_ints (z := z) (l := l)
    unfold inV at ih ⊢
    rw [List.map_cons, List.any_cons, ih]
    have e : eqV (.int y) (.int z) = decide (z = y) := by
      show (y == z) = _
      by_cases c : y = z
      · rw [c]
        simp
      · rw [decide_eq_false (fun k => c k.symm)]
        exact beq_eq_false_iff_ne.mpr c
    rw [e]
    by_cases c : z = y
    · simp [c]
    · simp [c]
theorem flat_ints : ∀ (l : List Int), (l.map V.int).all flatV = true
  | [] => rfl
  | _ :: l => flat_ints l
theorem toldOf_len (ms : List Mv) : (toldOf ms).length ≤ ms.length := List.length_filterMap_le _ _
section
variable {P : Program} {w : World} {K : PySem.W.Frag} {mg : Str → Option Value} {base : Heap}
theorem scDue : FnScope ["_law_model", "_law_paper", "_law_spot", "_law_told", "_law_at", "_law_letter", "_law_thing"] ["_law_model", "_law_paper"] (defScope sDue) := ⟨rfl, rfl, rfl, by decide +kernel, rfl, by decide +kernel, by decide +kernel⟩
theorem ok_due {f : Addr} {fd : FuncData} (F : Fun K "_law_due" "_law_due" sDue f fd) (ze : mg "enumerate" = none) (zt : mg "tuple" = none) (zn : mg "len" = none) : FnOk P w K mg base CX0 2 f fd ["_law_model", "_law_paper"] spDue := by
  refine F.ok scDue (fun vs H Q E h => ?_) (fun cdv A0 outer s H vs Q E0 hr h => ?_)
  · obtain ⟨M, L, E, ds, rows, ns, b, n, z, rfl, _⟩ := h
    rfl
  · obtain ⟨M, L, E, ds, rows, ns, b, n, z, rfl, MA, ok, b0, bn, hz, k⟩ := h
    refine ⟨_, pss_cons (ps_par (i := 2) (j := 3) (by rfl) scDue.nd rfl rfl (by decide) rfl rfl (pa_cons (pe_ix ix_tup (pv 0) pe_int (fun _ _ => rfl)) (pa_cons (pe_lst pa_nil) pa_nil)) (by rfl))
      (pss_cons (ps_for PassesOwn.never rfl (pi_enumStr (by rfl) ze (pa_cons (pv 1) pa_nil)) (pg_tup rfl (pgs_cons (pg_name (i := 4) scDue.nd rfl (.inl rfl)) (pgs_cons (pg_name (i := 5) scDue.nd rfl (.inl rfl)) pgs_nil)))
        (pss_cons (ps_if (pt_cmp (pc_dnotin (hu_of hr) (pv 5) (pe_ix ix_list (pe_ix ix_tup (pv 0) pe_int (fun _ _ => rfl)) (pv 2) (fun _ _ => rfl))) (by rfl)) (pss_one (ps_ret (pe_lst (pa_cons pe_str (pa_cons (pv 4) pa_nil))))) pss_nil)
        (pss_cons (ps_asg (pe_dget (hu_of hr) (pe_ix ix_list (pe_ix ix_tup (pv 0) pe_int (fun _ _ => rfl)) (pv 2) (fun _ _ => rfl)) (pv 5) (fun _ _ => rfl)) (pg_tup rfl (pgs_cons (pg_name (i := 2) scDue.nd rfl (.inl rfl)) (pgs_cons (pg_name (i := 6) scDue.nd rfl (.inl rfl)) pgs_nil))))
        (pss_one (ps_if (pt_cmpR op_notN (pv 6) pe_non (nomark _)) (pss_one (ps_expr (pe_bm PySem.F.plainAttrs_list PySem.F.slot_list_append PySem.F.type_list_append mt_append (pv 3) (pa_cons (pv 6) pa_nil)))) pss_nil)))))
      (pss_one (ps_ret (pe_ifExp (pt_cmpR op_in_seq (pv 2) (pe_ix ix_tup (pv 0) pe_int (fun _ _ => rfl)) (by rfl)) (pe_lst (pa_cons pe_str (pa_cons (pe_callTy call_tuple_of (by rfl) zt (by decide +kernel) (pa_cons (pv 3) pa_nil)) pa_nil)))
        (pe_lst (pa_cons pe_str (pa_cons (pe_callB call_len_str (by rfl) zn PySem.boot_len (pa_cons (pv 1) pa_nil)) pa_nil))))))), ?_⟩
    refine ⟨_, rfl, M, _, 2, .int b, rfl, rfl, SqT.of MA.h1, rfl, Nat.zero_le _, fun T0 nT0 => ⟨_, _, rfl, ?_⟩⟩
    refine ⟨_, rfl, z, rfl, ?_⟩
    have hz' : z.cps.size ≤ 10000 := hz
    refine for_it walk_enumStr (fun i σ H' => ∃ (qi : Int) (ms : List Mv) (v4 v5 v6 : Option V), σ = [some (.ref M), some (.str z), some (.int qi), some (.ref T0), v4, v5, v6] ∧ Ext H H' ∧ H' T0 = some (.lst ((toldOf ms).map V.str)) ∧ ms.length = i ∧ 0 ≤ qi ∧ qi < n ∧
      walkL rows b (signsOf z) = ms ++ walkL rows qi ((signsOf z).drop i) ∧ lastOf b ms = qi) ⟨b, [], none, none, none, rfl, Ext.new nT0, upd_same, rfl, b0, bn, rfl, rfl⟩ (fun _ _ _ _ _ => trivial) ?_ ?_
    · rintro i x σ H1 H2 hi ⟨qi, ms, v4, v5, v6, rfl, x1, l1, li, c0, cn, ew, el⟩ ⟨T, c, rfl, nT, rfl, hc⟩
      rw [signs_drop hc] at ew
      have x2 : Ext H (upd H1 T (.tup [.int (i : Nat), .str ⟨#[c]⟩])) := x1.trans (Ext.new nT)
      have MA2 := MA.ext x2
      have lT := (Ext.new nT (o := .tup [.int (i : Nat), .str ⟨#[c]⟩])) _ _ l1
      obtain ⟨j, ej⟩ : ∃ j : Nat, qi = (j : Int) := ⟨qi.toNat, by omega⟩
      subst ej
      have hq : j < rows.length := by have := ok.1; omega
      have hqd : j < ds.length := by rw [MA.h3.len]; exact hq
      obtain ⟨r, hr1, es, hd, he⟩ := MA2.h3.at_ (i := j) (d := ds[j]) (List.getElem?_eq_getElem hqd)
      have hat : atI (ds.map V.ref) (j : Int) = some (.ref ds[j]) := atI_nat (by rw [List.getElem?_map, List.getElem?_eq_getElem hqd]; rfl)
      have nd := (ok.2 r (List.mem_of_getElem? hr1)).2
      have emv : mvOf rows (j : Int) (⟨#[c]⟩ : Str) = r.lookup (⟨#[c]⟩ : Str) := by
        unfold mvOf
        rw [Int.toNat_natCast, List.getD_eq_getElem?_getD, hr1]
        rfl
      have ek := he.keys
      refine ⟨T, _, rfl, SqT.of upd_same, rfl, _, _, rfl, _, _, rfl, rfl, ?_⟩
      refine ⟨_, rfl, _, rfl, M, _, 0, .ref L, rfl, rfl, SqT.of MA2.h1, rfl, _, rfl, L, _, _, _, rfl, rfl, SqL.of MA2.h2, hat, ds[j], _, rfl, DGet.k (k := Sum.inr (⟨#[c]⟩ : Str)) hd, ?_⟩
      by_cases cz : (⟨#[c]⟩ : Str) ∈ es.map (·.1)
      · obtain ⟨t, m, m1, m2, m3⟩ := he.mem cz
        have eva := val_at (by rw [ek]; exact nd) m1
        rw [eva]
        have em : mvOf rows (j : Int) (⟨#[c]⟩ : Str) = some m := by rw [emv, lookup_mem nd m2]
        have okm := mvOf_ok ok em
        have m3 : _ = some (HO.tup [.int m.1, toldV m.2]) := m3
        refine ⟨false, rfl, iteF ?_⟩
        refine ⟨_, rfl, M, _, 0, .ref L, rfl, rfl, SqT.of MA2.h1, rfl, _, rfl, L, _, _, _, rfl, rfl, SqL.of MA2.h2, hat, _, rfl, ds[j], _, rfl, (by rw [← eva]; exact DGet.k (k := Sum.inr (⟨#[c]⟩ : Str)) hd), ?_⟩
        refine ⟨t, _, rfl, SqT.of m3, rfl, _, _, rfl, _, _, rfl, rfl, ?_⟩
        rw [walk_some em] at ew
        obtain ⟨mg, mo⟩ := m
        have fin : ∀ H3, Ext H H3 → H3 T0 = some (.lst ((toldOf (ms ++ [(mg, mo)])).map V.str)) → ∃ (qi : Int) (ms : List Mv) (v4 v5 v6 : Option V), [some (V.ref M), some (.str z), some (.int mg), some (.ref T0), some (.int (i : Nat)), some (.str ⟨#[c]⟩), some (toldV mo)] = [some (.ref M), some (.str z), some (.int qi), some (.ref T0), v4, v5, v6] ∧ Ext H H3 ∧ H3 T0 = some (.lst ((toldOf ms).map V.str)) ∧ ms.length = i + 1 ∧ 0 ≤ qi ∧ qi < n ∧
            walkL rows b (signsOf z) = ms ++ walkL rows qi ((signsOf z).drop (i + 1)) ∧ lastOf b ms = qi := fun H3 x3 l3 =>
          ⟨mg, ms ++ [(mg, mo)], _, _, _, rfl, x3, l3, by rw [List.length_append, li]; rfl, okm.1.1, okm.1.2, by rw [ew, List.append_assoc]; rfl, lastOf_snoc _ _ _⟩
        cases mo with
        | none =>
          refine ⟨_, rfl, rfl, false, rfl, ?_⟩
          refine fin _ x2 ?_
          rw [lT, toldOf_snoc]
          show some (HO.lst ((toldOf ms).map V.str)) = some (.lst ((toldOf ms ++ []).map V.str))
          rw [List.append_nil]
        | some s0 =>
          refine ⟨_, rfl, rfl, true, rfl, ?_⟩
          have tl := toldOf_len ms
          refine ⟨_, rfl, .inl ⟨rfl, _, SqL.of lT⟩, _, rfl, T0, _, _, rfl, rfl, lT, by rw [List.length_map]; exact small_list (by omega), ?_⟩
          refine fin _ (fun b' o e => by rw [upd_ne (ne_of_none e nT0)]; exact x2 _ _ e) ?_
          rw [upd_same, toldOf_snoc, List.map_append]
          rfl
      · rw [val_no cz]
        refine ⟨true, rfl, iteT ?_⟩
        have em : mvOf rows (j : Int) (⟨#[c]⟩ : Str) = none := by rw [emv, lookup_no (by rw [← ek]; exact cz)]
        rw [walk_none em, List.append_nil] at ew
        dsimp only [tRet, tLst, tCons, tNil]
        refine ⟨_, rfl, by show 2 ≤ sizeLine; decide, fun R nR => k _ R (x2.trans (Ext.new nR)) (x2.free nR) ?_⟩
        unfold DueAt
        rw [ew, if_neg (by intro h; have := h.1; have hi' : i < z.length := hi; omega), li, upd_same]
    · rintro σ H1 ⟨qi, ms, v4, v5, v6, rfl, x1, l1, li, c0, cn, ew, el⟩
      have e : (signsOf z).drop z.cps.size = [] := List.drop_eq_nil_of_le (by unfold signsOf; rw [List.length_map, Array.length_toList]; exact Nat.le_refl _)
      rw [e] at ew
      have ew : walkL rows b (signsOf z) = ms := by rw [ew]; exact List.append_nil _
      have MA1 := MA.ext x1
      refine ⟨_, rfl, _, rfl, M, _, 1, .ref E, rfl, rfl, SqT.of MA1.h1, rfl, E, _, rfl, .inl (SqL.of MA1.h5), rfl, flat_ints ns, ?_⟩
      rw [if_neg (by decide), inV_ints]
      refine ⟨_, rfl, ?_⟩
      by_cases c : qi ∈ ns
      · rw [decide_eq_true c]
        refine iteT ?_
        dsimp only [tLst, tCons, tNil]
        have tl := toldOf_len ms
        refine ⟨_, rfl, T0, _, rfl, .inl ⟨SqL.of l1, fun T nT => ?_⟩⟩
        refine ⟨by show 2 ≤ sizeLine; decide, fun R nR => k _ R (x1.trans ((Ext.new nT).trans (Ext.new nR))) ((x1.trans (Ext.new nT)).free nR) ?_⟩
        unfold DueAt
        rw [ew, if_pos ⟨li, by rw [el]; exact c⟩]
        exact ⟨T, upd_same, (Ext.new nR) _ _ upd_same⟩
      · rw [decide_eq_false c]
        refine iteF ?_
        dsimp only [tLst, tCons, tNil]
        refine ⟨_, rfl, z, rfl, small_size hz, by show 2 ≤ sizeLine; decide, fun R nR => k _ R (x1.trans (Ext.new nR)) (x1.free nR) ?_⟩
        unfold DueAt
        rw [ew, if_neg (by rw [el]; exact fun h => c h.2), upd_same, li]
        rfl
end
end Sl
/-! ## P23 -/
set_option Elab.async false
set_option linter.all false
set_option maxRecDepth 100000
set_option maxHeartbeats 4000000
namespace Sl
open PySem PySem.Spec PyProof.Rows L2 TxS
abbrev sPages : Stmt := top 45
def spPages : Sp := fun vs H Q _ => ∃ (a A : Addr) (abc : List Str) (o : Str), vs = [.ref a, .ref A, .str o] ∧ Rng H a ∧ H A = some (.lst (abc.map V.str)) ∧ A ≠ a ∧ abc.length = 3 ∧ (∀ z ∈ abc, z ∈ abcL) ∧ o ∈ abcL ∧
  ∀ (H' : Hp) (L : Addr) (l : List Str), Rng H' a → Keep a H H' → H L = none → H' L = some (.lst (l.map V.str)) → wordsL 30 l → l.length ≤ 80 → Q (.ref L) H'
theorem abcL_one {z : Str} (h : z ∈ abcL) : ∃ c, z = ⟨#[c]⟩ ∧ lowC c = true := by
  obtain ⟨c, hc, rfl⟩ := List.mem_map.mp h
  refine ⟨c, rfl, ?_⟩
  have q : (abc.cps.toList.all lowC) = true := by decide +kernel
  exact List.all_eq_true.mp q c hc
theorem strs_dp {K : PySem.W.Frag} {H : Hp} : ∀ (l : List Str), DpAll K H (l.map V.str) (l.map PyData.str)
  | [] => .nil
  | x :: l => .cons (.str x) (strs_dp l)
theorem strs_lay : ∀ (l : List Str), (∀ z ∈ l, PyData.canLay0 (.str z) = true) → PyData.canLayAll0 (l.map PyData.str) = true
  | [], _ => rfl
  | x :: l, h => by
    have h1 := h x List.mem_cons_self
    have h2 := strs_lay l fun z hz => h z (List.mem_cons_of_mem _ hz)
    show (PyData.canLay0 (.str x) && PyData.canLayAll0 (l.map PyData.str)) = true
    rw [h1, h2]
    rfl
theorem strs_depth : ∀ (l : List Str), PyData.depthAll (l.map PyData.str) = 0
  | [] => rfl
  | x :: l => by
    have h := strs_depth l
    simp [PyData.depthAll, PyData.depth, h]
theorem strs_shaped (l : List Str) (h : ∀ z ∈ l, PyData.canLay0 (.str z) = true) : SeqAt.shaped (.list (l.map PyData.str)) = true := by
  simp [SeqAt.shaped, PyData.canLay0, PyData.depth, strs_lay l h, strs_depth]
theorem abcL_ok {z : Str} (h : z ∈ abcL) : PyData.canLay0 (.str z) = true := by
  have q : (abcL.all fun z => PyData.canLay0 (.str z)) = true := by decide +kernel
  exact List.all_eq_true.mp q z h
theorem strs_ne (l : List Str) : (!PyData.eqv (.list (l.map PyData.str)) (.list [])) = !decide (l = []) := by
  cases l with
  | nil => rfl
  | cons x l => rfl
section
variable {P : Program} {w : World} {K : PySem.W.Frag} {mg : Str → Option Value} {base : Heap}
theorem scPages : FnScope ["_law_rng_here", "_law_abc", "_law_other", "_law_found", "_law_turn", "_law_size", "_law_letters_here", "_law_k"] ["_law_rng_here", "_law_abc", "_law_other"] (defScope sPages) := ⟨rfl, rfl, rfl, by decide +kernel, rfl, by decide +kernel, by decide +kernel⟩
theorem ok_pages {f fD fC fT : Addr} {fd fdD fdC fdT : FuncData} (F : Fun K "_law_pages" "_law_pages" sPages f fd) (aD : At K mg "_law_draw" fD fdD ["_law_rng_here", "_law_many"] []) (gD : FnOk P w K mg base CX0 1 fD fdD ["_law_rng_here", "_law_many"] spDraw)
    (aC : At K mg "_law_choice" fC fdC ["_law_rng_here", "_law_some"] []) (gC : FnOk P w K mg base CX0 2 fC fdC ["_law_rng_here", "_law_some"] spChoice)
    (aT : At K mg "_law_texts" fT fdT ["_law_abc", "_law_cap"] []) (gT : FnOk P w K mg base CX0 1 fT fdT ["_law_abc", "_law_cap"] spTexts) (zr : mg "range" = none) (zn : mg "len" = none) :
    FnOk P w K mg base CX0 3 f fd ["_law_rng_here", "_law_abc", "_law_other"] spPages := by
  refine F.ok scPages (fun vs H Q E h => ?_) (fun cdv A0 outer s H vs Q E0 hr h => ?_)
  · obtain ⟨a, A, abc, o, rfl, _⟩ := h
    rfl
  · obtain ⟨a, A, abc, o, rfl, hR, hA, nA, la, ha, ho, k⟩ := h
    have hr1 : Room 1 _ := hr.mono (by decide)
    have hr2 : Room 2 _ := hr.mono (by decide)
    refine ⟨_, pss_cons (ps_set (i := 3) scPages.nd rfl (.inl rfl) (pe_call gT hr1 (by rfl) aT.g aT.kp aT.b .nil pass0 (pa_cons (pv 1) (pa_cons pe_int pa_nil))))
      (pss_cons (ps_for PassesOwn.never rfl (pi_range1 rfl zr (pa_cons pe_int pa_nil)) (pg_name (i := 4) scPages.nd rfl (.inl rfl))
        (pss_cons (ps_set (i := 5) scPages.nd rfl (.inl rfl) (pe_ix ix_list (pe_lst (pa_cons pe_int (pa_cons pe_int (pa_cons pe_int pa_nil)))) (pe_call gD hr1 (by rfl) aD.g aD.kp aD.b .nil pass0 (pa_cons (pv 0) (pa_cons pe_int pa_nil))) (fun _ _ => rfl)))
        (pss_cons (ps_setLc (i := 6) (own := [("_law_k", 7)]) (g := gName 7) (tt := tYes) (te := tCall spChoice [] (fun _ _ _ => False) (tCons (tVar 0) (tCons (tVar 1) tNil))) rfl scPages.nd rfl rfl (sw_true rfl rfl rfl (by decide +kernel)) (pi_range1 rfl zr (pa_cons (pe_call gD hr1 (by rfl) aD.g aD.kp aD.b .nil pass0 (pa_cons (pv 0) (pa_cons (pe_op op_add (pv 5) pe_int) pa_nil))) pa_nil)) (blkOk_by (N := ["_law_rng_here", "_law_abc", "_law_other", "_law_found", "_law_turn", "_law_size", "_law_letters_here", "_law_k"]) (sc := defScope sPages) (by decide +kernel))
            (fun _ _ _ _ _ => pg_name (i := 7) scPages.nd rfl (Or.inl rfl)) (fun _ _ _ _ _ => pts_nil) (fun _ _ _ _ _ => pe_call gC hr2 (by rfl) aC.g aC.kp aC.b .nil pass0 (pa_cons (pv 0) (pa_cons (pv 1) pa_nil))))
        (pss_cons (ps_if (PW.pt (pw_and (pt_cmpR op_eq (pe_call gD hr1 (by rfl) aD.g aD.kp aD.b .nil pass0 (pa_cons (pv 0) (pa_cons pe_int pa_nil))) pe_int (nomark _)) (pw_and1 (pt_cmpR (op_neD hr.units) (pv 6) (pe_lst pa_nil) (by rfl)))))
          (pss_one (ps_asg (pv 2) (pg_sub (pv 6) (pe_call gD hr1 (by rfl) aD.g aD.kp aD.b .nil pass0 (pa_cons (pv 0) (pa_cons (pe_callB call_len_seq (by rfl) zn PySem.boot_len (pa_cons (pv 6) pa_nil)) pa_nil))) set_list))) pss_nil)
        (pss_one (ps_expr (pe_bm PySem.F.plainAttrs_list PySem.F.slot_list_append PySem.F.type_list_append mt_append (pv 3) (pa_cons (pe_join pe_str (pv 6)) pa_nil))))))))
      (pss_one (ps_ret (pv 3)))), ?_⟩
    refine ⟨_, rfl, A, abc, rfl, hA, la, ha, fun H0 L l0 x0 nL l0h w0 n0 => ?_⟩
    have nLa : L ≠ a := hR.new nL
    refine ⟨20, rfl, by decide, by decide, ?_⟩
    refine for_it (walk_range (lo := 0) (n := 20)) (fun i σ H' => ∃ (l : List Str) (v4 v5 v6 : Option V), σ = [some (.ref a), some (.ref A), some (.str o), some (.ref L), v4, v5, v6, none] ∧ Rng H' a ∧ Keep a H H' ∧ H' L = some (.lst (l.map V.str)) ∧ wordsL 30 l ∧ l.length ≤ 60 + i)
      ⟨l0, none, none, none, rfl, hR.ext x0, Keep.of x0, l0h, fun z hz => ⟨(w0 z hz).1, Nat.le_trans (w0 z hz).2 (by decide)⟩, by omega⟩ (fun _ _ _ _ _ => trivial) ?_ ?_
    · rintro i x σ H1' H1 hi ⟨l, v4, v5, v6, rfl, r1, k1, l1, w1, n1⟩ ⟨rfl, rfl⟩
      -- _law_size
      refine ⟨by show 3 ≤ sizeLine; decide, fun l5 nl5 => ⟨_, rfl, a, 3, rfl, r1.ext (Ext.new nl5), by decide, by decide, fun d H2 d0 dn r2 k2 => ?_⟩⟩
      obtain ⟨j, rfl⟩ : ∃ j : Nat, d = (j : Int) := ⟨d.toNat, by omega⟩
      obtain ⟨sz, hsz, hs2⟩ : ∃ sz : Nat, ([V.int 4, V.int 7, V.int 30])[j]? = some (V.int (sz : Nat)) ∧ sz ≤ 30 := by
        have : j = 0 ∨ j = 1 ∨ j = 2 := by omega
        rcases this with rfl | rfl | rfl
        · exact ⟨4, rfl, by decide⟩
        · exact ⟨7, rfl, by decide⟩
        · exact ⟨30, rfl, by decide⟩
      have nla := r1.new nl5
      refine ⟨l5, _, _, .int (sz : Nat), rfl, rfl, SqL.of (k2 _ _ upd_same nla), atI_nat hsz, ?_⟩
      have k2' : Keep a H H2 := k1.trans ((Keep.of (Ext.new nl5)).trans k2)
      have l2 : H2 L = some (.lst (l.map V.str)) := k2 _ _ ((Ext.new nl5) _ _ l1) nLa
      clear k2
      -- _law_letters_here
      refine ⟨_, rfl, _, rfl, _, _, rfl, rfl, a, _, rfl, r2, by omega, by omega, fun m H3 m0 mn r3 k3 => ?_⟩
      obtain ⟨n, rfl⟩ : ∃ n : Nat, m = (n : Int) := ⟨m.toNat, by omega⟩
      have k3' := k2'.trans k3
      have l3 := k3 _ _ l2 nLa
      clear k3
      refine ⟨(n : Int), rfl, by omega, by omega, fun D nD => ?_⟩
      have nDa := r3.new nD
      have nDL : L ≠ D := ne_of_none l3 nD
      refine lc_range (n := n) (fun i H' => ∃ ys : List Str, H' D = some (.lst (ys.map V.str)) ∧ ys.length = i ∧ (∀ y ∈ ys, y ∈ abcL) ∧ Rng H' a ∧ Keep a H3 H') ⟨[], upd_same, rfl, fun y h => (nomatch h), r3.ext (Ext.new nD), Keep.of (Ext.new nD)⟩ ?_ ?_
      · rintro j' H4 hj' ⟨ys, d4, ly, oy, r4, k4⟩
        have hA4 := (k3'.trans k4) _ _ hA nA
        refine ⟨rfl, _, rfl, _, rfl, a, A, _, rfl, r4, hA4, nA, by rw [List.length_map, la]; decide, by rw [List.length_map, la]; decide, fun i' v H5 hv r5 k5 => ?_⟩
        obtain ⟨y, hy, rfl⟩ := at_map hv
        have hya := ha y (List.mem_of_getElem? hy)
        refine ⟨_, k5 _ _ d4 nDa, by rw [List.length_map]; exact small_list (by omega), ys ++ [y], by rw [upd_same, List.map_append]; rfl, by rw [List.length_append, ly]; rfl, fun z hz => ?_, ?_, ?_⟩
        · rcases List.mem_append.mp hz with q | q
          · exact oy z q
          · rw [List.mem_singleton.mp q]
            exact hya
        · exact r5.upd nDa
        · intro b o e nb
          rw [upd_ne (ne_of_none e nD)]
          exact k5 _ _ (k4 b o e nb) nb
      · rintro H4 ⟨ys, d4, ly, oy, r4, k4⟩
        have k4' := k3'.trans k4
        have l4 := k4 _ _ l3 nLa
        refine ⟨_, rfl, a, 6, rfl, r4, by decide, by decide, fun d6 H5 _ _ r5 k5 => ?_⟩
        have k5' := k4'.trans k5
        have l5' := k5 _ _ l4 nLa
        have d5 := k5 _ _ d4 nDa
        clear k5
        -- what stands behind the append
        have one : ∀ zs : List Str, (∀ z ∈ zs, z ∈ abcL) → ∀ y ∈ zs, ∃ c, y = (⟨#[c]⟩ : Str) ∧ lowC c = true := fun zs hz y hy => abcL_one (hz y hy)
        have joi : ∀ zs : List Str, zs.length = n → (∀ z ∈ zs, z ∈ abcL) → (zs.map (·.length)).sum + zs.length * ("" : Str).length ≤ 16777216 := fun zs lz hz => join_le (fun y hy => by obtain ⟨c, rfl, _⟩ := one zs hz y hy; show 1 ≤ 8; decide) (by omega)
        have fin : ∀ (H6 : Hp) (zs : List Str), Rng H6 a → Keep a H H6 → H6 L = some (.lst (l.map V.str)) → zs.length = n → (∀ z ∈ zs, z ∈ abcL) → ∃ (l' : List Str) (v4 v5 v6 : Option V), [some (V.ref a), some (.ref A), some (.str o), some (.ref L), some (.int (0 + (i : Nat))), some (.int (sz : Nat)), some (.ref D), none] = [some (.ref a), some (.ref A), some (.str o), some (.ref L), v4, v5, v6, none] ∧
            Rng (upd H6 L (.lst (l.map V.str ++ [V.str (Txt.join "" zs)]))) a ∧ Keep a H (upd H6 L (.lst (l.map V.str ++ [V.str (Txt.join "" zs)]))) ∧ (upd H6 L (.lst (l.map V.str ++ [V.str (Txt.join "" zs)]))) L = some (.lst (l'.map V.str)) ∧ wordsL 30 l' ∧ l'.length ≤ 60 + (i + 1) := by
          intro H6 zs r6 k6 l6 lz hz
          obtain ⟨wd, wl⟩ := join_word (one zs hz)
          refine ⟨l ++ [Txt.join "" zs], _, _, _, rfl, r6.upd nLa, fun b o e nb => ?_, by rw [upd_same, List.map_append]; rfl, fun z hz' => ?_, by rw [List.length_append]; show l.length + 1 ≤ _; omega⟩
          · rw [upd_ne (ne_of_none e nL)]
            exact k6 b o e nb
          · rcases List.mem_append.mp hz' with q | q
            · exact w1 z q
            · rw [List.mem_singleton.mp q]
              exact ⟨wd, by omega⟩
        refine ⟨rfl, ?_⟩
        by_cases c6 : V.int d6 = V.int 0
        · rw [decide_eq_true c6]
          refine ⟨_, rfl, iteT ?_⟩
          refine ⟨_, rfl, by show 0 ≤ sizeLine; decide, fun E5 nE5 => ?_⟩
          have xE : Ext H5 (upd H5 E5 (.lst [])) := Ext.new nE5
          refine ⟨_, _, .lst (SqL.of (xE _ _ d5)) (strs_dp ys), .lst (SqL.of upd_same) .nil, strs_shaped ys (fun z hz => abcL_ok (oy z hz)), rfl, ?_⟩
          rw [strs_ne]
          refine ⟨_, rfl, ?_⟩
          have kE := k5'.trans (Keep.of xE)
          have rE := r5.ext xE
          have lE := xE _ _ l5'
          have dE := xE _ _ d5
          generalize upd H5 E5 (.lst []) = H6 at xE kE rE lE dE ⊢
          by_cases cy : ys = []
          · rw [decide_eq_true cy]
            refine iteF ?_
            exact ⟨_, rfl, .inl ⟨rfl, _, SqL.of lE⟩, ⟨_, rfl⟩, _, rfl, "", D, ys, rfl, rfl, .inl (SqL.of dE), joi ys ly oy, L, _, _, rfl, rfl, lE, by rw [List.length_map]; exact small_list (by omega), fin H6 ys rE kE lE ly oy⟩
          · rw [decide_eq_false cy]
            refine iteT ?_
            have hy0 : 0 < ys.length := by
              cases ys with
              | nil => exact absurd rfl cy
              | cons _ _ => exact Nat.succ_pos _
            refine ⟨_, rfl, _, rfl, _, rfl, _, rfl, D, _, rfl, .inl (SqL.of dE), a, _, rfl, rE, by rw [List.length_map]; omega, by rw [List.length_map]; omega, fun q H7 q0 q1 r7 k7 => ?_⟩
            rw [List.length_map] at q1
            obtain ⟨t, rfl⟩ : ∃ t : Nat, q = (t : Int) := ⟨q.toNat, by omega⟩
            have d7 := k7 _ _ dE nDa
            have l7 := k7 _ _ lE nLa
            refine ⟨D, _, _, t, rfl, rfl, d7, ix_nat (by rw [List.length_map]; omega), ?_⟩
            have l8 : (upd H7 D (.lst ((ys.map V.str).set t (.str o)))) L = some (.lst (l.map V.str)) := by rw [upd_ne nDL]; exact l7
            have d8 : (upd H7 D (.lst ((ys.map V.str).set t (.str o)))) D = some (.lst ((ys.set t o).map V.str)) := by rw [upd_same, List.map_set]
            have oz : ∀ z ∈ ys.set t o, z ∈ abcL := fun z hz => by
              rcases List.mem_or_eq_of_mem_set hz with q | q
              · exact oy z q
              · rw [q]
                exact ho
            have lz : (ys.set t o).length = n := by rw [List.length_set, ly]
            have nD0 : H D = none := k3'.free r3.there.choose_spec nD
            refine ⟨_, rfl, .inl ⟨rfl, _, SqL.of l8⟩, ⟨_, rfl⟩, _, rfl, "", D, _, rfl, rfl, .inl (SqL.of d8), joi _ lz oz, L, _, _, rfl, rfl, l8, by rw [List.length_map]; exact small_list (by omega), fin _ _ (r7.upd nDa) (fun b o e nb => ?_) l8 lz oz⟩
            rw [upd_ne (ne_of_none e nD0)]
            exact k7 _ _ (kE b o e nb) nb
        · rw [decide_eq_false c6]
          refine ⟨_, rfl, iteF (iteF ?_)⟩
          exact ⟨_, rfl, .inl ⟨rfl, _, SqL.of l5'⟩, ⟨_, rfl⟩, _, rfl, "", D, ys, rfl, rfl, .inl (SqL.of d5), joi ys ly oy, L, _, _, rfl, rfl, l5', by rw [List.length_map]; exact small_list (by omega), fin H5 ys r5 k5' l5' ly oy⟩
    · rintro σ H1 ⟨l, v4, v5, v6, rfl, r1, k1, l1, w1, n1⟩
      exact ⟨_, rfl, k H1 L l r1 k1 nL l1 w1 (by omega)⟩
end
end Sl
/-! ## Q2 -/
set_option Elab.async false
set_option linter.all false
set_option maxRecDepth 100000
set_option maxHeartbeats 4000000
/-! own error classes over any built-in error: their making, super().__init__(text) in it, the first field -/
namespace PySem
namespace Sx
open PySem.W PySem.Calls PyProof.Rows Builtin Builtin.ObjectAttr
/-- a built-in error with what stands above it -/
structure Tl (B newId initId : String) (tl : List Value) : Prop where
  base : ExcBaseFacts B newId initId tl
  pass : ∀ self : Value, refuseLoop self "__setattr__" tl = pure ()
  obj : tl.contains (.type "object") = true
  kf : KxsFacts B initId
abbrev over (rs : List Addr) (tl : List Value) : List Value := rs.map Value.ref ++ tl
theorem over_pass {B newId initId : String} {tl : List Value} (T : Tl B newId initId tl) (self : Value) : ∀ rs : List Addr, refuseLoop self "__setattr__" (over rs tl) = pure ()
  | [] => T.pass self
  | r :: rs => (refuseLoop_ref self "__setattr__" r (over rs tl)).trans (over_pass T self rs)
theorem over_has {tl : List Value} (Z : String) : ∀ rs : List Addr, (over rs tl).contains (.type Z) = tl.contains (.type Z)
  | [] => rfl
  | r :: rs => by
    have ih := over_has (tl := tl) Z rs
    show ((Value.type Z == Value.ref r) || (over rs tl).contains (.type Z)) = _
    rw [ih]
    rfl
section
variable {prog : Program} {w : World} {A : Around} {E : Value → Shared → Prop} {R : Result → Shared → Prop} {hp : Heap} {g : Array GenState} {d : Drawn} {t : Nat} {os : OsState} {B newId initId : String} {tl : List Value}
/-- the first field of such an error: it gets its dict -/
theorem osa_first {K : W.Frag} {name : Str} {tk : Tok} {v : Value} {x C : Addr} {fv : Array Value} {cd : ClassData} {rs : List Addr} (T : Tl B newId initId tl) (X : K.In hp) (hx : hp.get? x = some { cls := .ref C, data := .fields fv })
    (hcd : W.clsIn K C = some cd) (hm : cd.mro = over rs tl) (hh : cd.hasDict = true) (ha : W.findIn K (.ref C) name = some none)
    (hq : ∀ h' tk' dx, (∀ b o, b ≠ x → hp.get? b = some o → h'.get? b = some o) → hp.objs.size ≤ dx → dx ≠ x → h'.get? x = some { cls := .ref C, dict := some dx, data := .fields fv } →
      h'.Ns1 dx (fun y => if y = name then some v else none) → R (.ok (.ret .none)) ⟨h', g, d, tk', os⟩) :
    codeAny (model prog w) A (.call (.builtin "object.__setattr__") ⟨[.ref x, .str name tk, v], []⟩) R ⟨hp, g, d, t, os⟩ := by
  have inst : W.InstAt hp x { cls := .ref C, data := .fields fv } C none := ⟨hx, rfl, rfl, trivial⟩
  have mroC : W.mroIn K C (.type "object") = some true := by
    have ho : (over rs tl).contains (.type "object") = true := (over_has "object" rs).trans T.obj
    unfold W.mroIn
    rw [hcd, Option.bind_some, hm, ho]
    cases e : (over rs tl) with
    | nil => rw [e] at ho; cases ho
    | cons _ _ => rfl
  have st := F.store_object
  refine codeAny_call_builtin st.slot.plain st.entry (@W.check_slot (model prog w) _ _ ⟨hp, g, d, t, os⟩ "object.__setattr__" "object" "__setattr__" (.ref x) [.str name tk, v] [] _ st.kind st.split (inst.type.andThen (W.looks_mroIn X mroC)) (st.args (.ref x) (.str name tk) v) ?_)
  have lm : W.Looks (model prog w) hp (mroOf (.ref C)) cd.mro := (W.looks_clsIn X hcd).andThen .now
  have lt : W.Looks (model prog w) hp (storeTaker? none) none := .now
  have lc : W.Looks (model prog w) hp (classData C) cd := W.looks_clsIn X hcd
  rw [W.osa_eq, refuse_eq]
  refine wpAny_bind (wpAny_bind (inst.type.at (wpAny_bind (lm.at ?_))))
  rw [hm, over_pass T]
  refine wpAny_pure (wpAny_bind (inst.type.at (wpAny_bind ((W.looks_findIn X ha).at (wpAny_bind (lt.at ?_))))))
  show wpAny _ _ (storeInOwnDict (.ref x) (.ref C) (.str name tk) name v false) _ _ _
  have apart : hp.objs.size ≠ x := Nat.ne_of_gt (Heap.lt_size hx)
  obtain ⟨nm, bs, mro, ns, qn, hd, sn, sb, ab, col, del⟩ := cd
  dsimp only at hh
  subst hh
  unfold storeInOwnDict ownDictForStores
  repeat (first | with_reducible refine HandSPX.store_in_new ?_ ?_ | with_reducible refine wpAny_loadPart_at hx ?_ | with_reducible refine lc.at ?_ | wp_step)
  · exact ⟨_, #[], _, (Heap.get?_update_ne _ _ _ _ apart).trans (Heap.get?_push_at rfl rfl), rfl, fun e he => absurd he (by simp), fun _ => rfl⟩
  · intro h' tk' hn same
    have there : (hp.push { cls := .type "dict", data := .dict #[] }).get? x = some { cls := .ref C, data := .fields fv } := Heap.get?_push_of_some _ hx
    refine hq h' tk' hp.objs.size (fun b o nb ob => ?_) (Nat.le_refl _) apart ?_ hn
    · rw [same.2 b (Nat.ne_of_lt (Heap.lt_size ob)), Heap.get?_update_ne _ _ _ _ nb]
      exact Heap.get?_push_of_some _ ob
    · rw [same.2 x apart.symm]
      exact Heap.get?_update_self _ there rfl
end
end Sx
end PySem
/-! ## Q3 -/
set_option Elab.async false
set_option linter.all false
set_option maxRecDepth 100000
set_option maxHeartbeats 4000000
namespace Sl
open PySem PySem.Spec PyProof.Rows L2
/-- what the written part must say of an own error class over a built-in one -/
structure OneC (K : PySem.W.Frag) (C : Addr) (newId : String) (tl : List Value) : Prop where
  cls : ∃ nm q N bs rs sn sub ab col dd k0 k1 k2 k3 k5, K.lookup C = some (excClassObj nm q C N bs (PySem.Sx.over rs tl) true sn sub ab col dd k0 k1 k2 k3 k5 newId)
  sa : PySem.W.findIn K (.ref C) "__setattr__" = some (some (.builtin "object.__setattr__"))
  exC : PySem.W.subIn K (.ref C) (.type "BaseException") = some true
  tyC : PySem.W.typeIn K (.ref C) = some (.type "type")
  kC : PySem.W.keepIn K (.ref C) = true
theorem cls_of {K : PySem.W.Frag} {nm q : Str} {C N : Addr} {bs bm : List Value} {hd : Bool} {sn : List Str} {sub : List Value} {ab : Bool} {col : Option Bool} {dd : Option Addr} {k0 k1 k2 k3 k5 : Option Value} {newId : String}
    (h : K.lookup C = some (excClassObj nm q C N bs bm hd sn sub ab col dd k0 k1 k2 k3 k5 newId)) :
    PySem.W.clsIn K C = some { name := nm, bases := bs, mro := .ref C :: bm, ns := N, qualname := q, hasDict := hd, slotNames := sn, subclasses := sub, abstract := ab, collection := col, hasDel := false } := by
  unfold PySem.W.clsIn
  rw [h] <;> rfl
section
variable {X : Cx} {pins : List (Addr × Obj)} {σ : L2.St} {H : Hp} {s : Shared} {a C : Addr} {f : Str} {y : V} {u : Value} {Q : Unit → Shared → Prop} {E : Value → Shared → Prop} {A : Around} {B newId initId : String} {tl : List Value}
/-- self.f = y, the first one -/
theorem first_field (T : PySem.Sx.Tl B newId initId tl) (O : OneC X.K C newId tl) (I : L2.Inv X pins σ H s) (e : H a = some (exo a C none)) (hno : PySem.W.findIn X.K (.ref C) f = some none) (ry : L2.RelV y u)
    (h : ∀ dx s', H dx = none → dx ≠ a → L2.Inv X pins σ (upd (upd H dx (exd dx [(f, y)])) a (exo a C (some dx))) s' → Q () s') : wpAny (model X.prog X.w) A (setAttr (.ref a) f u) Q E s := by
  obtain ⟨nm, q, N, bs, rs, sn, sub, ab, col, dd, k0, k1, k2, k3, k5, hC⟩ := O.cls
  obtain ⟨t1, ho⟩ := exo_at I.hok e
  obtain ⟨hp, g, d, t, os⟩ := s
  refine PySem.W.set_plain I.kIn (ox := { cls := .ref C, dict := none, data := .fields #[.ref t1, .none, .none, .none, .bool false, .none] }) (od := none) ⟨ho, rfl, rfl, trivial⟩ O.sa ?_
  refine PySem.Sx.osa_first (rs := C :: rs) T I.kIn ho (cls_of hC) rfl rfl hno (fun h' tk' dx same new ne hx hn => ?_)
  have free : H dx = none := I.hok.fresh new
  have old : ∀ {b : Addr} {o : Obj}, hp.get? b = some o → b ≠ dx := fun {b o} z => Nat.ne_of_lt (Nat.lt_of_lt_of_le (Heap.lt_size z) new)
  have bare : ∀ {b : Addr}, H b = none → b ≠ a := fun {b} n z => by
    rw [z, e] at n
    cases n
  have else_ : ∀ {b : Addr} {o : HO}, H b = some o → (b = a → exo a C none = o) → (exo a C none ≠ o) → (upd (upd H dx (exd dx [(f, y)])) a (exo a C (some dx))) b = some o := fun {b o} z w n => by
    rw [upd_ne (fun k => n (w k)), upd_ne (ne_of_none z free)]
    exact z
  have same_a : ∀ {b : Addr} {o : HO}, H b = some o → b = a → exo a C none = o := fun {b o} z k => by
    rw [k, e] at z
    exact Option.some.inj z
  have un : Un X.fs [] H (upd (upd H dx (exd dx [(f, y)])) a (exo a C (some dx))) hp h' := by
    constructor
    · exact fun b o z n _ _ => same b o (bare n) z
    · exact fun b o z n _ _ => ⟨o.slots, same b o (bare n) z⟩
    · intro b o z n _
      rw [upd_ne (bare n), upd_ne (old z)]
      exact n
    · intro b o z _
      by_cases c : b = a
      · exact ⟨_, by rw [c]; exact hx⟩
      · exact ⟨o, same b o c z⟩
    · exact fun b xs z => else_ z (same_a z) exo_tup
    · exact fun b o v z => else_ z (same_a z) exo_frz
    · exact fun b ps z => ⟨#[], by rw [else_ z (same_a z) exo_tbl]; simp⟩
  refine h dx _ free ne (I.un (t' := tk') un fun b o z => ?_)
  by_cases c1 : b = a
  · subst c1
    rw [upd_same] at z
    cases z
    exact exo_ok hx
  rw [upd_ne c1] at z
  by_cases c2 : b = dx
  · subst c2
    rw [upd_same] at z
    cases z
    exact exd_ok hn (relO_put (fs := []) ry fun _ => True.intro)
  rw [upd_ne c2] at z
  refine (I.hok b o z).stay (fun c v hc w => same c v (fun k => ?_) w) (fun c hc => else_ hc (same_a hc) exo_own) (fun c xs hc => else_ hc (same_a hc) exo_tup)
  rcases hc with hc | hc
  · exact c1 (by rw [← hc]; exact k)
  · exact exo_own (same_a hc k)
end
end Sl
/-! ## Q4 -/
set_option Elab.async false
set_option linter.all false
set_option maxRecDepth 100000
set_option maxHeartbeats 4000000
namespace PySem
namespace Sx
open PySem.W PySem.Calls PyProof.Rows
section
variable {prog : Program} {w : World} {A : Around} {E : Value → Shared → Prop} {hp : Heap} {g : Array GenState} {d : Drawn} {t : Nat} {os : OsState} {B newId initId : String} {tl bm : List Value}
variable {nm q : Str} {C N : Addr} {bs : List Value} {hdct : Bool} {sn : List Str} {sub : List Value} {ab : Bool} {col : Option Bool} {dd : Option Addr} {k0 k1 k2 k3 k5 : Option Value}
/-- the bound built-in __init__ called: the error's arguments are laid anew -/
theorem bound_init {u e t0 : Addr} {rest : List Value} {Q : Value → Shared → Prop} (FB : ExcBaseFacts B newId initId tl) (hC : hp.get? C = some (excClassObj nm q C N bs bm hdct sn sub ab col dd k0 k1 k2 k3 k5 newId))
    (he : hp.get? e = some (excObj C t0 none .none)) (hu : hp.get? u = some (kxs_mw initId e)) (hz : rest.length ≤ sizeLine)
    (hq : ∀ h' t1, (∀ b o, b ≠ e → hp.get? b = some o → h'.get? b = some o) → h'.get? e = some (excObj C t1 none .none) → Q .none ⟨h', g, d, t, os⟩) :
    wpAny (model prog w) A (call (.ref u) rest) Q E ⟨hp, g, d, t, os⟩ := by
  refine wpAny_call (codeAny_of_tree ?_)
  show wpAny _ A.in1 (callAny (.ref u) ⟨rest, []⟩) _ _ _
  simp only [callAny]
  refine wpAny_bind (wpAny_load hu ?_)
  simp only [kxs_mw, show (Value.type "method-wrapper" == Value.type "method" || Value.type "method-wrapper" == Value.type "builtin_function_or_method" || Value.type "method-wrapper" == Value.type "method-wrapper") = true by decide, if_true]
  refine KFB.if_so (by decide) (wpAny_bind (check_bound_init FB.toExcCallFacts hC he rfl (wpAny_bind (wpAny_pure (wpAny_pure ?_)))))
  exact ⟨plainId_quiet FB.init.plain _, codeAny_builtin FB.initEntry (exc_init_tree (cls := .ref C) (t0 := t0) (dv := none) (c2 := .none) (c3 := .none) (b4 := .bool false) he hz fun h' k e' _ => hq h' _ k e')⟩
end
end Sx
end PySem
namespace Sl
open PySem PySem.Spec PyProof.Rows L2 NdefX
/-- an own error's __init__ whose first row is super().__init__(text): where it stands -/
structure SupFn (P : Program) (K : PySem.W.Frag) (C f cda cc : Addr) (name qual : Str) (params : Arguments) (body : List Stmt) (scope : Scope) (fd : FuncData) : Prop where
  fn : ∃ oc od dV kV doc pm an ct osl, fd = PySem.W.fnX name qual params body scope [("__class__", cc)] dV kV doc pm an (.ref cda) ct ∧ K.lookup f = some ⟨oc, od, .func fd, osl⟩
  co : PySem.W.codeIn K (.ref cda) qual = true
  code : ∃ ccl cdd vs ccs file tf, K.lookup cda = some ⟨ccl, cdd, .fields vs, ccs⟩ ∧ vs[2]? = some (.str file tf) ∧ ((P.main.file : Str) == file) = true
  cell : ∃ cl cld csl, K.lookup cc = some ⟨cl, cld, .cell (some (.ref C)), csl⟩
  any_ : PySem.W.nsIn K cStatics "thirdparty.any" = some none
  top : (P.main.scope.names.lookup ("super" : Str)).isSome = false
section
variable {P : Program} {w : World} {K : PySem.W.Frag} {mg : Str → Option Value} {base : Heap} {CX : CXT} {B newId initId : String} {tl : List Value} {C f cda cc : Addr} {name qual txt : Str} {params : Arguments} {rest : List Stmt} {scope : Scope} {fd : FuncData} {N ps : List Str} {k : Nat} {sp : Sp}
abbrev NFof (name qual : Str) (params : Arguments) (body : List Stmt) (scope : Scope) (cda cc : Addr) : NF := ⟨name, qual, params, body, scope, [("__class__", cc)], cda⟩
theorem ok_super {p0 p1 p2 p3 p4 p5 : Pos} {j : Nat} {ar : Arg} (T : PySem.Sx.Tl B newId initId tl) (O : OneC K C newId tl)
    (F : SupFn P K C f cda cc name qual params (.Expr (.Call (.Attribute (.Call (.Name "super" p0) [] [] p1) "__init__" p2) [.Constant (.str txt) j p3] [] p4) p5 :: rest) scope fd)
    (S : NScope N ps ["__class__"] scope) (hp : (params.posonlyargs ++ params.args).head? = some ar) (h0 : ps[0]? = some ar.arg) (hks : scope.names.lookup ("super" : Str) = some .globalImplicit)
    (zs : mg "super" = none) (hsup : PySem.W.ks_superIn K C C "__init__" = some (some (.builtin initId))) (hB : PySem.W.subIn K (.ref C) (.type B) = some true)
    (len : ∀ vs H Q E, sp vs H Q E → vs.length = ps.length) (pl : Env → Sem Bool) (hsw : ∀ env : Env, swapsWith (.Call (.Attribute (.Call (.Name "super" p0) [] [] p1) "__init__" p2) [.Constant (.str txt) j p3] [] p4) none p5.line env = pure false)
    (hev : ∀ env : Env, eval (.Call (.Attribute (.Call (.Name "super" p0) [] [] p1) "__init__" p2) [.Constant (.str txt) j p3] [] p4) env = (attributeBase (.Call (.Name "super" p0) [] [] p1) "__init__" env (eval (.Call (.Name "super" p0) [] [] p1) env) >>= fun ov => standAt p2.atName >>= fun _ =>
      holding [ov] (getMethod ov "__init__" (pl env)) >>= fun fx => callWith p4 fx.1 fx.2 (backTo p4 (starEach [.Constant (.str txt) j p3] env)) []))
    (hbody : ∀ (A : Around) (outer : List Env) (s : Shared) (H : Hp) (vs : List V) (Q : VK) (E : XK), sp vs H Q E →
      (∃ a, vs[0]? = some (.ref a) ∧ H a = some (exo a C none)) ∧ ∃ t, PSs (ncx CX P w K mg base N (NFof name qual params (.Expr (.Call (.Attribute (.Call (.Name "super" p0) [] [] p1) "__init__" p2) [.Constant (.str txt) j p3] [] p4) p5 :: rest) scope cda cc) f A outer s H E) rest t ∧ t { nx := fun _ H' => Q .non H', rt := Q } (startF N vs [none]) H) :
    FnOk P w K mg base CX (k + 1) f fd ps sp := by
  refine ⟨len, fun A outer s H args us vs Q E hr e0 hb r hsp => ?_⟩
  have hl := len _ _ _ _ hsp
  obtain ⟨⟨a, va, ea⟩, t, ht, hq⟩ := hbody A outer s H vs Q E hsp
  obtain ⟨oc, od, dV, kV, doc, pm, an, ct, osl, rfl, lk⟩ := F.fn
  obtain ⟨ccl, cdd, cvs, ccs, file, tf, lc, lc2, lfile⟩ := F.code
  obtain ⟨cl, cld, csl, lcell⟩ := F.cell
  have kin : K.In s.heap := e0.mod.kin.keeps fun b o e => (e0.bs b o e).1
  have lim : s.heap.NoLimit := e0.mod.nolimit.keeps fun b o e => (e0.bs b o e).1
  have cells : CellsAt [(("__class__" : Str), cc)] ["__class__"] [none] s.heap H := by
    have hit : ∀ {y : Str} {c : Addr}, List.lookup y [(("__class__" : Str), cc)] = some c → y = "__class__" ∧ c = cc := fun {y c} e => by
      by_cases q : y = "__class__"
      · rw [q] at e
        exact ⟨q, by injection e with e; exact e.symm⟩
      · exfalso
        have hy : (y == ("__class__" : Str)) = false := by simpa using q
        simp only [List.lookup, hy] at e
        cases e
    refine ⟨rfl, fun y c e => ?_, fun x y c e1 e2 => (hit e1).1.trans (hit e2).1.symm, fun i y e => ?_⟩
    · rw [(hit e).2]
      exact ⟨(e0.bs _ _ (e0.mod.kin _ _ lcell)).2, _, _, kin _ _ lcell, rfl⟩
    · refine ⟨cc, ?_, fun v z => ?_⟩
      · cases i with
        | zero => cases e; rfl
        | succ i => cases i <;> cases e
      · cases i with
        | zero => cases z
        | succ i => cases i <;> cases z
  refine ks_codeAny_call_defAt hr.depth (kin _ _ lk) rfl lim (PySem.W.codeRec_of kin F.co) rfl hb S.nocell (fun ⟨n, _⟩ hy => S.par n (List.of_mem_zip hy).1) (fun h₀ hns kp => ?_) S.co S.gen S.kind
  have I : L2.Inv (ncx CX P w K mg base N (NFof name qual params (.Expr (.Call (.Attribute (.Call (.Name "super" p0) [] [] p1) "__init__" p2) [.Constant (.str txt) j p3] [] p4) p5 :: rest) scope cda cc) f A outer s H E) [] (startF N vs [none]) H { s with heap := h₀, toks := s.toks + (ps.zip us).length } := inv_startN S hr.hd e0 hl r cells hns kp
  have kin0 : K.In h₀ := kin.keeps kp
  obtain ⟨nm, q, Nn, bs, rs, sn, sub, ab, col, dd, k0, k1, k2, k3, k5, hC⟩ := O.cls
  have hcl := cls_of hC
  obtain ⟨t1, ho⟩ := exo_at I.hok ea
  have naC : a ≠ C := fun e => by
    have z := (e0.bs _ _ (e0.mod.kin _ _ hC)).2
    rw [← e, ea] at z
    cases z
  have mroC : PySem.W.mroIn K C (.ref C) = some true := by
    unfold PySem.W.mroIn
    rw [hcl, Option.bind_some]
    show (if ((Value.ref C :: PySem.Sx.over rs tl).isEmpty) = true then none else some ((Value.ref C :: PySem.Sx.over rs tl).contains (.ref C))) = _
    rw [List.contains_cons]
    simp
  have ndP : ps.Nodup := by
    have z := S.nd.sublist (List.take_sublist (ps.length + 1) N)
    rw [show ps.length + 1 = ps.length + (["__class__"] : List Str).length from rfl, S.pre] at z
    exact (List.nodup_append.mp z).1
  obtain ⟨ua, hua, rua⟩ := r.get va
  obtain rfl : ua = Value.ref a := rua
  have selfv := zip_look ndP h0 hua
  obtain ⟨mb, b1, b2⟩ := I.ok.mod.blt
  have hkc : scope.names.lookup ("__class__" : Str) = some .free := S.frk _ List.mem_cons_self
  have hka : scope.names.lookup ar.arg = some .local := S.par _ (List.mem_of_getElem? h0)
  show _root_.PySem.wpAt (model P w) (ncx CX P w K mg base N (NFof name qual params (.Expr (.Call (.Attribute (.Call (.Name "super" p0) [] [] p1) "__init__" p2) [.Constant (.str txt) j p3] [] p4) p5 :: rest) scope cda cc) f A outer s H E).A _ (execs _ (envF (NFof name qual params (.Expr (.Call (.Attribute (.Call (.Name "super" p0) [] [] p1) "__init__" p2) [.Constant (.str txt) j p3] [] p4) p5 :: rest) scope cda cc) f s.heap.objs.size)) _ _ _
  refine ks_wpAt_execs_cons (ks_wpAt_Expr_any (hi := I.quiet) (hs := hsw _) (ks_wpAt_MethodCall (he := hev _) (ks_wpAt_super_base hks hkc rfl rfl (kin0 _ _ lk) rfl hp rfl (kin0 _ _ lc) rfl lc2 lfile F.top ?_)))
  refine PySem.W.ks_loadName_global S.kind hks (Calls.loadGlobal_builtin (I.ok.mod.glob.keeps I.bk) zs (b1.keeps I.bk) ((b2 _ (by decide)).trans (by decide +kernel)) ⟨rfl, ?_⟩)
  refine wpAny_loadName_free S.kind hkc rfl ⟨_, kin0 _ _ lcell, rfl⟩ ?_
  refine wpAny_loadName_local S.kind hka hns selfv ?_
  refine ks_wpAny_isType_cls (kin0 _ _ hC) rfl ⟨rfl, ?_⟩
  refine ks_wpAny_call_super (kin0 _ _ hC) rfl ho rfl (fun c e => by cases e) (PySem.W.looks_mroIn kin0 mroC) (fun h1 so k1' => ?_)
  have I1 := I.kept (t' := s.toks + (ps.zip us).length) k1'
  have kin1 : K.In h1 := kin0.keeps k1'
  have ho1 := k1' _ _ ho
  have fp := I1.fpOk (Nat.le_refl _) (I1.hok.fresh (Nat.le_refl _))
  obtain ⟨f1, f2, f3, _, _, _⟩ := fp
  have inst : PySem.W.InstAt h1 a _ C none := ⟨ho1, rfl, rfl, trivial⟩
  have along := hsup
  unfold PySem.W.ks_superIn at along
  rw [hcl] at along
  refine PySem.W.kxs_getMethod T.kf so (PySem.W.looks_opaque kin1 F.any_) ((PySem.W.looks_clsIn kin1 hcl).andThen .now) rfl kin1 along (inst.type.andThen (PySem.W.looks_subIn kin1 hB)) naC rfl ?_
  have up2 : ∀ b o, h1.get? b = some o → (h1.push (PySem.W.kxs_mw initId a)).get? b = some o := fun b o e => Heap.get?_push_of_some _ e
  have I2 := I1.kept (t' := s.toks + (ps.zip us).length + 1) up2
  have I3 := I2.pins_of (pins' := [(h1.objs.size, PySem.W.kxs_mw initId a)]) fun p hp => by
    rw [List.mem_singleton.mp hp]
    exact ⟨Heap.get?_push_at rfl rfl, f1, f2, f3, fun v e => nomatch e⟩
  have pa : PA (ncx CX P w K mg base N (NFof name qual params (.Expr (.Call (.Attribute (.Call (.Name "super" p0) [] [] p1) "__init__" p2) [.Constant (.str txt) j p3] [] p4) p5 :: rest) scope cda cc) f A outer s H E) [.Constant (.str txt) j p3] (tCons (tC (.str txt)) tNil) := pa_cons pe_str pa_nil
  refine PySem.W.kxs_callWith (i := initId) (x := a) rfl ?_
  refine Calls.evalArgs_plain ?_
  refine thn (pa.run p4 _ _ _ H (fun vs H1 => vs = [V.str txt] ∧ H = H1) I3 ⟨rfl, rfl⟩) fun us1 s1 hh => ?_
  obtain ⟨vs1, H1, J, r1, ev, eH⟩ := hh
  subst ev
  subst eH
  cases r1 with
  | cons ru rn =>
    cases rn
    obtain ⟨hmw, _⟩ := J.pin _ (List.mem_append_right _ List.mem_cons_self)
    obtain ⟨t2, ho2⟩ := exo_at J.hok ea
    refine ⟨hmw, ?_⟩
    obtain ⟨hp, g, d, t', os⟩ := s1
    refine PySem.Sx.bound_init T.base (J.kIn _ _ hC) ho2 hmw (by show 1 ≤ sizeLine; decide) fun h' t3 k3 e3 => ?_
    have L := (J.pins_of (pins' := []) fun p hp => nomatch hp).write (t' := t') (x := a) (e := a) (o := exo a C none) (by rw [ea]; exact True.intro) (.inl rfl) k3 ⟨_, e3⟩ (exo_ok e3)
    have eu : upd H a (exo a C none) = H := by
      funext b
      by_cases hb : b = a
      · rw [hb, upd_same, ea]
      · rw [upd_ne hb]
    rw [eu] at L
    refine wpAt_of_wpAny (wpAny_mono (ht.run [] _ (startF N vs [none]) H _ L hq) (fun fl s' hs => ?_) fun e s' hs => hs)
    have fin : ∀ {σ' : L2.St} {H' : Hp} {v : V} {u : Value}, L2.Inv (ncx CX P w K mg base N (NFof name qual params (.Expr (.Call (.Attribute (.Call (.Name "super" p0) [] [] p1) "__init__" p2) [.Constant (.str txt) j p3] [] p4) p5 :: rest) scope cda cc) f A outer s H E) [] σ' H' s' → L2.RelV v u → Q v H' → CE outer P w H s Q u s' :=
      fun {σ' H' v u} M rv q => ⟨v, H', M.os, M.bare, M.base, M.hok, rv, q⟩
    cases fl with
    | ret u =>
      obtain ⟨v, σ', H', M, rv, q⟩ := hs
      exact fin M rv q
    | next =>
      obtain ⟨σ', H', M, q⟩ := hs
      exact fin (v := V.non) (u := Value.none) M rfl q
    | brk =>
      obtain ⟨_, _, _, q⟩ := hs
      exact q.elim
    | cont =>
      obtain ⟨_, _, _, q⟩ := hs
      exact q.elim
end
end Sl
/-! ## Q5 -/
set_option Elab.async false
set_option linter.all false
set_option maxRecDepth 100000
set_option maxHeartbeats 4000000
namespace Sl
open PySem PySem.Spec PyProof.Rows L2 NdefX
/-- self.f = e on an own error, the first field -/
def tFirst (K : PySem.W.Frag) (C : Addr) (f : Str) (to te : TE) : TS := fun D σ H => te σ H fun y H1 => to σ H1 fun x H2 => ∃ a : Addr, x = .ref a ∧ H2 a = some (exo a C none) ∧ PySem.W.findIn K (.ref C) f = some none ∧
  ∀ dx, H2 dx = none → dx ≠ a → D.nx σ (upd (upd H2 dx (exd dx [(f, y)])) a (exo a C (some dx)))
/-- C(e), C's own __init__ of one parameter that lays it in the field f -/
def tOne (C : Addr) (f : Str) (ta : TA) : L2.St → Hp → XK → Prop := fun σ H Q => ta σ H fun vs H1 => ∃ y : V, vs = [y] ∧ ∀ d, H1 d = none → Q (.ref C) (some d) (upd H1 d (.xd [(f, y)]))
/-- what such an __init__ promises -/
def spInit1 (C : Addr) (f : Str) : Sp := fun vs H Q _ => ∃ (a : Addr) (y : V), vs = [.ref a, y] ∧ H a = some (exo a C none) ∧ ∀ dx, H dx = none → dx ≠ a → Q .non (upd (upd H dx (exd dx [(f, y)])) a (exo a C (some dx)))
section
variable {X : Cx} {o e : Expr} {to te : TE} {ta : TA} {f : Str} {p p' pos : Pos} {C : Addr} {B newId initId : String} {tl : List Value}
theorem ps_first (T : PySem.Sx.Tl B newId initId tl) (O : OneC X.K C newId tl) (ho : PE X o to) (he : PE X e te) (hs : swapsWith e (some (.Attribute o f p')) pos.line X.env = pure false := by rfl) : PS X (.Assign [.Attribute o f p'] e pos) (tFirst X.K C f to te) := by
  refine ⟨fun pins s σ H D I h => ?_⟩
  refine plainObj_wpAny_Assign_Attribute (thn (he.run pins s σ H _ I h) fun v s1 ⟨y, H1, I1, r1, q1⟩ => thn (ho.run pins s1 σ H1 _ I1 q1) fun u s2 ⟨x, H2, I2, r2, a, ex, ea, hno, q⟩ => ?_) hs
  subst ex
  obtain rfl : u = Value.ref a := r2
  exact first_field T O I2 ea hno r1 fun dx s' n ne J => ⟨σ, _, J, q dx n ne⟩
theorem pmk_one {CX : CXT} {x : Str} {fI : Addr} {k : Nat} {fd : FuncData} {ps : List Str} (T : PySem.Sx.Tl B newId initId tl) (O : OneC X.K C newId tl) (iC : PySem.W.findIn X.K (.ref C) "__init__" = some (some (.ref fI))) (tI : PySem.W.typeIn X.K (.ref fI) = some (.type "function"))
    (G : FnOk X.prog X.w X.K X.mg X.base CX k fI fd ps (spInit1 C f)) (hr : Room (k + 1) X.A) (hb : Binds X.K fd ps []) (hx : Passes CX X (fun _ _ _ => False)) (hg : Gl X x) (hm : X.mg x = some (.ref C)) (ha : PA X [e] ta)
    (hdb : (x == ("__debug__" : Str)) = false := by decide) (he : starEach [e] X.env = (false, eval e X.env) :: starEach [] X.env := by rfl) (hpl : (backTo pos (starEach [] X.env)).any (·.1) = false := by rfl) :
    PMk X (.Call (.Name x p) [e] [] pos) (tOne C f ta) := by
  intro pins s σ H Q I h
  obtain ⟨nm, q, N, bs, rs, sn, sub, ab, col, dd, k0, k1, k2, k3, k5, hC⟩ := O.cls
  refine wpAny_Call_Name_kw (ld_glob I hg hm ?_ hdb)
  refine PySem.W.callWith_K (h₀ := X.base) I.ok.mod.kin O.kC (thn (ha.run pos pins s σ H _ I h) fun us s1 ⟨vs, H1, I1, r1, y, ev, q1⟩ => ⟨I1.kIn, ?_⟩) he hpl
  subst ev
  show wpAny _ _ (call (.ref C) us) _ _ _
  obtain ⟨hp, g, dr, tk, os⟩ := s1
  have after : hp.objs.size ≤ hp.objs.size + 1 := Nat.le_succ _
  have fresh : H1 (hp.objs.size + 1) = none := I1.hok.fresh after
  have up : ∀ b o, hp.get? b = some o → ((hp.push (PySem.W.kdv_tup us)).push (PySem.HandSPX.excO C hp.objs.size)).get? b = some o := fun b o z => Heap.get?_push_of_some _ (Heap.get?_push_of_some _ z)
  have made : ((hp.push (PySem.W.kdv_tup us)).push (PySem.HandSPX.excO C hp.objs.size)).get? (hp.objs.size + 1) = some (PySem.HandSPX.excO C hp.objs.size) := by heap_get
  have I2 : L2.Inv X pins σ (upd H1 (hp.objs.size + 1) (exo (hp.objs.size + 1) C none)) ⟨(hp.push (PySem.W.kdv_tup us)).push (PySem.HandSPX.excO C hp.objs.size), g, dr, tk, os⟩ :=
    I1.laid (t' := tk) (a := hp.objs.size + 1) (o := exo (hp.objs.size + 1) C none) (h' := (hp.push (PySem.W.kdv_tup us)).push (PySem.HandSPX.excO C hp.objs.size)) up after (exo_ok made)
  have r2 : Vals [V.ref (hp.objs.size + 1), y] (Value.ref (hp.objs.size + 1) :: us) := .cons rfl r1
  have us1 : us.length = 1 := (Paired.length r1).symm
  have hsp : spInit1 C f [V.ref (hp.objs.size + 1), y] (upd H1 (hp.objs.size + 1) (exo (hp.objs.size + 1) C none)) (fun v H2 => v = .non ∧ ∃ d, H1 d = none ∧ H2 (hp.objs.size + 1) = some (exo (hp.objs.size + 1) C (some d)) ∧ H2 d = some (exd d [(f, y)]) ∧ Q (.ref C) (some d) (upd (del H2 (hp.objs.size + 1)) d (.xd [(f, y)]))) (fun _ _ _ => False) := by
    refine ⟨_, y, rfl, upd_same, fun dx n ne => ⟨rfl, dx, ?_, upd_same, ?_, ?_⟩⟩
    · rw [upd_ne ne] at n
      exact n
    · rw [upd_ne ne, upd_same]
    · have n1 : H1 dx = none := by
        rw [upd_ne ne] at n
        exact n
      have eq : upd (del (upd (upd (upd H1 (hp.objs.size + 1) (exo (hp.objs.size + 1) C none)) dx (exd dx [(f, y)])) (hp.objs.size + 1) (exo (hp.objs.size + 1) C (some dx))) (hp.objs.size + 1)) dx (.xd [(f, y)]) = upd H1 dx (.xd [(f, y)]) := by
        funext b
        by_cases c : b = dx
        · rw [c, upd_same, upd_same]
        · rw [upd_ne c, upd_ne c]
          by_cases c2 : b = hp.objs.size + 1
          · rw [c2, del_same, fresh]
          · rw [del_ne c2, upd_ne c2, upd_ne c, upd_ne c2]
      rw [eq]
      exact q1 dx n1
  have hl : (Value.ref (hp.objs.size + 1) :: us).length = ps.length := by
    rw [← G.len _ _ _ _ hsp, List.length_cons, us1]
    rfl
  have hbi := hb _ (Value.ref (hp.objs.size + 1) :: us) I2.kIn (by rw [List.append_nil]; exact hl)
  rw [List.append_nil] at hbi
  refine wpAny_call (PySem.HandSPX.call_own T.base (fun Y => PySem.Sx.over_has Y rs) (I1.kIn _ _ hC) (PySem.W.looks_findIn I1.kIn iC) (fun self => PySem.W.bind_fn I1.kIn self tI) (by rw [us1]; decide)
    (codeAny_mono (G.run _ X.stack _ _ ⟨Value.ref (hp.objs.size + 1) :: us, []⟩ (Value.ref (hp.objs.size + 1) :: us) _ _ (fun _ _ _ => False) (hr.make C us []) (I2.env0.make C us []) hbi r2 hsp) fun r s' hq' => ?_))
  cases r with
  | error er => exact hx pins σ _ _ er s' I2 hq'
  | ok fl =>
    cases fl with
    | ret u =>
      obtain ⟨v, H2, os2, bare2, un2, hok2, rv, ev, d, hd1, ea, ed, q2⟩ := hq'
      subst ev
      obtain ⟨h2, g2, d2, t2, os'⟩ := s'
      exact ⟨rv, mk_end (raises_own O.exC O.tyC) I1 after up un2 hok2 os2 bare2 ea ed hd1 q2⟩
    | next => exact hq'.elim
    | brk => exact hq'.elim
    | cont => exact hq'.elim
end
end Sl
/-! ## Q6 -/
set_option Elab.async false
set_option linter.all false
set_option maxRecDepth 100000
set_option maxHeartbeats 4000000
/-! try: body, then several clauses 'except x as n', one name n for all -/
namespace Sl
open PySem PySem.Spec PyProof.Rows L2
abbrev Cl := Value × (Addr → Value → Option Addr → TS)
/-- behind a suite its name is gone -/
abbrev ungone (i : Nat) (D : Ends) : Ends := { nx := fun σ H => D.nx (σ.set i none) H, rt := D.rt, bk := fun σ H => D.bk (σ.set i none) H, ct := fun σ H => D.ct (σ.set i none) H }
def wAsL (K : PySem.W.Frag) (i : Nat) (Wout : WX) (D : Ends) : List Cl → WX
  | [] => Wout
  | p :: r => fun cls d σ H => ∃ b, PySem.W.exmOne K cls p.1 = some b ∧ if b = true then ∀ a, H a = none → p.2 a cls d (ungone i D) (σ.set i (some (.ref a))) H else wAsL K i Wout D r cls d σ H
inductive AsOk (X : Cx) (n : Str) : List ExceptHandler → List Cl → Prop
  | nil : AsOk X n [] []
  | cons {x : Str} {p : Cl} {b₀ : Stmt} {suite : List Stmt} {np pos' : Pos} {hds : List ExceptHandler} {l : List Cl} (hc : Names X x p.1)
      (hsu : ∀ (a : Addr) (oe : Obj) (cls : Value) (d : Option Addr) (pn : List (Addr × Obj)), Zc cls d oe → (∃ vs, oe.data = .fields vs) → PSs (X.suite a ((a, oe) :: pn)) (b₀ :: suite) (p.2 a cls d)) (r : AsOk X n hds l) :
      AsOk X n (.ExceptHandler (some (.Name x np)) (some n) (b₀ :: suite) pos' :: hds) (p :: l)
section
variable {X : Cx} {n : Str} {i : Nat} {body : List Stmt} {h₀ : ExceptHandler} {hds : List ExceptHandler} {l : List Cl} {pos : Pos} {tb : WX → TS} {Wout : WX}
theorem ps_try_asL (hs : X.stack = X.env :: X.outer) (hf : X.env.frame = some X.env.locals) (hN : X.N.Nodup) (hi : X.N[i]? = some n) (hln : X.env.kindOf n = some .local) (tk : Takes X Wout)
    (hb : ∀ (W : WX) (pn : List (Addr × Obj)) (xe : Value → Shared → Prop), Takes (X.tr pn xe) W → PassesOwn (model X.prog X.w) X.A X.env xe → PSs (X.tr pn xe) body (tb W))
    (hh : AsOk X n (h₀ :: hds) l) : PS X (.Try body (h₀ :: hds) [] [] pos) (fun D σ H => tb (wAsL X.K i Wout D l) D σ H) := by
  refine ⟨fun pins s σ H D I h => ?_⟩
  have ok := I.ok
  have loc : Loc X.env.scope n := .inl hln
  refine wpAny_Try_except ?_
  refine wpAny_mono ((hb (wAsL X.K i Wout D l) (X.pn ++ pins) (fun e s₁ => wpAny (model X.prog X.w) X.A (noteFrame e X.env) (fun _ s₂ => wpAny (model X.prog X.w) X.A (setFlight e none) (fun _ s₃ =>
    wpAny (model X.prog X.w) X.A (handleBy e X.env (h₀ :: hds)) (SP X pins D) X.xe s₃) X.xe s₂) X.xe s₁) (fun u s' xx => ?_) PassesOwn.looking).run [] s σ H D (I.toTry _) h) (fun f s1 hsp => ?_) (fun e s1 he => he)
  · obtain ⟨a, B, sI, pins', σ', H', cls, d, rfl, J', nb, up, sky, na, os, ag, wish⟩ := xx
    have J : L2.Inv X pins σ' H' sI := J'.ofTry ok
    show wpAny (model X.prog X.w) X.A (noteFrame (.ref a) X.env) _ _ _
    refine Sky.land Zc.steady (by rw [ok.frames, hs]) hf (by rw [← hs]; exact sky) fun h3 fl3 up3 => ?_
    have J3 : L2.Inv X pins σ' H' { s' with heap := h3 } := J.landed nb fl3.1 (up.trans up3) os ag
    obtain ⟨oe3, vs3, he3, hz3, hd3⟩ := fl3.there
    have off : a ∉ frs (X.env :: X.outer) := fun hm => by
      obtain ⟨_, o', e', hnf⟩ := fl3.2.2.1.mem hm
      rw [he3] at e'
      cases e'
      exact hnf _ hd3
    have nL : a ≠ X.env.locals := fun z => off (List.mem_filterMap.mpr ⟨X.env, List.mem_cons_self, by rw [hf, z]⟩)
    have nF : a ∉ X.fs := fun hm => by
      obtain ⟨e, he, q⟩ := List.mem_filterMap.mp hm
      exact off (List.mem_filterMap.mpr ⟨e, List.mem_cons_of_mem _ he, q⟩)
    have S3 := J3.suite he3 hd3 na nL nF
    have LT : PySem.W.Looks (model X.prog X.w) h3 (typeOf (.ref a)) cls := fun A Q E s k q => wpAny_typeOf_ref (k _ _ he3) (by rw [hz3.1]; exact q)
    have go : ∀ {hs' : List ExceptHandler} {l' : List Cl}, AsOk X n hs' l' → wAsL X.K i Wout D l' cls d σ' H' → wpAny (model X.prog X.w) X.A (handleBy (.ref a) X.env hs') (SP X pins D) X.xe { s' with heap := h3 } := by
      intro hs' l' hk
      induction hk with
      | nil =>
        intro w
        refine wpAny_handleBy_nil ?_
        obtain ⟨k1, k2, k3, oe, vs, T, oT, ts', he, hz, hd, h1, hr⟩ := id fl3
        unfold PySem.passOn
        refine wpAny_bind (wpAny_field he hd h1 ?_)
        rw [if_neg (show ¬ ((Value.ref T == Value.none) = true) from by simp)]
        have fin : wpAny (model X.prog X.w) X.A (setFlight (.ref a) X.env.frame) (fun _ s4 => wpAny (model X.prog X.w) X.A (throw (.ref a) : Sem Flow) (SP X pins D) X.xe s4) X.xe { s' with heap := h3 } := by
          rw [hf]
          refine HandSPX.setFlight_upZ fl3 fun h4 hh4 up4 => wpAny_throw (tk _ _ ?_)
          exact ⟨a, B, sI, pins, σ', H', cls, d, rfl, J, nb, (up.trans up3).trans up4, .inr (.inr (by rw [hs]; exact hh4)), na, os, ag, w⟩
        first
          | exact wpAny_bind (wpAny_pure (wpAny_bind fin))
          | exact wpAny_bind fin
      | @cons x p b₀ suite np pos' hds2 l2 hc hsu r ih =>
        intro w
        obtain ⟨b, hb1, w⟩ := w
        refine wpAny_handleBy_cons (codeAny_handlers_test ?_) (by intro q; cases q)
        have LM := PySem.W.exm_one (M := model X.prog X.w) (J3.kIn) LT hb1
        have test : ∀ {Q : Value → Shared → Prop} {E : Value → Shared → Prop}, Q p.1 { s' with heap := h3 } → wpAny (model X.prog X.w) (X.A.mark (some (.ref a))) (eval (.Name x np) X.env) Q E { s' with heap := h3 } := fun {Q E} q => by
          obtain ⟨hg, hdbg, hm | ⟨hm, hv, hnn⟩⟩ := hc
          · exact ld_glob (X := X.suite a ((a, oe3) :: (X.pn ++ pins))) S3 hg hm q hdbg
          · exact ld_blt (X := X.suite a ((a, oe3) :: (X.pn ++ pins))) S3 hg hm hv q hnn hdbg
        refine test (LM.here ?_)
        cases b with
        | false =>
          show wpAny _ X.A (handleBy (.ref a) X.env hds2) _ _ _
          exact ih w
        | true =>
          refine codeAny_handlers_suite_as ?_
          refine HandSPX.lands_againZ fl3 fun h4 fl4 up4 => ?_
          have J4 : L2.Inv X pins σ' H' { s' with heap := h4 } := J.landed nb fl4.1 ((up.trans up3).trans up4) os ag
          obtain ⟨oe4, vs4, he4, hz4, hd4⟩ := fl4.there
          refine store_ok (X := X.suite a ((a, oe4) :: (X.pn ++ pins))) (v := .ref a) (J4.suite he4 hd4 na nL nF) hN hi loc rfl (fun s5 S5 => ?_) (.inr hln)
          refine wpAny_mono ((hsu a oe4 cls d (X.pn ++ pins) hz4 ⟨_, hd4⟩).run [] s5 _ H' _ S5 (w a na)) (fun f s6 hsp => ?_) (fun _ _ z => z.elim)
          have bye : ∀ {σ6 : L2.St} {H6 : Hp} {Q : Shared → Prop}, L2.Inv (X.suite a ((a, oe4) :: (X.pn ++ pins))) [] σ6 H6 s6 → (∀ s7, L2.Inv X pins (σ6.set i none) H6 s7 → Q s7) →
              wpAny (model X.prog X.w) X.A (do bindName X.env n .none; unbindBehindTheSuite X.env n pos') (fun _ s7 => Q s7) X.xe s6 := fun {σ6 H6 Q} S6 hq => gone_ok (S6.unsuite ok) hN hi hln hq
          cases f with
          | ret u =>
            obtain ⟨v6, σ6, H6, S6, r6, q6⟩ := hsp
            exact bye S6 fun s7 J7 => ⟨_, _, _, J7, r6, q6⟩
          | _ =>
            obtain ⟨σ6, H6, S6, q6⟩ := hsp
            exact bye S6 fun s7 J7 => ⟨_, _, J7, q6⟩
    exact go hh wish
  · cases f with
    | next =>
      obtain ⟨σ', H', J', q⟩ := hsp
      exact wpAny_execs_nil ⟨σ', H', J'.ofTry ok, q⟩
    | ret u =>
      obtain ⟨v, σ', H', J', r, q⟩ := hsp
      exact ⟨v, σ', H', J'.ofTry ok, r, q⟩
    | _ =>
      obtain ⟨σ', H', J', q⟩ := hsp
      exact ⟨σ', H', J'.ofTry ok, q⟩
end
end Sl
/-! ## Q7 -/
set_option Elab.async false
set_option linter.all false
set_option maxRecDepth 100000
set_option maxHeartbeats 4000000
/-! repr of what is nested; defs that call it: nothing is being shown around them -/
namespace Sl
open PySem PySem.Spec PyProof.Rows L2
/-- as FnOk, where nothing is being shown around the call -/
structure FnG (P : Program) (w : World) (K : PySem.W.Frag) (mg : Str → Option Value) (base : Heap) (CX : CXT) (k : Nat) (f : Addr) (fd : FuncData) (ps : List Str) (sp : Sp) : Prop where
  len : ∀ vs H Q E, sp vs H Q E → vs.length = ps.length
  run : ∀ (A : Around) (outer : List Env) (s : Shared) (H : Hp) (args : Args) (us : List Value) (vs : List V) (Q : VK) (E : XK), A.guards = some [] → Room k A → Env0 P w K mg base A outer s H → BindsTo s fd args (ps.zip us) → Vals vs us → sp vs H Q E →
    codeAny (model P w) A (.call (.ref f) args) (CR CX outer P w H s Q E) s
theorem deeper_guards {A : Around} (env : Env) (g : A.guards = some []) : (A.deeper env).guards = some [] := by
  show A.guards = some []
  exact g
section
variable {P : Program} {w : World} {K : PySem.W.Frag} {mg : Str → Option Value} {base : Heap}
theorem Fun.okG {CX : CXT} {x qual : Str} {st : Stmt} {f : Addr} {fd : FuncData} {N ps : List Str} {k : Nat} {sp : Sp} (F : Fun K x qual st f fd) (S : FnScope N ps (defScope st)) (len : ∀ vs H Q E, sp vs H Q E → vs.length = ps.length)
    (hbody : ∀ (cdv : Value) (A : Around) (outer : List Env) (s : Shared) (H : Hp) (vs : List V) (Q : VK) (E : XK), (A.deeper (envOfC qual (defScope st) s.heap.objs.size f cdv)).guards = some [] → Room k (A.deeper (envOfC qual (defScope st) s.heap.objs.size f cdv)) → sp vs H Q E →
      ∃ t, PSs (cxOf CX P w K mg base N qual (defScope st) f cdv A outer s H E) (defBody st) t ∧ t { nx := fun _ H' => Q .non H', rt := Q } (start N vs) H) : FnG P w K mg base CX (k + 1) f fd ps sp := by
  obtain ⟨oc, od, kV, doc, pm, an, cdv, ct, osl, rfl, lk, hcd⟩ := F.ex
  refine ⟨len, fun A outer s H args us vs Q E hg hr e0 hb r hsp => ?_⟩
  have hl := len _ _ _ _ hsp
  have kin : K.In s.heap := e0.mod.kin.keeps fun b o e => (e0.bs b o e).1
  have lim : s.heap.NoLimit := e0.mod.nolimit.keeps fun b o e => (e0.bs b o e).1
  refine codeAny_call_function hr.depth (kin _ _ lk) rfl S.co S.gen rfl (PySem.W.codeRec_of kin hcd) (hb _ _ _ _ ?_)
  refine wpAny_newFunctionEnv_cells S.kind (fun ⟨n, v⟩ hy => ?_) fun env he s1 x => ?_
  · rcases S.par n (List.of_mem_zip hy).1 with q | q
    · exact .inl q
    · exact .inr ⟨q, PySem.W.cellsFrom_some _ _ _ (.inl q)⟩
  subst he
  refine ⟨lim.keeps x.toInCall.keep, codeAny_func ?_⟩
  obtain ⟨t, ht, hq⟩ := hbody cdv A outer s H vs Q E (deeper_guards _ hg) (hr.deeper _) hsp
  have I : L2.Inv (cxOf CX P w K mg base N qual (defScope st) f cdv A outer s H E) [] (start N vs) H s1 := inv_start S hr.hd e0 hl r x
  refine wpAny_mono (ht.run [] s1 (start N vs) H _ I hq) (fun fl s' hs => ?_) fun e s' hs => hs
  have fin : ∀ {σ' : L2.St} {H' : Hp} {v : V} {u : Value}, L2.Inv (cxOf CX P w K mg base N qual (defScope st) f cdv A outer s H E) [] σ' H' s' → L2.RelV v u → Q v H' → CE outer P w H s Q u s' :=
    fun {σ' H' v u} J rv q => ⟨v, H', J.os, J.bare, J.base, J.hok, rv, q⟩
  cases fl with
  | ret u =>
    obtain ⟨v, σ', H', J, rv, q⟩ := hs
    exact fin J rv q
  | next =>
    obtain ⟨σ', H', J, q⟩ := hs
    exact fin (v := V.non) (u := Value.none) J rfl q
  | brk =>
    obtain ⟨_, _, _, q⟩ := hs
    exact q.elim
  | cont =>
    obtain ⟨_, _, _, q⟩ := hs
    exact q.elim
end
section
variable {X : Cx} {CX : CXT} {k : Nat} {f : Addr} {fd : FuncData} {ps : List Str} {sp : Sp} {E : XK} {x : Str} {p pos : Pos} {e : Expr} {es : List Expr} {t : TA}
theorem pe_callG (G : FnG X.prog X.w X.K X.mg X.base CX k f fd ps sp) (gd : X.A.guards = some []) (hr : Room k X.A) (hg : Gl X x) (hm : X.mg x = some (.ref f)) (hk : PySem.W.keepIn X.K (.ref f) = true) (hb : L2.Binds X.K fd ps []) (hx : Passes CX X E)
    (ha : PA X (e :: es) t) (hdb : (x == ("__debug__" : Str)) = false := by decide) (he : starEach (e :: es) X.env = (false, eval e X.env) :: starEach es X.env := by rfl) (hpl : (backTo pos (starEach es X.env)).any (·.1) = false := by rfl) :
    PE X (.Call (.Name x p) (e :: es) [] pos) (tCall sp [] E t) := by
  refine ⟨fun pins s σ H Q I h => ?_⟩
  refine wpAny_Call_Name_kw (ld_glob I hg hm ?_ hdb)
  refine PySem.W.callWith_K (h₀ := X.base) I.ok.mod.kin hk (thn (ha.run pos pins s σ H _ I h) fun us s1 ⟨vs, H1, I1, r, q⟩ => ⟨I1.kIn, ?_⟩) he hpl
  have q : sp (vs ++ []) H1 _ E := q
  rw [List.append_nil] at q
  have hl : us.length = ps.length := by rw [← r.length]; exact G.len _ _ _ _ q
  have b := hb s1 us I1.kIn (by rw [List.append_nil]; exact hl)
  rw [List.append_nil] at b
  refine wpAny_call (codeAny_mono (G.run X.A X.stack s1 H1 ⟨us, []⟩ us vs _ E gd hr I1.env0 b r q) fun c s' hq => ?_)
  cases c with
  | error er => exact hx pins σ H1 s1 er s' I1 hq
  | ok fl =>
    cases fl with
    | ret u => exact I1.after hq
    | next => exact hq.elim
    | brk => exact hq.elim
    | cont => exact hq.elim
/-- repr of a list or tuple, however nested, without dicts -/
def rShown (K : PySem.W.Frag) : List V → Hp → VK → Prop := fun xs H Q => ∃ (a : Addr) (d : PyData), xs = [.ref a] ∧ Dp K H (.ref a) d ∧ d.showable = true ∧ d.hasDict = false ∧ d.depth ≤ 60 ∧ d.shown.length ≤ sizeLine ∧ Q (.str d.shown) H
theorem cr_shown (gd : X.A.guards = some []) (hu : X.A.units + 64 < cLine) : CallR X (.builtin "repr") (rShown X.K) := by
  intro pins s σ H xs us Q I r h
  obtain ⟨a, d, rfl, hd, sh, nd, dp, sz, q⟩ := h
  cases r with
  | cons ru rn =>
    cases rn
    obtain ⟨as, rd⟩ := Dp.reads I d _ _ hd ru
    cases ru
    exact repr_of_reads' rd sh (PyData.noDict_hsm nd) gd (by omega) (fun _ _ z => z) (fun h' u tk kk => ⟨.str d.shown, H, I.kept (t' := tk) kk, ⟨_, rfl⟩, q⟩) sz
end
end Sl
/-! ## P24 -/
set_option Elab.async false
set_option linter.all false
set_option maxRecDepth 100000
set_option maxHeartbeats 4000000
namespace Sl
open PySem PySem.Spec PyProof.Rows L2 NdefX
abbrev sIniW : Stmt := inClass (top 5) 0
abbrev sIniU : Stmt := inClass (top 6) 0
abbrev sCheckWord : Stmt := top 22
abbrev sReading : Stmt := top 28
abbrev veT : List Value := [.type "ValueError", .type "Exception", .type "BaseException", .type "object"]
abbrev rtT : List Value := [.type "RuntimeError", .type "Exception", .type "BaseException", .type "object"]
theorem tlVE : PySem.Sx.Tl "ValueError" "ValueError.__new__" "ValueError.__init__" veT := ⟨F.excBase_ValueError, F.store_ValueError.passes, by decide +kernel, PySem.W.kxs_ValueError⟩
theorem tlRT : PySem.Sx.Tl "RuntimeError" "RuntimeError.__new__" "RuntimeError.__init__" rtT := ⟨F.excBase_RuntimeError, F.store_RuntimeError.passes, by decide +kernel, PySem.W.kxs_RuntimeError⟩
section
variable {P : Program} {w : World} {K : PySem.W.Frag} {mg : Str → Option Value} {base : Heap}
theorem scIniW : NScope ["self", "value", "__class__"] ["self", "value"] ["__class__"] (defScope sIniW) := nscope_by (by decide +kernel)
theorem scIniU : NScope ["self", "place", "__class__"] ["self", "place"] ["__class__"] (defScope sIniU) := nscope_by (by decide +kernel)
theorem ok_iniW {C f cda cc : Addr} {fd : FuncData} (F : SupFn P K C f cda cc "__init__" "InvalidWord.__init__" (defArgs sIniW) (defBody sIniW) (defScope sIniW) fd) (O : OneC K C "ValueError.__new__" veT) (zs : mg "super" = none)
    (hsup : PySem.W.ks_superIn K C C "__init__" = some (some (.builtin "ValueError.__init__"))) (hB : PySem.W.subIn K (.ref C) (.type "ValueError") = some true) (hno : PySem.W.findIn K (.ref C) "value" = some none) :
    FnOk P w K mg base CX0 1 f fd ["self", "value"] (spInit1 C "value") := by
  refine ok_super tlVE O F scIniW rfl rfl (by decide +kernel) zs hsup hB (fun vs H Q E h => ?_) _ (fun _ => rfl) (fun _ => rfl) (fun A outer s H vs Q E h => ?_)
  · obtain ⟨a, y, rfl, _⟩ := h
    rfl
  · obtain ⟨a, y, rfl, ea, k⟩ := h
    refine ⟨⟨a, rfl, ea⟩, _, pss_one (ps_first tlVE O (pv 0) (pv 1)), ?_⟩
    exact ⟨_, rfl, _, rfl, a, rfl, ea, hno, fun dx n ne => k dx n ne⟩
theorem ok_iniU {C f cda cc : Addr} {fd : FuncData} (F : SupFn P K C f cda cc "__init__" "Unreadable.__init__" (defArgs sIniU) (defBody sIniU) (defScope sIniU) fd) (O : OneC K C "RuntimeError.__new__" rtT) (zs : mg "super" = none)
    (hsup : PySem.W.ks_superIn K C C "__init__" = some (some (.builtin "RuntimeError.__init__"))) (hB : PySem.W.subIn K (.ref C) (.type "RuntimeError") = some true) (hno : PySem.W.findIn K (.ref C) "place" = some none) :
    FnOk P w K mg base CX0 1 f fd ["self", "place"] (spInit1 C "place") := by
  refine ok_super tlRT O F scIniU rfl rfl (by decide +kernel) zs hsup hB (fun vs H Q E h => ?_) _ (fun _ => rfl) (fun _ => rfl) (fun A outer s H vs Q E h => ?_)
  · obtain ⟨a, y, rfl, _⟩ := h
    rfl
  · obtain ⟨a, y, rfl, ea, k⟩ := h
    refine ⟨⟨a, rfl, ea⟩, _, pss_one (ps_first tlRT O (pv 0) (pv 1)), ?_⟩
    exact ⟨_, rfl, _, rfl, a, rfl, ea, hno, fun dx n ne => k dx n ne⟩
end
end Sl
/-! ## P25 -/
set_option Elab.async false
set_option linter.all false
set_option maxRecDepth 100000
set_option maxHeartbeats 4000000
namespace Sl
open PySem PySem.Spec PyProof.Rows L2
/-- x is a text that is a word, or none -/
def Wordy (K : PySem.W.Frag) (H : Hp) (x : V) (b : Bool) : Prop := (∃ z : Str, x = .str z ∧ z.length ≤ 10000 ∧ isWordS z = b) ∨ (b = false ∧ ∃ k : Kd, Is K H x k ∧ k ≠ .str)
def spCheckWord (K : PySem.W.Frag) (C5 : Addr) : Sp := fun vs H Q E => ∃ (x : V) (b : Bool), vs = [x] ∧ Wordy K H x b ∧ (b = true → ∀ H', Ext H H' → Q .non H') ∧
  (b = false → ∀ H' d, Ext H H' → H d = none → H' d = some (.xd [("value", x)]) → E (.ref C5) (some d) H')
/-- an own error of one parameter stands at its name -/
structure ErrAt (P : Program) (w : World) (K : PySem.W.Frag) (mg : Str → Option Value) (base : Heap) (x fld : Str) (C fI : Addr) (fd : FuncData) (B newId initId : String) (tl : List Value) : Prop where
  g : mg x = some (.ref C)
  one : OneC K C newId tl
  ini : PySem.W.findIn K (.ref C) "__init__" = some (some (.ref fI))
  fn : PySem.W.typeIn K (.ref fI) = some (.type "function")
  ok : FnOk P w K mg base CX0 1 fI fd ["self", fld] (spInit1 C fld)
  b : L2.Binds K fd ["self", fld] []
section
variable {P : Program} {w : World} {K : PySem.W.Frag} {mg : Str → Option Value} {base : Heap}
theorem scCheckWord : FnScope ["value"] ["value"] (defScope sCheckWord) := ⟨rfl, rfl, rfl, by decide +kernel, rfl, by decide +kernel, by decide +kernel⟩
theorem ok_checkword {f fW C5 f5 : Addr} {fd fdW fd5 : FuncData} (F : Fun K "check_word" "check_word" sCheckWord f fd) (aW : At K mg "is_word" fW fdW ["value"] []) (gW : FnOk P w K mg base CX0 1 fW fdW ["value"] (spIsWord K))
    (e5 : ErrAt P w K mg base "InvalidWord" "value" C5 f5 fd5 "ValueError" "ValueError.__new__" "ValueError.__init__" veT) :
    FnOk P w K mg base (L2.CX P w) 3 f fd ["value"] (spCheckWord K C5) := by
  refine F.okX scCheckWord (fun vs H Q E h => ?_) (fun cdv A0 outer s H vs Q E hr h => ?_)
  · obtain ⟨x, b, rfl, _⟩ := h
    rfl
  · obtain ⟨x, b, rfl, wd, k1, k2⟩ := h
    refine ⟨_, pss_one (ps_if (pt_not (pt_val (pe_call gW (hr.mono (by decide)) (by rfl) aW.g aW.kp aW.b .nil pass0 (pa_cons (pv 0) pa_nil))))
      (pss_one (L2.ps_raise rfl (takes_of rfl rfl rfl rfl) (pmk_one tlVE e5.one e5.ini e5.fn e5.ok hr e5.b pass0 (by rfl) e5.g (pa_cons (pv 0) pa_nil)))) pss_nil), ?_⟩
    have bad : ∀ H1, Ext H H1 → b = false → ∀ d, H1 d = none → E (.ref C5) (some d) (upd H1 d (.xd [("value", x)])) := fun H1 x1 hb d nd => k2 hb _ d (x1.trans (Ext.new nd)) (x1.free nd) upd_same
    rcases wd with ⟨z, rfl, hz, hb⟩ | ⟨hb, kd, hk, hs⟩
    · refine ⟨_, rfl, _, rfl, .inl ⟨z, rfl, hz, fun H1 x1 => ?_⟩⟩
      rw [hb]
      cases b with
      | true => exact ⟨true, rfl, iteF (k1 rfl H1 x1)⟩
      | false => exact ⟨false, rfl, iteT ⟨_, rfl, _, rfl, fun d nd => bad H1 x1 rfl d nd⟩⟩
    · subst hb
      exact ⟨_, rfl, _, rfl, .inr ⟨kd, hk, hs, false, rfl, iteT ⟨_, rfl, _, rfl, fun d nd => bad H (Ext.refl H) rfl d nd⟩⟩⟩
end
end Sl
/-! ## P26 -/
set_option Elab.async false
set_option linter.all false
set_option maxRecDepth 100000
set_option maxHeartbeats 4000000
namespace Sl
open PySem PySem.Spec PyProof.Rows L2
def spReading (K : PySem.W.Frag) (C C5 C6 : Addr) : Sp := fun vs H Q E => ∃ (p : Addr) (x : V) (w0 : Bool) (rows : List Rw) (ends : List Int) (b n : Int), vs = [.ref p, x] ∧ ReaderAt C H p rows ends b ∧ okRows n rows ∧ 0 ≤ b ∧ b < n ∧ ends.length ≤ 100 ∧ Wordy K H x w0 ∧
  (w0 = false → ∀ H' d, Ext H H' → H d = none → H' d = some (.xd [("value", x)]) → E (.ref C5) (some d) H') ∧
  (∀ z : Str, x = .str z → w0 = true → ∀ H', Ext H H' →
    if (walkL rows b (signsOf z)).length = z.length ∧ lastOf b (walkL rows b (signsOf z)) ∈ ends then ∀ T, H T = none → H' T = some (.tup ((toldOf (walkL rows b (signsOf z))).map V.str)) → Q (.ref T) H'
    else ∀ d, H d = none → H' d = some (.xd [("place", .int (walkL rows b (signsOf z)).length)]) → E (.ref C6) (some d) H')
section
variable {P : Program} {w : World} {K : PySem.W.Frag} {mg : Str → Option Value} {base : Heap}
theorem scReading : FnScope ["reader", "page", "walk"] ["reader", "page"] (defScope sReading) := ⟨rfl, rfl, rfl, by decide +kernel, rfl, by decide +kernel, by decide +kernel⟩
theorem ok_reading {f C fW fR fL fS pS fE fC C5 C6 f6 : Addr} {fd fdW fdR fdL fdS fdE fdC fd6 : FuncData} (F : Fun K "reading" "reading" sReading f fd) (T : RdC K C)
    (aC : At K mg "check_word" fC fdC ["value"] []) (gC : FnOk P w K mg base (L2.CX P w) 3 fC fdC ["value"] (spCheckWord K C5))
    (aW : At K mg "_walk" fW fdW ["reader", "state", "word"] []) (gW : FnOk P w K mg base CX0 5 fW fdW ["reader", "state", "word"] (spWalk C))
    (aR : At K mg "_row" fR fdR ["walk"] []) (gR : FnOk P w K mg base CX0 1 fR fdR ["walk"] spRow)
    (aL : At K mg "_last_state" fL fdL ["first", "walk"] []) (gL : FnOk P w K mg base CX0 1 fL fdL ["first", "walk"] spLast)
    (hS : PropOf K C "start" pS fS) (bS : L2.Binds K fdS ["self"] []) (gS : FnOk P w K mg base CX0 1 fS fdS ["self"] (spStart C))
    (mE : Meth K C "ends" fE) (bE : L2.Binds K fdE ["self"] []) (gE : FnOk P w K mg base CX0 1 fE fdE ["self"] (spEnds C))
    (e6 : ErrAt P w K mg base "Unreadable" "place" C6 f6 fd6 "RuntimeError" "RuntimeError.__new__" "RuntimeError.__init__" rtT) (zn : mg "len" = none) :
    FnOk P w K mg base (L2.CX P w) 6 f fd ["reader", "page"] (spReading K C C5 C6) := by
  refine F.okX scReading (fun vs H Q E h => ?_) (fun cdv A0 outer s H vs Q E hr h => ?_)
  · obtain ⟨p, x, w0, rows, ends, b, n, rfl, _⟩ := h
    rfl
  · obtain ⟨p, x, w0, rows, ends, b, n, rfl, RA, ok, b0, bn, el, wd, k1, k2⟩ := h
    have hr1 : Room 1 _ := hr.mono (by decide)
    have hr2 : Room 2 _ := hr.mono (by decide)
    have hr3 : Room 3 _ := hr.mono (by decide)
    refine ⟨_, pss_cons (ps_expr (pe_callS (E := WE fun cls d _ H => E cls d H) gC hr3 (by rfl) aC.g aC.kp aC.b (passAt (takes_of rfl rfl rfl rfl)) (pa_cons (pv 1) pa_nil)))
      (pss_cons (ps_set (i := 2) scReading.nd rfl (.inl rfl) (pe_call gW hr (by rfl) aW.g aW.kp aW.b .nil pass0 (pa_cons (pv 0) (pa_cons (pe_prop (pv 0) T.cl hS gS hr2 bS .nil pass0 rfl) (pa_cons (pv 1) pa_nil)))))
      (pss_cons (ps_if (PW.pt (pw_or (pt_cmpR op_lt (pe_callB call_len_seq (by rfl) zn PySem.boot_len (pa_cons (pv 2) pa_nil)) (pe_callB call_len_str (by rfl) zn PySem.boot_len (pa_cons (pv 1) pa_nil)) (by rfl))
          (pw_or1 (pt_cmpR op_notIn_seq (pe_call gL hr1 (by rfl) aL.g aL.kp aL.b .nil pass0 (pa_cons (pe_prop (pv 0) T.cl hS gS hr2 bS .nil pass0 rfl) (pa_cons (pv 2) pa_nil))) (pe_meth0 (pv 0) T.cl mE gE hr1 bE .nil pass0) (by rfl)))))
        (pss_one (L2.ps_raise rfl (takes_of rfl rfl rfl rfl) (pmk_one tlRT e6.one e6.ini e6.fn e6.ok hr2 e6.b pass0 (by rfl) e6.g (pa_cons (pe_callB call_len_seq (by rfl) zn PySem.boot_len (pa_cons (pv 2) pa_nil)) pa_nil)))) pss_nil)
      (pss_one (ps_ret (pe_call gR hr1 (by rfl) aR.g aR.kp aR.b .nil pass0 (pa_cons (pv 2) pa_nil)))))), ?_⟩
    refine ⟨_, rfl, x, w0, rfl, wd, fun hw H1 x1 => ?_, fun hw H' d x1 nd hd => k1 hw H' d x1 nd hd⟩
    subst hw
    rcases wd with ⟨z, rfl, hz, hb⟩ | ⟨hb, _⟩
    · have RA1 := RA.ext x1
      obtain ⟨dx, fs, L0, ds, Te, a1, a2, a3, a4, a5, a6, a7, a8⟩ := RA1.ex
      refine ⟨_, rfl, _, rfl, p, dx, fs, rfl, a1, p, rows, ends, b, rfl, RA1, _, rfl, p, b, z, rows, ends, b, n, rfl, RA1, ok, b0, bn, hz, fun H2 L ts x2 nL l2 m2 => ?_⟩
      have RA2 := RA1.ext x2
      have x02 := x1.trans x2
      obtain ⟨dx2, fs2, L2', ds2, Te2, c1, c2, c3, c4, c5, c6, c7, c8⟩ := RA2.ex
      have kk := k2 z rfl rfl
      have lw := walk_len rows (signsOf z) b
      have ls : (signsOf z).length = z.length := by
        unfold signsOf
        rw [List.length_map, Array.length_toList]
        rfl
      generalize walkL rows b (signsOf z) = ms at m2 kk lw
      have lts : (ts.map V.ref).length = ms.length := by rw [List.length_map, m2.len]
      have bad : ¬ (ms.length = z.length ∧ lastOf b ms ∈ ends) → ∀ H3, Ext H2 H3 → ∀ d, H3 d = none → E (.ref C6) (some d) (upd H3 d (.xd [("place", .int ((ts.map V.ref).length : Nat))])) := fun hn H3 x3 d nd => by
        have q := kk (upd H3 d (.xd [("place", .int ((ts.map V.ref).length : Nat))])) ((x02.trans x3).trans (Ext.new nd))
        rw [if_neg hn] at q
        exact q d ((x02.trans x3).free nd) (by rw [upd_same, lts])
      refine ⟨_, rfl, L, _, rfl, .inl (SqL.of l2), _, rfl, z, rfl, small_size hz, _, _, rfl, rfl, _, rfl, ?_⟩
      by_cases short : ((ts.map V.ref).length : Int) < (z.length : Int)
      · rw [decide_eq_true short]
        refine iteT (iteT ⟨_, rfl, L, _, rfl, .inl (SqL.of l2), _, rfl, fun d nd => bad (fun h => ?_) H2 (Ext.refl H2) d nd⟩)
        have := h.1
        omega
      · rw [decide_eq_false short]
        refine iteF ?_
        refine ⟨_, rfl, p, dx2, fs2, rfl, c1, p, rows, ends, b, rfl, RA2, _, rfl, L, ts, ms, b, rfl, l2, m2, ?_⟩
        refine ⟨_, rfl, p, dx2, fs2, rfl, c1, c8 _ (by decide +kernel), p, rows, ends, b, rfl, RA2, fun Te3 hTe => ?_⟩
        refine ⟨Te3, _, rfl, .inr (SqT.of hTe), rfl, flat_ints ends, ?_⟩
        rw [if_pos rfl, inV_ints]
        refine ⟨_, rfl, ?_⟩
        by_cases last : lastOf b ms ∈ ends
        · rw [decide_eq_true last]
          refine iteF ?_
          refine ⟨_, rfl, L, ts, ms, rfl, l2, m2, by omega, fun H3 T3 x3 nT h3 => ?_⟩
          have q := kk H3 (x02.trans x3)
          rw [if_pos ⟨by omega, last⟩] at q
          exact q T3 (x02.free nT) h3
        · rw [decide_eq_false last]
          refine iteT ⟨_, rfl, L, _, rfl, .inl (SqL.of l2), _, rfl, fun d nd => bad (fun h => last h.2) H2 (Ext.refl H2) d nd⟩
    · cases hb
end
end Sl
/-! ## Q8 -/
set_option Elab.async false
set_option linter.all false
set_option maxRecDepth 100000
set_option maxHeartbeats 4000000
/-! isinstance of a caught own error that has fields: a class, a written tuple of classes -/
namespace Sl
open PySem PySem.Spec PyProof.Rows L2
def rIsD (K : PySem.W.Frag) (D a dd : Addr) : List V → Hp → VK → Prop := fun xs H Q => ∃ (c : V) (b : Bool) (fs : List (Str × V)), xs = [.ref a, c] ∧ H dd = some (.xd fs) ∧
  ((∃ cv, (∀ u, L2.RelV c u → u = cv) ∧ PySem.W.kitOne K (.ref D) cv = some b) ∨ (∃ (tp : Addr) (ys : List V) (its : List Value), c = .ref tp ∧ SqT K H tp ys ∧ (∀ us, Vals ys us → us = its) ∧ PySem.W.kitAny K (.ref D) its = some b)) ∧ Q (.bl b) H
theorem call_isD {X : Cx} {a D dd : Addr} {oe : Obj} {pn : List (Addr × Obj)} (C : ExcC X.K D) (hz : Zc (.ref D) (some dd) oe) (hf : ∃ vs, oe.data = .fields vs) : CallR (X.suite a ((a, oe) :: pn)) (.builtin "isinstance") (rIsD X.K D a dd) := by
  intro pins s σ H xs us Q I r h
  obtain ⟨c, b, fs, rfl, hd, e, q⟩ := h
  have out : ∀ tk, EP (X.suite a ((a, oe) :: pn)) pins σ Q (.bool b) { s with toks := tk } := fun tk => ⟨.bl b, H, I.kept (t' := tk) fun _ _ z => z, rfl, q⟩
  cases r with
  | cons rx rr =>
    cases rr with
    | cons rt rr =>
      cases rr
      cases rx
      obtain ⟨hget, _⟩ := I.pin (a, oe) (List.mem_append.mpr (.inl List.mem_cons_self))
      obtain ⟨vs, hv⟩ := hf
      have hx : ObjOk X.prog X.w H s.heap dd (.xd fs) := I.hok dd _ hd
      obtain ⟨mA, hns, hr⟩ := hx
      obtain ⟨od, ho, hl⟩ := lookIn_ns hns
      have J : PySem.W.InstAt s.heap a oe D (some od) := ⟨hget, hz.1, by unfold PySem.W.notCls; rw [hv] <;> rfl, by rw [hz.2]; exact ho⟩
      have cl : (PySem.W.clsIn X.K D).isSome = true := by
        obtain ⟨cd, z, _⟩ := PySem.W.any_some C.hd
        rw [z]
        rfl
      have Z := PySem.W.kitx_exc (x := a) (ox := oe) (od := some od) cl C.hg C.hk C.hs C.ha C.hn C.ht C.hm
      rcases e with ⟨cv, hcv, e⟩ | ⟨tp, ys, its, rfl, hs, hits, e⟩
      · have ec := hcv _ rt
        subst ec
        exact PySem.W.kia_one Z I.kIn J e (fun z => nomatch z) out
      · cases rt
        obtain ⟨its', rv, ⟨o, h1, h2, n, h3⟩, _⟩ := I.tuple hs
        have ei := hits _ rv
        subst ei
        obtain ⟨oc, od', oda, osl⟩ := o
        simp only at h2 h3
        subst h2 h3
        exact PySem.W.kia_tup Z I.kIn J h1 e (fun z => nomatch z) out
/-- the same, whatever is caught: the reading says what it is -/
def rIsG (K : PySem.W.Frag) (a : Addr) (cls : Value) (d : Option Addr) : List V → Hp → VK → Prop := fun xs H Q => ∃ D dd : Addr, cls = .ref D ∧ d = some dd ∧ ExcC K D ∧ rIsD K D a dd xs H Q
theorem call_isG {X : Cx} {a : Addr} {cls : Value} {d : Option Addr} {oe : Obj} {pn : List (Addr × Obj)} (hz : Zc cls d oe) (hf : ∃ vs, oe.data = .fields vs) : CallR (X.suite a ((a, oe) :: pn)) (.builtin "isinstance") (rIsG X.K a cls d) := by
  intro pins s σ H xs us Q I r h
  obtain ⟨D, dd, rfl, rfl, C, h⟩ := h
  exact call_isD C hz hf pins s σ H xs us Q I r h
end Sl
/-! ## Q9 -/
set_option Elab.async false
set_option linter.all false
set_option maxRecDepth 100000
set_option maxHeartbeats 4000000
/-! f(k = v, ..), all by name, of a def that may raise -/
namespace Sl
open PySem PySem.Spec PyProof.Rows L2
def tKwS (n : Nat) (sp : Sp) (gV : List V → List V) (E : L2.St → XK) (tk : TA) : TE := fun σ H Q => tk σ H fun zs H1 => zs.length = n ∧ sp (gV zs) H1 Q (E σ)
section
variable {X : Cx} {CX : CXT} {k : Nat} {f : Addr} {fd : FuncData} {ps ks : List Str} {sp : Sp} {E : L2.St → XK} {x : Str} {p pos : Pos} {kws : List Keyword} {tk : TA} {g : List Value → List Value → List Value} {gV : List V → List V → List V}
theorem pe_kwS (G : FnOk X.prog X.w X.K X.mg X.base CX k f fd ps sp) (hr : Room k X.A) (hg : Gl X x) (hm : X.mg x = some (.ref f)) (hk : PySem.W.keepIn X.K (.ref f) = true) (hb : KBn X.K fd ps 0 ks g gV) (hx : ∀ σ, PassesAt CX X σ (E σ))
    (hkw : PK X kws tk) (hall : (backToKw pos (keywordEach kws X.env)).all (·.1.isSome) = true := by rfl) (hks : (backToKw pos (keywordEach kws X.env)).filterMap (·.1) = ks := by rfl)
    (hdb : (x == ("__debug__" : Str)) = false := by decide) (hpl : ((backTo pos (starEach [] X.env)).any (·.1) || (backToKw pos (keywordEach kws X.env)).any (·.1.isNone)) = false := by rfl) :
    PE X (.Call (.Name x p) [] kws pos) (tKwS ks.length sp (gV []) E tk) := by
  refine ⟨fun pins s σ H Q I h => ?_⟩
  refine wpAny_Call_Name_kw (ld_glob I hg hm ?_ hdb)
  refine PySem.W.callWith_KW0 (h₀ := X.base) I.ok.mod.kin hk hall ?_ hpl
  refine thn (hkw.run pos pins _ σ H _ I h) fun ws s2 ⟨zs, H2, I2, rz, l2, q2⟩ => ⟨I2.kIn, ?_⟩
  rw [hks]
  have r2 := hb.rel .nil rz
  refine wpAny_call (codeAny_mono (G.run X.A X.stack s2 H2 ⟨[], ks.zip ws⟩ (g [] ws) (gV [] zs) Q (E σ) hr I2.env0 (hb.to s2 [] ws I2.kIn rfl (rz.length.symm.trans l2)) r2 q2) fun c s' hq => ?_)
  cases c with
  | error er => exact hx σ pins H2 s2 er s' I2 hq
  | ok fl =>
    cases fl with
    | ret u => exact I2.after hq
    | next => exact hq.elim
    | brk => exact hq.elim
    | cont => exact hq.elim
end
end Sl
/-! ## P27 -/
set_option Elab.async false
set_option linter.all false
set_option maxRecDepth 100000
set_option maxHeartbeats 4000000
namespace Sl
open PySem PySem.Spec PyProof.Rows L2
abbrev sAsked : Stmt := top 44
section
variable {P : Program} {w : World} {K : PySem.W.Frag} {mg : Str → Option Value} {base : Heap}
theorem scAsked : FnScope ["_law_made", "_law_paper", "_law_is_named", "_law_told", "e"] ["_law_made", "_law_paper", "_law_is_named"] (defScope sAsked) := ⟨rfl, rfl, rfl, by decide +kernel, rfl, by decide +kernel, by decide +kernel⟩
/-- nested data, or an empty dict -/
def Dq (K : PySem.W.Frag) (H : Hp) (v : V) (d : PyData) : Prop := (Dp K H v d ∧ d.hasDict = false) ∨ ∃ a, v = .ref a ∧ H a = some (.dK []) ∧ d = .dict []
def rShownQ (K : PySem.W.Frag) : List V → Hp → VK → Prop := fun xs H Q => ∃ (a : Addr) (s : Str) (x : V) (d : PyData), xs = [.ref a] ∧ H a = some (.lst [.str s, x]) ∧ Dq K H x d ∧ d.showable = true ∧ d.depth ≤ 50 ∧ (PyData.list [.str s, d]).shown.length ≤ sizeLine ∧ Q (.str (PyData.list [.str s, d]).shown) H
theorem cr_shownQ {X : Cx} (gd : X.A.guards = some []) (hu : X.A.units + 64 < cLine) (sys : ∃ o, X.base.get? sysModules = some o) : CallR X (.builtin "repr") (rShownQ X.K) := by
  intro pins s σ H xs us Q I r h
  obtain ⟨a, t, x, d, rfl, hl, hd, sh, dp, sz, q⟩ := h
  cases r with
  | cons ru rn =>
    cases rn
    cases ru
    obtain ⟨o0, ls⟩ := sys
    have hs : H sysModules = none := (I.bs _ _ ls).2
    obtain ⟨its, n, rv, ho, hz⟩ := I.lst hl
    cases rv with
    | cons r1 rv =>
      cases rv with
      | cons r2 rv =>
        cases rv
        obtain ⟨tk1, rfl⟩ := r1
        rename_i u2
        have rx : ∃ as, Reads s.heap u2 d as ∧ (d.hasDict = true → sysModules ∉ as) := by
          rcases hd with ⟨hd, nd⟩ | ⟨b, rfl, hb, rfl⟩
          · obtain ⟨as, z⟩ := Dp.reads I d _ _ hd r2
            exact ⟨as, z, PyData.noDict_hsm nd⟩
          · obtain ⟨_, nsys, vs, kv, dd⟩ := dk_of I.hok hb
            cases kv
            cases r2
            obtain ⟨o, es, n, z⟩ := dd
            obtain ⟨z1, ⟨z2, _⟩, z3, _, z4, _⟩ := z
            have ee : es.toList = [] := by
              generalize es.toList = l at z4
              cases z4
              rfl
            refine ⟨_, .dict z1 z2 z3 (by rw [ee]; exact .nil) (by rw [ee]; exact .nil), fun _ hm => ?_⟩
            have hm : sysModules ∈ ([b] : List Addr) := hm
            rw [List.mem_singleton.mp hm] at nsys
            simp at nsys
        obtain ⟨as, rx, hx⟩ := rx
        have all : ReadsAll s.heap [Value.str t tk1, u2] [.str t, d] ([] ++ (as ++ [])) := .cons (.str t tk1) (.cons rx .nil)
        have rd : Reads s.heap (.ref a) (.list [.str t, d]) (a :: ([] ++ (as ++ []))) := .list ho rfl rfl all
        have na : a ≠ sysModules := fun e => by
          rw [← e, hl] at hs
          cases hs
        refine repr_of_reads' rd ?_ (fun hd => ?_) gd ?_ (fun _ _ z => z) (fun h' u tk kk => ⟨.str _, H, I.kept (t' := tk) kk, ⟨_, rfl⟩, q⟩) sz
        · simpa [PyData.showable, PyData.showableAll] using sh
        · have h2 : d.hasDict = true := by simpa [PyData.hasDict, PyData.hasDictAll] using hd
          have := hx h2
          simp only [List.nil_append, List.append_nil, List.mem_cons, not_or]
          exact ⟨fun e => na e.symm, this⟩
        · have : (PyData.list [.str t, d]).depth ≤ 52 := by
            simp only [PyData.depth, PyData.depthAll]
            omega
          omega
/-- what asking tells: its word, its thing -/
def askD (rows : List Rw) (ends : List Int) (b : Int) (x : V) (w0 : Bool) (dx : PyData) : Str × PyData :=
  match w0, x with
  | true, .str z => if (walkL rows b (signsOf z)).length = z.length ∧ lastOf b (walkL rows b (signsOf z)) ∈ ends then ("told", .tuple ((toldOf (walkL rows b (signsOf z))).map PyData.str)) else ("unreadable", .int (walkL rows b (signsOf z)).length)
  | _, _ => ("word", dx)
def Fit (q : Str × PyData) : Prop := q.2.showable = true ∧ q.2.depth ≤ 50 ∧ (PyData.list [.str q.1, q.2]).shown.length ≤ sizeLine
def spAsked (K : PySem.W.Frag) (C : Addr) : Sp := fun vs H Q _ => ∃ (p : Addr) (x : V) (nm w0 : Bool) (rows : List Rw) (ends : List Int) (b n : Int) (dx : PyData), vs = [.ref p, x, .bl nm] ∧ ReaderAt C H p rows ends b ∧ okRows n rows ∧ 0 ≤ b ∧ b < n ∧ ends.length ≤ 100 ∧ Wordy K H x w0 ∧
  (∀ H', Ext H H' → Dq K H' x dx) ∧ Fit (askD rows ends b x w0 dx) ∧ ∀ H', Ext H H' → Q (.str (PyData.list [.str (askD rows ends b x w0 dx).1, (askD rows ends b x w0 dx).2]).shown) H'
theorem Wordy.ext {K : PySem.W.Frag} {H H' : Hp} {x : V} {b : Bool} (w0 : Wordy K H x b) (h : ∀ k, Is K H x k → Is K H' x k) : Wordy K H' x b := by
  rcases w0 with w0 | ⟨e, k, hk, ne⟩
  · exact .inl w0
  · exact .inr ⟨e, k, h k hk, ne⟩
theorem strs_nodict0 : ∀ l : List Str, PyData.hasDictAll (l.map PyData.str) = false
  | [] => rfl
  | x :: l => by
    show (PyData.hasDict (.str x) || PyData.hasDictAll (l.map PyData.str)) = false
    rw [strs_nodict0 l]
    rfl
theorem strs_nodict (l : List Str) : (PyData.tuple (l.map PyData.str)).hasDict = false := by
  rw [show (PyData.tuple (l.map PyData.str)).hasDict = PyData.hasDictAll (l.map PyData.str) from by simp only [PyData.hasDict]]
  exact strs_nodict0 l
/-- what the errors' classes say -/
structure ErrK (K : PySem.W.Frag) (C5 C6 Cs : Addr) : Prop where
  c5 : ExcC K C5
  c6 : ExcC K C6
  m56 : PySem.W.exmOne K (.ref C5) (.ref C6) = some false
  m55 : PySem.W.exmOne K (.ref C5) (.ref C5) = some true
  m66 : PySem.W.exmOne K (.ref C6) (.ref C6) = some true
  k6r : PySem.W.kitOne K (.ref C6) (.type "RuntimeError") = some true
  k6t : PySem.W.kitAny K (.ref C6) [.ref Cs, .type "LookupError"] = some false
  k5s : PySem.W.kitOne K (.ref C5) (.ref Cs) = some true
  k5v : PySem.W.kitOne K (.ref C5) (.type "ValueError") = some true
theorem ok_asked {f C fR C5 C6 Cs f5 f6 : Addr} {fd fdR fd5 fd6 : FuncData} {g : List Value → List Value → List Value} (F : Fun K "_law_asked" "_law_asked" sAsked f fd)
    (aR : At K mg "reading" fR fdR ["reader", "page"] []) (bR : KBn K fdR ["reader", "page"] 0 ["page", "reader"] g (fun _ zs => zs.reverse)) (gR : FnOk P w K mg base (L2.CX P w) 6 fR fdR ["reader", "page"] (spReading K C C5 C6))
    (g5 : mg "InvalidWord" = some (.ref C5)) (g6 : mg "Unreadable" = some (.ref C6)) (gs : mg "SlotsError" = some (.ref Cs)) (zi : mg "isinstance" = none) (zr : mg "RuntimeError" = none) (zl : mg "LookupError" = none) (zv : mg "ValueError" = none) (zp : mg "repr" = none)
    (sys : ∃ o, base.get? sysModules = some o) (ek : ErrK K C5 C6 Cs) (wx : ∀ (x : V) (k : Kd) (H H' : Hp), Ext H H' → Is K H x k → Is K H' x k) (x5 : XfC K C5) (x6 : XfC K C6) (n5 : PySem.W.findIn K (.ref C5) "value" = some none) (n6 : PySem.W.findIn K (.ref C6) "place" = some none) :
    FnG P w K mg base CX0 7 f fd ["_law_made", "_law_paper", "_law_is_named"] (spAsked K C) := by
  refine Sl.Fun.okG F scAsked (fun vs H Q E h => ?_) (fun cdv A0 outer s H vs Q E0 gd hr h => ?_)
  · obtain ⟨p, x, nm, w0, rows, ends, b, n, dx, rfl, _⟩ := h
    rfl
  · obtain ⟨p, x, nm, w0, rows, ends, b, n, dx, rfl, RA, ok, b0, bn, el, wd, hdq, fit, k⟩ := h
    refine ⟨_, pss_cons (ps_set (i := 3) scAsked.nd rfl (.inl rfl) (pe_lst (pa_cons pe_str pa_nil)))
      (pss_cons (ps_try_asL (n := "e") (i := 4) (Wout := fun _ _ _ _ => False) rfl rfl scAsked.nd rfl (by rfl) takes0
        (fun W pn xe tk pass => pss_one (ps_set (i := 3) scAsked.nd rfl (.inl rfl) (pe_lst (pa_cons pe_str (pa_cons (pe_ifExp (pt_val (pv 2))
          (pe_kwS (E := WE W) gR hr (by rfl) aR.g aR.kp bR (passAt tk) (pk_cons (pv 1) (pk_cons (pv 0) pk_nil)))
          (pe_callS (E := WE W) gR hr (by rfl) aR.g aR.kp aR.b (passAt tk) (pa_cons (pv 0) (pa_cons (pv 1) pa_nil)))) pa_nil)))))
        (.cons (p := (.ref C6, _)) ⟨by rfl, by decide, .inl g6⟩ (fun a oe cls d pn hz hf => pss_one (ps_if (PW.pt (pw_and (pt_val (pe_callB (call_isG hz hf) (by rfl) zi (by decide +kernel) (pa_cons (pv 4) (pa_cons (pe_bltn (by rfl) zr (by decide +kernel) (rel_ty "RuntimeError")) pa_nil))))
            (pw_and1 (pt_not (pt_val (pe_callB (call_isG hz hf) (by rfl) zi (by decide +kernel) (pa_cons (pv 4) (pa_cons (pe_tup (pa_cons (pe_glob (by rfl) gs (show L2.RelV (.ref Cs) (.ref Cs) from rfl)) (pa_cons (pe_bltn (by rfl) zl (by decide +kernel) (rel_ty "LookupError")) pa_nil))) pa_nil))))))))
            (pss_one (ps_set (i := 3) scAsked.nd rfl (.inl rfl) (pe_lst (pa_cons pe_str (pa_cons (pe_xf x6 n6 hz hf (pv 4)) pa_nil))))) pss_nil))
        (.cons (p := (.ref C5, _)) ⟨by rfl, by decide, .inl g5⟩ (fun a oe cls d pn hz hf => pss_one (ps_if (PW.pt (pw_and (pt_val (pe_callB (call_isG hz hf) (by rfl) zi (by decide +kernel) (pa_cons (pv 4) (pa_cons (pe_glob (by rfl) gs (show L2.RelV (.ref Cs) (.ref Cs) from rfl)) pa_nil))))
            (pw_and1 (pt_val (pe_callB (call_isG hz hf) (by rfl) zi (by decide +kernel) (pa_cons (pv 4) (pa_cons (pe_bltn (by rfl) zv (by decide +kernel) (rel_ty "ValueError")) pa_nil)))))))
            (pss_one (ps_set (i := 3) scAsked.nd rfl (.inl rfl) (pe_lst (pa_cons pe_str (pa_cons (pe_xf x5 n5 hz hf (pv 4)) pa_nil))))) pss_nil)) .nil)))
      (pss_one (ps_ret (pe_callB (cr_shownQ gd hr.units sys) (by rfl) zp (by decide +kernel) (pa_cons (pv 3) pa_nil))))), ?_⟩
    refine ⟨by show 1 ≤ sizeLine; decide, fun L1 nL1 => ?_⟩
    have x1 : Ext H (upd H L1 (.lst [.str "other"])) := Ext.new nL1
    generalize upd H L1 (.lst [.str "other"]) = H1 at x1 ⊢
    have RR : ∀ (Q' : VK) (E' : XK), (w0 = false → ∀ H' d, Ext H1 H' → H1 d = none → H' d = some (.xd [("value", x)]) → E' (.ref C5) (some d) H') →
        (∀ z : Str, x = .str z → w0 = true → ∀ H', Ext H1 H' → if (walkL rows b (signsOf z)).length = z.length ∧ lastOf b (walkL rows b (signsOf z)) ∈ ends then ∀ T, H1 T = none → H' T = some (.tup ((toldOf (walkL rows b (signsOf z))).map V.str)) → Q' (.ref T) H'
          else ∀ d, H1 d = none → H' d = some (.xd [("place", .int (walkL rows b (signsOf z)).length)]) → E' (.ref C6) (some d) H') → spReading K C C5 C6 [.ref p, x] H1 Q' E' := fun Q' E' q1 q2 =>
      ⟨p, x, w0, rows, ends, b, n, rfl, RA.ext x1, ok, b0, bn, el, wd.ext fun kd hk => wx x kd H H1 x1 hk, q1, q2⟩
    dsimp only [tLst, tCons, tNil]
    cases nm with
    | false =>
      refine ⟨_, rfl, false, rfl, iteF ⟨_, rfl, _, rfl, ?_⟩⟩
      dsimp only [tNil]
      refine RR _ _ ?_ ?_
      · intro hw H2 d x2 nd hd
        subst hw
        have x02 := x1.trans x2
        refine ⟨false, ek.m56, iteF ⟨true, ek.m55, iteT fun a na => ?_⟩⟩
        refine ⟨_, rfl, C5, d, rfl, rfl, ek.c5, _, true, _, rfl, hd, .inl ⟨.ref Cs, fun u h => h, ek.k5s⟩, true, rfl, iteT ?_⟩
        refine ⟨_, rfl, C5, d, rfl, rfl, ek.c5, _, true, _, rfl, hd, .inl ⟨.type "ValueError", fun u h => h, ek.k5v⟩, true, rfl, iteT ?_⟩
        refine ⟨_, rfl, rfl, rfl, d, _, x, rfl, hd, rfl, by show 2 ≤ sizeLine; decide, fun L nL => ?_⟩
        exact ⟨_, rfl, L, "word", x, dx, rfl, upd_same, hdq _ (x02.trans (Ext.new nL)), fit.1, fit.2.1, fit.2.2, k _ (x02.trans (Ext.new nL))⟩
      · intro z hx hw H2 x2
        subst hx
        subst hw
        have x02 := x1.trans x2
        by_cases c : (walkL rows b (signsOf z)).length = z.length ∧ lastOf b (walkL rows b (signsOf z)) ∈ ends
        · rw [if_pos c]
          intro T nT hT
          have ea : askD rows ends b (.str z) true dx = (("told" : Str), PyData.tuple ((toldOf (walkL rows b (signsOf z))).map PyData.str)) := if_pos c
          rw [ea] at fit k
          refine ⟨by show 2 ≤ sizeLine; decide, fun L nL => ?_⟩
          exact ⟨_, rfl, L, "told", .ref T, _, rfl, upd_same, .inl ⟨.tup (SqT.of ((Ext.new nL) _ _ hT)) (strs_dp _), strs_nodict _⟩, fit.1, fit.2.1, fit.2.2, k _ (x02.trans (Ext.new nL))⟩
        · rw [if_neg c]
          intro d nd hd
          have ea : askD rows ends b (.str z) true dx = (("unreadable" : Str), PyData.int (walkL rows b (signsOf z)).length) := if_neg c
          rw [ea] at fit k
          refine ⟨true, ek.m66, iteT fun a na => ?_⟩
          refine ⟨_, rfl, C6, d, rfl, rfl, ek.c6, _, true, _, rfl, hd, .inl ⟨.type "RuntimeError", fun u h => h, ek.k6r⟩, true, rfl, iteT ?_⟩
          refine ⟨_, rfl, by show 2 ≤ sizeLine; decide, fun tp ntp => ⟨C6, d, rfl, rfl, ek.c6, _, false, _, rfl, (Ext.new ntp) _ _ hd, .inr ⟨tp, _, [.ref Cs, .type "LookupError"], rfl, SqT.of upd_same, fun us hv => ?_, ek.k6t⟩, false, rfl, iteT ?_⟩⟩
          · cases hv with
            | cons h1 hv =>
              cases hv with
              | cons h2 hv =>
                cases hv
                cases h1
                cases h2
                rfl
          · refine ⟨_, rfl, rfl, rfl, d, _, _, rfl, (Ext.new ntp) _ _ hd, rfl, by show 2 ≤ sizeLine; decide, fun L nL => ?_⟩
            exact ⟨_, rfl, L, "unreadable", _, _, rfl, upd_same, .inl ⟨.int _, rfl⟩, fit.1, fit.2.1, fit.2.2, k _ (x02.trans ((Ext.new ntp).trans (Ext.new nL)))⟩
    | true =>
      refine ⟨_, rfl, true, rfl, iteT ⟨_, rfl, _, rfl, ?_⟩⟩
      dsimp only [tNil]
      refine ⟨rfl, RR _ _ ?_ ?_⟩
      · intro hw H2 d x2 nd hd
        subst hw
        have x02 := x1.trans x2
        refine ⟨false, ek.m56, iteF ⟨true, ek.m55, iteT fun a na => ?_⟩⟩
        refine ⟨_, rfl, C5, d, rfl, rfl, ek.c5, _, true, _, rfl, hd, .inl ⟨.ref Cs, fun u h => h, ek.k5s⟩, true, rfl, iteT ?_⟩
        refine ⟨_, rfl, C5, d, rfl, rfl, ek.c5, _, true, _, rfl, hd, .inl ⟨.type "ValueError", fun u h => h, ek.k5v⟩, true, rfl, iteT ?_⟩
        refine ⟨_, rfl, rfl, rfl, d, _, x, rfl, hd, rfl, by show 2 ≤ sizeLine; decide, fun L nL => ?_⟩
        exact ⟨_, rfl, L, "word", x, dx, rfl, upd_same, hdq _ (x02.trans (Ext.new nL)), fit.1, fit.2.1, fit.2.2, k _ (x02.trans (Ext.new nL))⟩
      · intro z hx hw H2 x2
        subst hx
        subst hw
        have x02 := x1.trans x2
        by_cases c : (walkL rows b (signsOf z)).length = z.length ∧ lastOf b (walkL rows b (signsOf z)) ∈ ends
        · rw [if_pos c]
          intro T nT hT
          have ea : askD rows ends b (.str z) true dx = (("told" : Str), PyData.tuple ((toldOf (walkL rows b (signsOf z))).map PyData.str)) := if_pos c
          rw [ea] at fit k
          refine ⟨by show 2 ≤ sizeLine; decide, fun L nL => ?_⟩
          exact ⟨_, rfl, L, "told", .ref T, _, rfl, upd_same, .inl ⟨.tup (SqT.of ((Ext.new nL) _ _ hT)) (strs_dp _), strs_nodict _⟩, fit.1, fit.2.1, fit.2.2, k _ (x02.trans (Ext.new nL))⟩
        · rw [if_neg c]
          intro d nd hd
          have ea : askD rows ends b (.str z) true dx = (("unreadable" : Str), PyData.int (walkL rows b (signsOf z)).length) := if_neg c
          rw [ea] at fit k
          refine ⟨true, ek.m66, iteT fun a na => ?_⟩
          refine ⟨_, rfl, C6, d, rfl, rfl, ek.c6, _, true, _, rfl, hd, .inl ⟨.type "RuntimeError", fun u h => h, ek.k6r⟩, true, rfl, iteT ?_⟩
          refine ⟨_, rfl, by show 2 ≤ sizeLine; decide, fun tp ntp => ⟨C6, d, rfl, rfl, ek.c6, _, false, _, rfl, (Ext.new ntp) _ _ hd, .inr ⟨tp, _, [.ref Cs, .type "LookupError"], rfl, SqT.of upd_same, fun us hv => ?_, ek.k6t⟩, false, rfl, iteT ?_⟩⟩
          · cases hv with
            | cons h1 hv =>
              cases hv with
              | cons h2 hv =>
                cases hv
                cases h1
                cases h2
                rfl
          · refine ⟨_, rfl, rfl, rfl, d, _, _, rfl, (Ext.new ntp) _ _ hd, rfl, by show 2 ≤ sizeLine; decide, fun L nL => ?_⟩
            exact ⟨_, rfl, L, "unreadable", _, _, rfl, upd_same, .inl ⟨.int _, rfl⟩, fit.1, fit.2.1, fit.2.2, k _ (x02.trans ((Ext.new ntp).trans (Ext.new nL)))⟩
end
end Sl
/-! ## P28 -/
set_option Elab.async false
set_option linter.all false
set_option maxRecDepth 100000
set_option maxHeartbeats 4000000
namespace Sl
open PySem PySem.Spec PyProof.Rows L2
/-! the reader's rows stand in another sequence: the same moves, the same walks -/
theorem lookup_perm {r r' : Rw} (p : r.Perm r') (nd : (r.map (·.1)).Nodup) (z : Str) : r'.lookup z = r.lookup z := by
  have nd' : (r'.map (·.1)).Nodup := (p.map (·.1)).nodup_iff.mp nd
  by_cases c : z ∈ r.map (·.1)
  · obtain ⟨e, he, rfl⟩ := List.mem_map.mp c
    rw [lookup_mem nd (z := e.1) (m := e.2) he, lookup_mem nd' (z := e.1) (m := e.2) (p.mem_iff.mp he)]
  · rw [lookup_no c, lookup_no fun h => c ((p.map (·.1)).mem_iff.mpr h)]
theorem perms_at : ∀ {rows rows' : List Rw}, Perms rows rows' → (∀ r ∈ rows, (r.map (·.1)).Nodup) → ∀ (j : Nat) (z : Str), (rows'.getD j []).lookup z = (rows.getD j []).lookup z
  | _, _, .nil, _, _, _ => rfl
  | _, _, .cons p h, nd, 0, z => lookup_perm p (nd _ List.mem_cons_self) z
  | _, _, .cons p h, nd, j + 1, z => perms_at h (fun r hr => nd r (List.mem_cons_of_mem _ hr)) j z
theorem walk_perms {rows rows' : List Rw} (h : Perms rows rows') (nd : ∀ r ∈ rows, (r.map (·.1)).Nodup) : ∀ (zs : List Str) (q : Int), walkL rows' q zs = walkL rows q zs
  | [], _ => rfl
  | z :: zs, q => by
    have e : mvOf rows' q z = mvOf rows q z := perms_at h nd q.toNat z
    cases c : mvOf rows q z with
    | none => rw [walk_none c, walk_none (e.trans c)]
    | some m => rw [walk_some c, walk_some (e.trans c), walk_perms h nd zs m.1]
theorem okRow_perm {n : Int} {r r' : Rw} (p : r.Perm r') (h : okRow n r) : okRow n r' := fun e he => h e (p.mem_iff.mpr he)
theorem okRows_perms {n : Int} {rows rows' : List Rw} (h : Perms rows rows') (ok : okRows n rows) : okRows n rows' := by
  refine ⟨by rw [← h.len]; exact ok.1, ?_⟩
  have key : ∀ {a b : List Rw}, Perms a b → (∀ r ∈ a, okRow n r ∧ (r.map (·.1)).Nodup) → ∀ r ∈ b, okRow n r ∧ (r.map (·.1)).Nodup := by
    intro a b hp
    induction hp with
    | nil => exact fun _ r hr => by cases hr
    | cons p h ih =>
      intro k r hr
      rcases List.mem_cons.mp hr with e | m
      · rw [e]
        have := k _ List.mem_cons_self
        exact ⟨okRow_perm p this.1, (p.map (·.1)).nodup_iff.mp this.2⟩
      · exact ih (fun r hr => k r (List.mem_cons_of_mem _ hr)) r m
  exact key h ok.2
theorem askD_perms {rows rows' : List Rw} {ns ns' : List Int} {b : Int} {x : V} {w0 : Bool} {dx : PyData} (h : Perms rows rows') (nd : ∀ r ∈ rows, (r.map (·.1)).Nodup) (hn : ns'.Perm ns) : askD rows' ns' b x w0 dx = askD rows ns b x w0 dx := by
  unfold askD
  split
  · rename_i z
    rw [walk_perms h nd]
    by_cases c : (walkL rows b (signsOf z)).length = z.length ∧ lastOf b (walkL rows b (signsOf z)) ∈ ns
    · rw [if_pos c, if_pos ⟨c.1, hn.mem_iff.mpr c.2⟩]
    · rw [if_neg c, if_neg fun k => c ⟨k.1, hn.mem_iff.mp k.2⟩]
  · rfl
/-- what is due is what asking tells -/
theorem due_dp {K : PySem.W.Frag} {H : Hp} {R : Addr} {rows : List Rw} {ns : List Int} {b : Int} {z : Str} {dx : PyData} (h : DueAt H R rows ns b z) :
    Dp K H (.ref R) (.list [.str (askD rows ns b (.str z) true dx).1, (askD rows ns b (.str z) true dx).2]) := by
  unfold DueAt at h
  by_cases c : (walkL rows b (signsOf z)).length = z.length ∧ lastOf b (walkL rows b (signsOf z)) ∈ ns
  · rw [if_pos c] at h
    obtain ⟨T, h1, h2⟩ := h
    have e : askD rows ns b (.str z) true dx = (("told" : Str), PyData.tuple ((toldOf (walkL rows b (signsOf z))).map PyData.str)) := if_pos c
    rw [e]
    exact .lst (SqL.of h1) (.cons (.str _) (.cons (.tup (SqT.of h2) (strs_dp _)) .nil))
  · rw [if_neg c] at h
    have e : askD rows ns b (.str z) true dx = (("unreadable" : Str), PyData.int (walkL rows b (signsOf z)).length) := if_neg c
    rw [e]
    exact .lst (SqL.of h) (.cons (.str _) (.cons (.int _) .nil))
end Sl
/-! ## P29 -/
set_option Elab.async false
set_option linter.all false
set_option maxRecDepth 100000
set_option maxHeartbeats 4000000
namespace Sl
open PySem PySem.Spec PyProof.Rows L2
/-! what is shown is short -/
theorem walk_names {n : Int} {rows : List Rw} (ok : okRows n rows) : ∀ (zs : List Str) (q : Int), ∀ m ∈ walkL rows q zs, ∀ z, m.2 = some z → nameS z = true ∧ z.length ≤ 8
  | [], _, m, h, _, _ => by cases h
  | y :: zs, q, m, h, z, e => by
    cases c : mvOf rows q y with
    | none =>
      rw [walk_none c] at h
      cases h
    | some k =>
      rw [walk_some c] at h
      rcases List.mem_cons.mp h with r | r
      · rw [r] at e
        exact (mvOf_ok ok c).2 z e
      · exact walk_names ok zs k.1 m r z e
theorem told_names {n : Int} {rows : List Rw} (ok : okRows n rows) (zs : List Str) (q : Int) : ∀ z ∈ toldOf (walkL rows q zs), nameS z = true ∧ z.length ≤ 8 := fun z hz => by
  obtain ⟨m, hm, e⟩ := List.mem_filterMap.mp hz
  exact walk_names ok zs q m hm z e
theorem name_short {z : Str} (h : nameS z = true) : PyData.leavesShort 40 (.str z) = true := by
  have w0 : isWordS z = true := (Bool.and_eq_true_iff.mp h).1
  unfold isWordS at w0
  simp only [PyData.leavesShort, List.all_eq_true, decide_eq_true_eq]
  intro c hc
  have q := List.all_eq_true.mp w0 c hc
  unfold lowC at q
  simp only [Bool.and_eq_true, decide_eq_true_eq] at q
  exact Nat.lt_of_le_of_lt q.2 (by decide)
theorem names_short : ∀ {l : List Str}, (∀ z ∈ l, nameS z = true ∧ z.length ≤ 8) → PyData.leavesShortAll 40 (l.map PyData.str) = true ∧ PyData.bulkAll (l.map PyData.str) ≤ 9 * l.length ∧ PyData.showableAll (l.map PyData.str) = true
  | [], _ => ⟨rfl, Nat.le_refl _, rfl⟩
  | x :: l, h => by
    obtain ⟨h1, h2, h3⟩ := names_short fun z hz => h z (List.mem_cons_of_mem _ hz)
    obtain ⟨k1, k2⟩ := h x List.mem_cons_self
    have k2 : x.cps.size ≤ 8 := k2
    refine ⟨?_, ?_, ?_⟩
    · show (PyData.leavesShort 40 (.str x) && PyData.leavesShortAll 40 (l.map PyData.str)) = true
      rw [name_short k1, h1]
      rfl
    · simp only [List.map_cons, PyData.bulkAll, PyData.bulk, List.length_cons]
      omega
    · show (PyData.showable (.str x) && PyData.showableAll (l.map PyData.str)) = true
      rw [h3]
      simp [PyData.showable]
theorem small_int : ∀ n : Fin 101, (PyData.shown (.int (n.val : Int))).length ≤ 40 ∧ PyData.showable (.int (n.val : Int)) = true := by decide +kernel
theorem fit_word {n : Int} {rows : List Rw} {ns : List Int} {b : Int} {z : Str} {dx : PyData} (ok : okRows n rows) (hz : z.length ≤ 100) : Fit (askD rows ns b (.str z) true dx) := by
  have lw : (walkL rows b (signsOf z)).length ≤ 100 := by
    refine Nat.le_trans (walk_len _ _ _) ?_
    unfold signsOf
    rw [List.length_map, Array.length_toList]
    exact hz
  by_cases c : (walkL rows b (signsOf z)).length = z.length ∧ lastOf b (walkL rows b (signsOf z)) ∈ ns
  · have e : askD rows ns b (.str z) true dx = (("told" : Str), PyData.tuple ((toldOf (walkL rows b (signsOf z))).map PyData.str)) := if_pos c
    rw [e]
    have nm := told_names ok (signsOf z) b
    have tl := Nat.le_trans (toldOf_len (walkL rows b (signsOf z))) lw
    generalize toldOf (walkL rows b (signsOf z)) = l at nm tl
    obtain ⟨h1, h2, h3⟩ := names_short nm
    refine ⟨by simpa only [PyData.showable] using h3, by simp only [PyData.depth, strs_depth]; decide, ?_⟩
    have s1 : PyData.leavesShort 40 (PyData.list [.str "told", .tuple (l.map PyData.str)]) = true := by
      simp only [PyData.leavesShort, PyData.leavesShortAll, h1]
      decide
    have s2 := PyData.shown_le_bulk 40 (by decide) _ s1
    have s3 : (PyData.list [.str "told", .tuple (l.map PyData.str)]).bulk ≤ 10 + 9 * l.length := by
      simp only [PyData.bulk, PyData.bulkAll]
      have : ("told" : Str).cps.size = 4 := rfl
      omega
    refine Nat.le_trans s2 ?_
    rw [sizeLine_eq]
    omega
  · have e : askD rows ns b (.str z) true dx = (("unreadable" : Str), PyData.int (walkL rows b (signsOf z)).length) := if_neg c
    rw [e]
    obtain ⟨i1, i2⟩ := small_int ⟨(walkL rows b (signsOf z)).length, by omega⟩
    refine ⟨i2, by simp only [PyData.depth]; decide, ?_⟩
    have s1 : PyData.leavesShort 40 (PyData.list [.str "unreadable", .int (walkL rows b (signsOf z)).length]) = true := by
      simp only [PyData.leavesShort, PyData.leavesShortAll, decide_eq_true i1]
      decide
    have s2 := PyData.shown_le_bulk 40 (by decide) _ s1
    have s3 : (PyData.list [.str "unreadable", .int (walkL rows b (signsOf z)).length]).bulk = 12 := rfl
    rw [s3] at s2
    exact small_size (Nat.le_trans s2 (by decide))
end Sl
/-! ## P30 -/
set_option Elab.async false
set_option linter.all false
set_option maxRecDepth 100000
set_option maxHeartbeats 4000000
namespace Sl
open PySem PySem.Spec PyProof.Rows L2
/-! a drawn model is one that the program takes -/
theorem letter_sign {z : Str} (h : z ∈ abcL) : signS z = true ∧ z.length = 1 := by
  obtain ⟨h1, h2⟩ := abc_word h
  refine ⟨?_, h2⟩
  unfold signS
  rw [h1, decide_eq_true h2]
  rfl
theorem sign_name {z : Str} (h : signS z = true) : nameS z = true ∧ z.length ≤ 8 := by
  unfold signS at h
  obtain ⟨h1, h2⟩ := Bool.and_eq_true_iff.mp h
  have h2 := of_decide_eq_true h2
  refine ⟨?_, by omega⟩
  unfold nameS
  rw [h1, decide_eq_true (by omega), decide_eq_true (by omega)]
  rfl
theorem mark_name {z : Str} (h : markS z = true) : nameS z = true := (Bool.and_eq_true_iff.mp h).1
theorem model_ok {cap : Nat} {paper tells marks : List Str} {rows : List Rw} {ns : List Int} {b : Int} (m : okModel cap paper (tells ++ marks) rows ns b) (hp : ∀ z ∈ paper, z ∈ abcL) (ht : ∀ z ∈ tells, z ∈ abcL) (hm : ∀ z ∈ marks, markS z = true ∧ z.length ≤ 8) :
    okRows rows.length rows := by
  refine ⟨rfl, fun r hr => ⟨fun e he => ?_, (m.rw_ r hr).1⟩⟩
  obtain ⟨k1, k2, k3⟩ := (m.rw_ r hr).2 e he
  refine ⟨letter_sign (hp _ k1), k2, fun z hz => ?_⟩
  rcases List.mem_append.mp (k3 z hz) with q | q
  · exact sign_name (letter_sign (ht z q)).1
  · exact ⟨mark_name (hm z q).1, (hm z q).2⟩
theorem names_few {tells marks : List Str} (ht : ∀ z ∈ tells, z ∈ abcL) (hm : ∀ z ∈ marks, markS z = true ∧ z.length ≤ 8) (lt : tells.length ≤ 4) (lm : marks.length ≤ 6) :
    ((tells ++ marks).filter signS).length ≤ 4 ∧ ((tells ++ marks).filter markS).length ≤ 6 := by
  have no1 : marks.filter signS = [] := List.filter_eq_nil_iff.mpr fun z hz q => by
    have h1 := (Bool.and_eq_true_iff.mp (hm z hz).1).2
    have h2 := (Bool.and_eq_true_iff.mp q).2
    have h1 := of_decide_eq_true h1
    have h2 := of_decide_eq_true h2
    omega
  have no2 : tells.filter markS = [] := List.filter_eq_nil_iff.mpr fun z hz q => by
    have h1 := of_decide_eq_true (Bool.and_eq_true_iff.mp q).2
    have h2 := (letter_sign (ht z hz)).2
    omega
  rw [List.filter_append, List.filter_append, no1, no2, List.append_nil, List.nil_append]
  exact ⟨Nat.le_trans (List.length_filter_le _ _) lt, Nat.le_trans (List.length_filter_le _ _) lm⟩
theorem keys_in {cap : Nat} {paper names : List Str} {rows : List Rw} {ns : List Int} {b : Int} (m : okModel cap paper names rows ns b) : ∀ z ∈ keysOf rows, z ∈ paper := fun z hz => by
  unfold keysOf at hz
  simp only [List.mem_flatMap, List.mem_map] at hz
  obtain ⟨r, hr, e, he, rfl⟩ := hz
  exact ((m.rw_ r hr).2 e he).1
theorem tolds_in {cap : Nat} {paper names : List Str} {rows : List Rw} {ns : List Int} {b : Int} (m : okModel cap paper names rows ns b) : ∀ z ∈ toldsOf rows, z ∈ names := fun z hz => by
  unfold toldsOf at hz
  simp only [List.mem_flatMap, List.mem_filterMap] at hz
  obtain ⟨r, hr, e, he, q⟩ := hz
  exact ((m.rw_ r hr).2 e he).2.2 z q
end Sl
/-! ## O1 -/
set_option Elab.async false
set_option linter.all false
set_option maxRecDepth 100000
set_option maxHeartbeats 4000000
namespace Sl
open PySem PySem.Spec PyProof.Rows L2
theorem tyx_ext {K : PySem.W.Frag} {H H' : Hp} (x : Ext H H') {v : V} {t : Value} (h : TyX K H v t) : TyX K H' v t := by
  cases h with
  | base b =>
    refine .base ?_
    cases b with
    | non => exact .non
    | bl z => exact .bl z
    | int i => exact .int i
    | str z => exact .str z
    | flt z => exact .flt z
    | lst e => exact .lst (x _ _ e)
    | frz e => exact .frz (x _ _ e)
    | tup e => exact .tup (x _ _ e)
    | dK e => exact .dK (x _ _ e)
    | dT e => exact .dT (x _ _ e)
    | ins e cl ha hn htk hm => exact .ins (x _ _ e) cl ha hn htk hm
  | byt z => exact .byt z
  | set e => exact .set (x _ _ e)
  | kList e c => exact .kList e c
  | kTuple e c => exact .kTuple e c
  | kDict e c => exact .kDict e c
  | fTuple e => exact .fTuple (x _ _ e)
  | fDict e => exact .fDict (x _ _ e)
/-- the objects among the odd values -/
def oddO : List (HO × PyData × Kd) := [(.lst [.str "a"], .list [.str "a"], .lst), (.tup [.str "a"], .tuple [.str "a"], .tup), (.dK [], .dict [], .dct), (.tup [], .tuple [], .tup)]
/-- an odd value: no word, its data, its kind -/
inductive OddAt (H : Hp) (a : Addr) : V → PyData → Prop
  | non : OddAt H a .non .none
  | int : OddAt H a (.int 5) (.int 5)
  | bl : OddAt H a (.bl true) (.bool true)
  | s1 : OddAt H a (.str "A") (.str "A")
  | s2 : OddAt H a (.str "a ") (.str "a ")
  | s3 : OddAt H a (.str "a\n") (.str "a\n")
  | s4 : OddAt H a (.str "1") (.str "1")
  | o1 {r : Addr} : H r = some (.lst [.str "a"]) → r ≠ a → OddAt H a (.ref r) (.list [.str "a"])
  | o2 {r : Addr} : H r = some (.tup [.str "a"]) → r ≠ a → OddAt H a (.ref r) (.tuple [.str "a"])
  | o3 {r : Addr} : H r = some (.dK []) → r ≠ a → OddAt H a (.ref r) (.dict [])
  | o4 {r : Addr} : H r = some (.tup []) → r ≠ a → OddAt H a (.ref r) (.tuple [])
theorem OddAt.keep {H H' : Hp} {a : Addr} {v : V} {d : PyData} (k : Keep a H H') (h : OddAt H a v d) : OddAt H' a v d := by
  cases h with
  | non => exact .non
  | int => exact .int
  | bl => exact .bl
  | s1 => exact .s1
  | s2 => exact .s2
  | s3 => exact .s3
  | s4 => exact .s4
  | o1 e n => exact .o1 (k _ _ e n) n
  | o2 e n => exact .o2 (k _ _ e n) n
  | o3 e n => exact .o3 (k _ _ e n) n
  | o4 e n => exact .o4 (k _ _ e n) n
theorem fit_odd {H : Hp} {a : Addr} {v : V} {d : PyData} (h : OddAt H a v d) : Fit ("word", d) := by
  cases h <;> exact ⟨by decide +kernel, by decide +kernel, by decide +kernel⟩
theorem odd_wordy {K : PySem.W.Frag} {H : Hp} {a : Addr} {v : V} {d : PyData} (h : OddAt H a v d) : Wordy K H v false := by
  cases h with
  | non => exact .inr ⟨rfl, .non, .base .non, by simp⟩
  | int => exact .inr ⟨rfl, .int, .base (.int _), by simp⟩
  | bl => exact .inr ⟨rfl, .bl, .base (.bl _), by simp⟩
  | s1 => exact .inl ⟨_, rfl, by decide, by decide +kernel⟩
  | s2 => exact .inl ⟨_, rfl, by decide, by decide +kernel⟩
  | s3 => exact .inl ⟨_, rfl, by decide, by decide +kernel⟩
  | s4 => exact .inl ⟨_, rfl, by decide, by decide +kernel⟩
  | o1 e n => exact .inr ⟨rfl, .lst, .base (.lst e), by simp⟩
  | o2 e n => exact .inr ⟨rfl, .tup, .base (.tup e), by simp⟩
  | o3 e n => exact .inr ⟨rfl, .dct, .base (.dK e), by simp⟩
  | o4 e n => exact .inr ⟨rfl, .tup, .base (.tup e), by simp⟩
theorem odd_dq {K : PySem.W.Frag} {H : Hp} {a : Addr} {v : V} {d : PyData} (h : OddAt H a v d) : Dq K H v d := by
  cases h with
  | non => exact .inl ⟨.non, rfl⟩
  | int => exact .inl ⟨.int _, rfl⟩
  | bl => exact .inl ⟨.bl _, rfl⟩
  | s1 => exact .inl ⟨.str _, rfl⟩
  | s2 => exact .inl ⟨.str _, rfl⟩
  | s3 => exact .inl ⟨.str _, rfl⟩
  | s4 => exact .inl ⟨.str _, rfl⟩
  | o1 e n => exact .inl ⟨.lst (SqL.of e) (.cons (.str _) .nil), rfl⟩
  | o2 e n => exact .inl ⟨.tup (SqT.of e) (.cons (.str _) .nil), rfl⟩
  | o3 e n => exact .inr ⟨_, rfl, e, rfl⟩
  | o4 e n => exact .inl ⟨.tup (SqT.of e) .nil, rfl⟩
theorem odd_word {rows : List Rw} {ns : List Int} {b : Int} {v : V} {d : PyData} : askD rows ns b v false d = (("word" : Str), d) := by
  unfold askD
  cases v <;> rfl
end Sl
/-! ## P31 -/
set_option Elab.async false
set_option linter.all false
set_option maxRecDepth 100000
set_option maxHeartbeats 4000000
namespace Sl
open PySem PySem.Spec PyProof.Rows L2
abbrev sRight : Stmt := top 46
theorem ReaderAt.keep {C : Addr} {H H' : Hp} {p a : Addr} {rows : List Rw} {ends : List Int} {b : Int} (h : ReaderAt C H p rows ends b) (k : Keep a H H') (r : Rng H a) : ReaderAt C H' p rows ends b := by
  obtain ⟨dx, fs, L, ds, Te, a1, a2, a3, a4, a5, a6, a7, a8⟩ := h.ex
  obtain ⟨x, y, hr, _⟩ := r.ex
  refine ⟨dx, fs, L, ds, Te, k _ _ a1 (fun e => ?_), a2, k _ _ a3 (r.lst a3 fun x y e => ?_), a4.keepN k r.notup (fun hm => ?_), a5, k _ _ a6 (fun e => r.notup _ (by rw [← e]; exact a6)), a7, a8⟩
  · rw [e, hr] at a1
    cases a1
  · cases ds with
    | nil => cases e
    | cons d ds =>
      injection e with e1 e2
      cases e1
  · obtain ⟨kvs, e⟩ := a4.mem hm
    exact r.nodict _ e
theorem askD_plain {rows : List Rw} {ns : List Int} {b : Int} {z : Str} {dx : PyData} : (askD rows ns b (.str z) true dx).2.hasDict = false := by
  by_cases c : (walkL rows b (signsOf z)).length = z.length ∧ lastOf b (walkL rows b (signsOf z)) ∈ ns
  · rw [show askD rows ns b (.str z) true dx = (("told" : Str), PyData.tuple ((toldOf (walkL rows b (signsOf z))).map PyData.str)) from if_pos c]
    exact strs_nodict _
  · rw [show askD rows ns b (.str z) true dx = (("unreadable" : Str), PyData.int (walkL rows b (signsOf z)).length) from if_neg c]
    rfl
section
variable {P : Program} {w : World} {K : PySem.W.Frag} {mg : Str → Option Value} {base : Heap}
theorem scRight : FnScope ["_law_rng_here", "_law_letters_here", "_law_abc", "_law_model", "_law_made", "_law_paper", "_law_due_here", "_law_odd", "_law_line"] ["_law_rng_here"] (defScope sRight) := ⟨rfl, rfl, rfl, by decide +kernel, rfl, by decide +kernel, by decide +kernel⟩
def spRight : Sp := fun vs H Q _ => ∃ a : Addr, vs = [.ref a] ∧ Rng H a ∧ ∀ H', Keep a H H' → Q (.bl true) H'
theorem ok_right {f C fI fD fL fM fF fP fU fA : Addr} {fd fdI fdD fdL fdM fdF fdP fdU fdA : FuncData} {g : List Value → List Value → List Value} (F : Fun K "_law_right" "_law_right" sRight f fd) (gC : mg "Reader" = some (.ref C)) (M : Mk K C fI)
    (kI : KBn K fdI ["self", "states", "ends", "start"] 3 ["start"] g (fun vs zs => vs ++ zs)) (gI : FnOk P w K mg base CX0 5 fI fdI ["self", "states", "ends", "start"] (spInit C))
    (aD : At K mg "_law_draw" fD fdD ["_law_rng_here", "_law_many"] []) (gD : FnOk P w K mg base CX0 1 fD fdD ["_law_rng_here", "_law_many"] spDraw)
    (aL : At K mg "_law_letters" fL fdL ["_law_rng_here", "_law_many"] []) (gL : FnOk P w K mg base CX0 2 fL fdL ["_law_rng_here", "_law_many"] spLetters)
    (aM : At K mg "_law_marks" fM fdM ["_law_rng_here", "_law_many"] []) (gM : FnOk P w K mg base CX0 2 fM fdM ["_law_rng_here", "_law_many"] spMarks)
    (aF : At K mg "_law_format" fF fdF ["_law_rng_here", "_law_cap", "_law_paper", "_law_tells", "_law_marks_here"] []) (gF : FnOk P w K mg base CX0 4 fF fdF ["_law_rng_here", "_law_cap", "_law_paper", "_law_tells", "_law_marks_here"] spFormat)
    (aP : At K mg "_law_pages" fP fdP ["_law_rng_here", "_law_abc", "_law_other"] []) (gP : FnOk P w K mg base CX0 3 fP fdP ["_law_rng_here", "_law_abc", "_law_other"] spPages)
    (aU : At K mg "_law_due" fU fdU ["_law_model", "_law_paper"] []) (gU : FnOk P w K mg base CX0 2 fU fdU ["_law_model", "_law_paper"] spDue)
    (aA : At K mg "_law_asked" fA fdA ["_law_made", "_law_paper", "_law_is_named"] []) (gA : FnG P w K mg base CX0 7 fA fdA ["_law_made", "_law_paper", "_law_is_named"] (spAsked K C))
    (zd : mg "dict" = none) (zp : mg "repr" = none) (sys : ∃ o, base.get? sysModules = some o) :
    FnG P w K mg base CX0 8 f fd ["_law_rng_here"] spRight := by
  refine Sl.Fun.okG F scRight (fun vs H Q E h => ?_) (fun cdv A0 outer s H vs Q E0 gd hr h => ?_)
  · obtain ⟨a, rfl, _⟩ := h
    rfl
  · obtain ⟨a, rfl, hR, k⟩ := h
    have hr1 : Room 1 _ := hr.mono (by decide)
    have hr2 : Room 2 _ := hr.mono (by decide)
    have hr3 : Room 3 _ := hr.mono (by decide)
    have hr4 : Room 4 _ := hr.mono (by decide)
    have hr6 : Room 6 _ := hr.mono (by decide)
    refine ⟨_, pss_cons (ps_set (i := 1) scRight.nd rfl (.inl rfl) (pe_call gL hr2 (by rfl) aL.g aL.kp aL.b .nil pass0 (pa_cons (pv 0) (pa_cons pe_int pa_nil))))
      (pss_cons (ps_set (i := 2) scRight.nd rfl (.inl rfl) (pe_slice sl_list (pv 1) po_none (po_some pe_int)))
      (pss_cons (ps_set (i := 3) scRight.nd rfl (.inl rfl) (pe_call gF hr4 (by rfl) aF.g aF.kp aF.b .nil pass0 (pa_cons (pv 0) (pa_cons pe_int (pa_cons (pv 2) (pa_cons (pe_slice sl_list (pv 1) (po_some pe_int) (po_some pe_int))
        (pa_cons (pe_call gM hr2 (by rfl) aM.g aM.kp aM.b .nil pass0 (pa_cons (pv 0) (pa_cons pe_int pa_nil))) pa_nil)))))))
      (pss_cons (ps_set (i := 4) scRight.nd rfl (.inl rfl) (pe_makeK M gI hr6 (by rfl) gC kI pass0
        (pa_cons (pe_lc (own := [("_law_line", 8)]) (g := gName 8) (tt := tYes) (te := tCB rDictD (tCons (tVar 8) tNil)) rfl scRight.nd (pi_list (pe_ix ix_tup (pv 3) pe_int (fun _ _ => rfl))) (blkOk_by (N := ["_law_rng_here", "_law_letters_here", "_law_abc", "_law_model", "_law_made", "_law_paper", "_law_due_here", "_law_odd", "_law_line"]) (sc := defScope sRight) (by decide +kernel))
          (fun _ _ _ _ _ => pg_name (i := 8) scRight.nd rfl (Or.inl rfl)) (fun _ _ _ _ _ => pts_nil) (fun _ _ _ _ _ => pe_callTy (T := "dict") (r := rDictD) call_dictD (by rfl) zd (by decide +kernel) (pa_cons (pv 8) pa_nil)))
          (pa_cons (pe_ix ix_tup (pv 3) pe_int (fun _ _ => rfl)) pa_nil)) (pk_cons (pe_ix ix_tup (pv 3) pe_int (fun _ _ => rfl)) pk_nil)))
      (pss_cons (ps_for (passes_of rfl) rfl (pi_list (pe_call gP hr3 (by rfl) aP.g aP.kp aP.b .nil pass0 (pa_cons (pv 0) (pa_cons (pv 2) (pa_cons (pe_ix ix_list (pv 1) pe_int (fun _ _ => rfl)) pa_nil))))) (pg_name (i := 5) scRight.nd rfl (.inl rfl))
        (pss_cons (ps_set (i := 6) scRight.nd rfl (.inl rfl) (pe_callB (cr_shown gd hr.units) (by rfl) zp (by decide +kernel) (pa_cons (pe_call gU hr2 (by rfl) aU.g aU.kp aU.b .nil pass0 (pa_cons (pv 3) (pa_cons (pv 5) pa_nil))) pa_nil)))
        (pss_one (ps_if (PW.pt (pw_or (pt_cmpR op_ne (pe_callG gA gd hr (by rfl) aA.g aA.kp aA.b pass0 (pa_cons (pv 4) (pa_cons (pv 5) (pa_cons pe_bl pa_nil)))) (pv 6) (nomark _))
          (pw_or1 (pt_cmpR op_ne (pe_callG gA gd hr (by rfl) aA.g aA.kp aA.b pass0 (pa_cons (pv 4) (pa_cons (pv 5) (pa_cons pe_bl pa_nil)))) (pv 6) (nomark _))))) (pss_one (ps_ret pe_bl)) pss_nil))))
      (pss_cons (ps_for (passes_of rfl) rfl (pi_list (pe_lst (pa_cons pe_non (pa_cons pe_int (pa_cons pe_bl (pa_cons pe_str (pa_cons pe_str (pa_cons pe_str (pa_cons pe_str (pa_cons (pe_lst (pa_cons pe_str pa_nil)) (pa_cons (pe_tup (pa_cons pe_str pa_nil)) (pa_cons pe_dnewK (pa_cons (pe_tup pa_nil) pa_nil))))))))))))) (pg_name (i := 7) scRight.nd rfl (.inl rfl))
        (pss_one (ps_if (pt_cmpR op_ne (pe_callG gA gd hr (by rfl) aA.g aA.kp aA.b pass0 (pa_cons (pv 4) (pa_cons (pv 7) (pa_cons (pe_cmpR op_eq (pe_call gD hr1 (by rfl) aD.g aD.kp aD.b .nil pass0 (pa_cons (pv 0) (pa_cons pe_int pa_nil))) pe_int (nomark _)) pa_nil))))
          (pe_callB (cr_shownQ gd hr.units sys) (by rfl) zp (by decide +kernel) (pa_cons (pe_lst (pa_cons pe_str (pa_cons (pv 7) pa_nil))) pa_nil)) (by rfl)) (pss_one (ps_ret pe_bl)) pss_nil)))
      (pss_one (ps_ret pe_bl))))))), ?_⟩
    -- the letters
    refine ⟨_, rfl, a, 6, rfl, hR, by decide, fun H1 L zs r1 k1 nL l1 len nd mem => ?_⟩
    rcases zs with _ | ⟨z0, _ | ⟨z1, _ | ⟨z2, _ | ⟨z3, _ | ⟨z4, _ | ⟨z5, _ | ⟨z6, zs⟩⟩⟩⟩⟩⟩⟩
    · cases len
    · cases len
    · cases len
    · cases len
    · cases len
    · cases len
    rotate_left
    · simp at len
    clear len
    have nLa := hR.new nL
    have m0 : z0 ∈ abcL := mem _ (by simp)
    have m1 : z1 ∈ abcL := mem _ (by simp)
    have m2 : z2 ∈ abcL := mem _ (by simp)
    have m3 : z3 ∈ abcL := mem _ (by simp)
    have m4 : z4 ∈ abcL := mem _ (by simp)
    have m5 : z5 ∈ abcL := mem _ (by simp)
    have nd3 : ([z0, z1, z2] : List Str).Nodup := nd.sublist (List.take_sublist 3 [z0, z1, z2, z3, z4, z5])
    clear mem
    -- three for the pages, two for the texts
    refine ⟨_, rfl, 3, rfl, L, _, rfl, SqL.of l1, fun Pa nPa => ?_⟩
    rw [show cutV (([z0, z1, z2, z3, z4, z5] : List Str).map V.str) none (some 3) = ([z0, z1, z2] : List Str).map V.str from rfl]
    have xPa : Ext H1 (upd H1 Pa (.lst (([z0, z1, z2] : List Str).map V.str))) := Ext.new nPa
    have hPa : (upd H1 Pa (.lst (([z0, z1, z2] : List Str).map V.str))) Pa = some (.lst (([z0, z1, z2] : List Str).map V.str)) := upd_same
    generalize upd H1 Pa (.lst (([z0, z1, z2] : List Str).map V.str)) = H2 at xPa hPa ⊢
    refine ⟨_, rfl, _, rfl, _, rfl, 3, rfl, 5, rfl, L, _, rfl, SqL.of (xPa _ _ l1), fun Te nTe => ?_⟩
    rw [show cutV (([z0, z1, z2, z3, z4, z5] : List Str).map V.str) (some 3) (some 5) = ([z3, z4] : List Str).map V.str from rfl]
    have xTe : Ext H2 (upd H2 Te (.lst (([z3, z4] : List Str).map V.str))) := Ext.new nTe
    have hTe : (upd H2 Te (.lst (([z3, z4] : List Str).map V.str))) Te = some (.lst (([z3, z4] : List Str).map V.str)) := upd_same
    generalize upd H2 Te (.lst (([z3, z4] : List Str).map V.str)) = H3 at xTe hTe ⊢
    have x13 := xPa.trans xTe
    have r3 := r1.ext x13
    have nPaa := r1.new nPa
    have nTea := (r1.ext xPa).new nTe
    -- two marks, the model
    refine ⟨_, rfl, a, 2, rfl, r3, by decide, fun H4 Ma ms r4 k4 nMa hMa lma ndma oma => ?_⟩
    have nMaa := r3.new nMa
    have ls : Lsts H4 a Pa Te Ma [z0, z1, z2] [z3, z4] ms := ⟨k4 _ _ (xTe _ _ hPa) nPaa, k4 _ _ hTe nTea, hMa, nPaa, nTea, nMaa, nd3, by simp, by simp, by simp, by simp, by omega, by omega⟩
    refine ⟨a, Pa, Te, Ma, [z0, z1, z2], [z3, z4], ms, rfl, r4, ls, fun H5 M0 L5 E5 ds rows ns b r5 k5 nM nL5 nE nds hM okm => ?_⟩
    have l5 : H5 L = some (.lst (([z0, z1, z2, z3, z4, z5] : List Str).map V.str)) := k5 _ _ (k4 _ _ (x13 _ _ l1) nLa) nLa
    have hPa5 : H5 Pa = some (.lst (([z0, z1, z2] : List Str).map V.str)) := k5 _ _ ls.p nPaa
    have okr := model_ok okm (by simp [m0, m1, m2]) (by simp [m3, m4]) oma
    have few := names_few (tells := [z3, z4]) (marks := ms) (by simp [m3, m4]) oma (by simp) (by omega)
    have nML := r4.new nL5
    have nME := r4.new nE
    have phi : ([z0, z1, z2] : List Str).length ≤ 6 := by simp
    -- the rows again, the reader
    refine ⟨_, rfl, M0, _, _, .ref L5, rfl, rfl, SqT.of hM.h1, atI_nat (j := 0) rfl, L5, rfl, ⟨_, SqL.of hM.h2⟩, fun L2 nL2 => ?_⟩
    refine lc_it (walk_list (xs := ds.map V.ref)) (fun i H' => Ext H5 H' ∧ ∃ ds', H' L2 = some (.lst (ds'.map V.ref)) ∧ RowsAt H' ds' (rows.take i)) ⟨Ext.new nL2, [], upd_same, .nil⟩ (fun i H' _ h => SqL.of (h.1 _ _ hM.h2)) ?_ ?_
    · rintro i x H6' H6 hi ⟨x6, ds', l6, w6⟩ ⟨rfl, hx⟩
      obtain ⟨d, hd, rfl⟩ := at_map hx
      obtain ⟨r, hri, es, he1, he2⟩ := hM.h3.at_ hd
      have hil : i < rows.length := (List.getElem?_eq_some_iff.mp hri).1
      have := okm.hi
      refine ⟨rfl, _, rfl, d, _, rfl, Rd.of (x6 _ _ he1), fun p np => ?_⟩
      have xp : Ext H6 (upd H6 p (.dK (kvsOf es))) := Ext.new np
      have lp1 := xp _ _ l6
      have ld : ds'.length = i := by
        rw [w6.len, List.length_take]
        omega
      refine ⟨_, lp1, by rw [List.length_map]; exact small_list (by omega), fun b' o e => by rw [upd_ne (ne_of_none e nL2)]; exact xp _ _ (x6 _ _ e), ds' ++ [p], by rw [upd_same, List.map_append]; rfl, ?_⟩
      rw [take_more hri]
      refine RowsAt.snoc ?_ ?_
      · refine RowAt.same (H := upd H6 p (.dK (kvsOf es))) ⟨es, upd_same, he2.ext fun t xs e => xp _ _ (x6 _ _ e)⟩ (upd_ne (fun e => by rw [e, l6] at np; cases np)) fun t xs e => ?_
        rw [upd_ne (ne_of e lp1 (by intro q; cases q))]
        exact e
      · refine (w6.ext xp).keepN Keep.at_ (fun xs e => by rw [lp1] at e; cases e) fun hm => ?_
        obtain ⟨kvs, e⟩ := (w6.ext xp).mem hm
        rw [lp1] at e
        cases e
    rintro H6 ⟨x6, ds', l6, w6⟩
    rw [List.length_map, hM.h3.len, List.take_length] at w6
    have hM6 := hM.ext x6
    refine ⟨_, rfl, M0, _, _, .ref E5, rfl, rfl, SqT.of hM6.h1, atI_nat (j := 1) rfl, _, rfl, M0, _, _, .int b, rfl, rfl, SqT.of hM6.h1, atI_nat (j := 2) rfl, rfl, rfl, fun rp dx nrp ndx ned => ?_⟩
    have xr : Ext H6 (upd (upd H6 dx (.own rp)) rp (.ins C dx [])) := fun b' o e => by
      rw [upd_ne (ne_of_none e nrp), upd_ne (ne_of_none e ndx)]
      exact e
    have c1 := okm.hi
    have c2 := okm.len
    refine ⟨rp, dx, L2, E5, ds', rows, ns, b, [z0, z1, z2], [z3, z4] ++ ms, rfl, upd_same, xr _ _ l6, w6.ext xr, okm.lo, by omega, fun r hr => ⟨(okr.2 r hr).1, (okr.2 r hr).2, by have := row_len (okm.rw_ r hr) phi; omega⟩, xr _ _ hM6.h5, by omega, okm.nd, okm.inn, okm.b0, okm.b1, keys_in okm, phi, tolds_in okm, by simp; omega, few.1, few.2, fun H7 rows' ns' k7 pr pn RA => ⟨rfl, ?_⟩⟩
    have x67 : Ext H6 H7 := fun b' o e => k7 b' o (xr b' o e) (ne_of_none e nrp)
    have x57 := x6.trans x67
    have hM7 := hM.ext x57
    have r7 := r5.ext x57
    have okr' := okRows_perms pr okr
    have nodups : ∀ r ∈ rows, (r.map (·.1)).Nodup := fun r hr => (okr.2 r hr).2
    have lns : ns'.length ≤ 100 := by
      rw [pn.length_eq]
      omega
    -- the pages
    refine ⟨_, rfl, _, rfl, _, rfl, L, _, 5, .str z5, rfl, rfl, SqL.of (x57 _ _ l5), rfl, a, Pa, [z0, z1, z2], z5, rfl, r7, x57 _ _ hPa5, nPaa, by simp, by simp [m0, m1, m2], m5, fun H8 Lp lp r8 k8 nLp hLp wl lnp => ?_⟩
    have n7 : ∀ {b' : Addr} {o : HO}, H7 b' = some o → b' ≠ a → H8 b' = some o := fun e n => k8 _ _ e n
    have hM8 : ModelAt H8 M0 L5 E5 ds rows ns b := hM7.keep k8 r7 (r4.new nL5) (r4.new nE)
    have RA8 : ReaderAt C H8 rp rows' ns' b := RA.keep k8 r7
    refine ⟨Lp, rfl, ⟨_, SqL.of hLp⟩, ?_⟩
    refine for_it (walk_list (xs := lp.map V.str)) (fun i σ H' => ∃ v5 v6 : Option V, σ = [some (.ref a), some (.ref L), some (.ref Pa), some (.ref M0), some (.ref rp), v5, v6, none, none] ∧ Ext H8 H')
      ⟨none, none, rfl, Ext.refl _⟩ (fun i σ H' _ ⟨_, _, _, x8⟩ => SqL.of (x8 _ _ hLp)) ?_ ?_
    · rintro i x σ H9' H9 hi ⟨v5, v6, rfl, x9⟩ ⟨rfl, hx⟩
      obtain ⟨z, hz, rfl⟩ := at_map hx
      obtain ⟨wz, lz⟩ := wl z (List.mem_of_getElem? hz)
      have fit := fit_word (ns := ns) (b := b) (z := z) (dx := .str z) okr (by omega)
      refine ⟨_, rfl, _, rfl, M0, L5, E5, ds, rows, ns, b, _, z, rfl, hM8.ext x9, okr, okm.b0, okm.b1, by omega, fun H10 R x10 nR hD => ?_⟩
      have x810 := x9.trans x10
      have same := askD_perms (b := b) (x := .str z) (w0 := true) (dx := .str z) pr nodups pn
      have pl := askD_plain (rows := rows) (ns := ns) (b := b) (z := z) (dx := .str z)
      have dp0 := due_dp (K := K) (dx := .str z) hD
      generalize askD rows ns b (.str z) true (.str z) = q at fit same pl dp0
      refine ⟨R, _, rfl, dp0, by simpa [PyData.showable, PyData.showableAll] using fit.1, by simpa [PyData.hasDict, PyData.hasDictAll] using pl, by have := fit.2.1; simp only [PyData.depth, PyData.depthAll]; omega, fit.2.2, ?_⟩
      have ask : ∀ (nm : Bool) (H11 : Hp) (Q' : VK) (E' : XK), Ext H10 H11 → (∀ H12, Ext H11 H12 → Q' (.str (PyData.list [.str q.1, q.2]).shown) H12) → spAsked K C [.ref rp, .str z, .bl nm] H11 Q' E' := fun nm H11 Q' E' x11 kq =>
        ⟨rp, .str z, nm, true, rows', ns', b, _, .str z, rfl, RA8.ext (x810.trans x11), okr', okm.b0, okm.b1, lns, .inl ⟨z, rfl, by omega, wz⟩, fun _ _ => .inl ⟨.str z, rfl⟩, by rw [same]; exact fit, fun H12 x12 => by rw [same]; exact kq H12 x12⟩
      refine ⟨_, rfl, _, rfl, ?_⟩
      dsimp only [tCons, tNil, tC]
      refine ask false H10 _ _ (Ext.refl _) fun H11 x11 => ⟨_, rfl, rfl, ?_⟩
      rw [decide_eq_true rfl]
      refine ⟨false, rfl, iteF ?_⟩
      refine ⟨_, rfl, _, rfl, ?_⟩
      dsimp only [tCons, tNil, tC]
      refine ask true H11 _ _ x11 fun H12 x12 => ⟨_, rfl, rfl, ?_⟩
      rw [decide_eq_true rfl]
      exact ⟨false, rfl, iteF ⟨_, _, rfl, x810.trans (x11.trans x12)⟩⟩
    · rintro σ H9 ⟨v5, v6, rfl, x9⟩
      have r9 := r8.ext x9
      dsimp only [tLst, tCons, tNil, tC]
      refine ⟨by show 1 ≤ sizeLine; decide, fun o1 n1 => ⟨by show 1 ≤ sizeLine; decide, fun o2 n2 o3 n3 => ⟨by show 0 ≤ sizeLine; decide, fun o4 n4 => ⟨by show 11 ≤ sizeLine; decide, fun Lo nLo => ⟨Lo, rfl, ⟨_, SqL.of upd_same⟩, ?_⟩⟩⟩⟩⟩
      have b1 := (Ext.new n1 (o := .lst [.str "a"]))
      have e1 : (upd H9 o1 (.lst [.str "a"])) o1 = some (.lst [V.str "a"]) := upd_same
      generalize upd H9 o1 (.lst [.str "a"]) = G1 at b1 e1 n2 n3 n4 nLo ⊢
      have b2 := (Ext.new n2 (o := .tup [.str "a"]))
      have e2 : (upd G1 o2 (.tup [.str "a"])) o2 = some (.tup [V.str "a"]) := upd_same
      generalize upd G1 o2 (.tup [.str "a"]) = G2 at b2 e2 n3 n4 nLo ⊢
      have b3 := (Ext.new n3 (o := .dK []))
      have e3 : (upd G2 o3 (.dK [])) o3 = some (.dK []) := upd_same
      generalize upd G2 o3 (.dK []) = G3 at b3 e3 n4 nLo ⊢
      have b4 := (Ext.new n4 (o := .tup []))
      have e4 : (upd G3 o4 (.tup [])) o4 = some (.tup []) := upd_same
      generalize upd G3 o4 (.tup []) = G4 at b4 e4 nLo ⊢
      have b5 := (Ext.new nLo (o := .lst [V.non, .int 5, .bl true, .str "A", .str "a ", .str "a\n", .str "1", .ref o1, .ref o2, .ref o3, .ref o4]))
      have e5 : (upd G4 Lo (.lst [V.non, .int 5, .bl true, .str "A", .str "a ", .str "a\n", .str "1", .ref o1, .ref o2, .ref o3, .ref o4])) Lo = some (.lst [V.non, .int 5, .bl true, .str "A", .str "a ", .str "a\n", .str "1", .ref o1, .ref o2, .ref o3, .ref o4]) := upd_same
      have oa : ∀ (i : Nat) (v : V), ([V.non, .int 5, .bl true, .str "A", .str "a ", .str "a\n", .str "1", .ref o1, .ref o2, .ref o3, .ref o4] : List V)[i]? = some v → ∃ d, OddAt (upd G4 Lo (.lst [V.non, .int 5, .bl true, .str "A", .str "a ", .str "a\n", .str "1", .ref o1, .ref o2, .ref o3, .ref o4])) a v d := by
        have a1 := r9.new n1
        have a2 := (r9.ext b1).new n2
        have a3 := ((r9.ext b1).ext b2).new n3
        have a4 := (((r9.ext b1).ext b2).ext b3).new n4
        intro i v h
        match i, h with
        | 0, h => cases h; exact ⟨_, .non⟩
        | 1, h => cases h; exact ⟨_, .int⟩
        | 2, h => cases h; exact ⟨_, .bl⟩
        | 3, h => cases h; exact ⟨_, .s1⟩
        | 4, h => cases h; exact ⟨_, .s2⟩
        | 5, h => cases h; exact ⟨_, .s3⟩
        | 6, h => cases h; exact ⟨_, .s4⟩
        | 7, h => cases h; exact ⟨_, .o1 (b5 _ _ (b4 _ _ (b3 _ _ (b2 _ _ e1)))) a1⟩
        | 8, h => cases h; exact ⟨_, .o2 (b5 _ _ (b4 _ _ (b3 _ _ e2))) a2⟩
        | 9, h => cases h; exact ⟨_, .o3 (b5 _ _ (b4 _ _ e3)) a3⟩
        | 10, h => cases h; exact ⟨_, .o4 (b5 _ _ e4) a4⟩
        | i + 11, h => simp at h
      have x910 : Ext H9 (upd G4 Lo (.lst [V.non, .int 5, .bl true, .str "A", .str "a ", .str "a\n", .str "1", .ref o1, .ref o2, .ref o3, .ref o4])) := (((b1.trans b2).trans b3).trans b4).trans b5
      have nLoa := ((((r9.ext b1).ext b2).ext b3).ext b4).new nLo
      generalize upd G4 Lo (.lst [V.non, .int 5, .bl true, .str "A", .str "a ", .str "a\n", .str "1", .ref o1, .ref o2, .ref o3, .ref o4]) = H10 at x910 e5 oa ⊢
      have r10 := r9.ext x910
      have RA10 := RA8.ext (x9.trans x910)
      refine for_it (walk_list (xs := [V.non, .int 5, .bl true, .str "A", .str "a ", .str "a\n", .str "1", .ref o1, .ref o2, .ref o3, .ref o4])) (fun i σ H' => ∃ v7 : Option V, σ = [some (.ref a), some (.ref L), some (.ref Pa), some (.ref M0), some (.ref rp), v5, v6, v7, none] ∧ Rng H' a ∧ Keep a H10 H')
        ⟨none, rfl, r10, Keep.refl a H10⟩ (fun i σ H' _ ⟨_, _, _, kk⟩ => SqL.of (kk _ _ e5 nLoa)) ?_ ?_
      · rintro i x σ H11' H11 hi ⟨v7, rfl, r11, k11⟩ ⟨rfl, hx⟩
        obtain ⟨d, od⟩ := oa i x hx
        have fit := fit_odd od
        refine ⟨_, rfl, _, rfl, _, rfl, a, 2, rfl, r11, by decide, by decide, fun dd H12 _ _ r12 k12 => ⟨rfl, ?_⟩⟩
        have kk := k11.trans k12
        have od12 := od.keep kk
        have RA12 := RA10.keep kk r10
        refine ⟨rp, x, _, false, rows', ns', b, _, d, rfl, RA12, okr', okm.b0, okm.b1, lns, odd_wordy od12, fun H13 x13 => odd_dq (od12.keep (Keep.of x13)), by rw [odd_word]; exact fit, fun H13 x13 => ?_⟩
        rw [odd_word]
        refine ⟨_, rfl, by show 2 ≤ sizeLine; decide, fun R nR => ⟨R, "word", x, d, rfl, upd_same, odd_dq (od12.keep (Keep.of (x13.trans (Ext.new nR)))), fit.1, fit.2.1, fit.2.2, rfl, ?_⟩⟩
        rw [decide_eq_true rfl]
        exact ⟨false, rfl, iteF ⟨_, rfl, (r12.ext x13).ext (Ext.new nR), kk.trans (Keep.of (x13.trans (Ext.new nR)))⟩⟩
      · rintro σ H11 ⟨v7, rfl, r11, k11⟩
        exact k H11 ((((((((k1.trans (Keep.of x13)).trans k4).trans k5).trans (Keep.of x57)).trans k8).trans (Keep.of x9)).trans (Keep.of x910)).trans k11)
end
end Sl
/-! ## P32 -/
set_option Elab.async false
set_option linter.all false
set_option maxRecDepth 100000
set_option maxHeartbeats 4000000
namespace Sl
open PySem PySem.Spec PyProof.Rows L2
abbrev sLaw : Stmt := top 47
def spLaw (K : PySem.W.Frag) : Sp := fun vs H Q _ => ∃ (S : Addr) (ns : List Int), vs = [.ref S] ∧ SqL K H S (ns.map V.int) ∧ ns.length ≤ 63 ∧ ∀ H', Q (.bl true) H'
theorem sql_ext {K : PySem.W.Frag} {H H' : Hp} {S : Addr} {xs : List V} (x : Ext H H') (h : SqL K H S xs) : SqL K H' S xs := by
  rcases h with (h | ⟨o, h⟩) | h
  · exact .inl (.inl (x _ _ h))
  · exact .inl (.inr ⟨o, x _ _ h⟩)
  · exact .inr h
section
variable {P : Program} {w : World} {K : PySem.W.Frag} {mg : Str → Option Value} {base : Heap}
theorem scLaw : FnScope ["_law_script", "_law_k"] ["_law_script"] (defScope sLaw) := ⟨rfl, rfl, rfl, by decide +kernel, rfl, by decide +kernel, by decide +kernel⟩
theorem ok_law {f fR fG : Addr} {fd fdR fdG : FuncData} (F : Fun K "law" "law" sLaw f fd) (aR : At K mg "_law_right" fR fdR ["_law_rng_here"] []) (gR : FnG P w K mg base CX0 8 fR fdR ["_law_rng_here"] spRight)
    (aG : At K mg "_law_rng" fG fdG ["_law_script", "_law_k"] []) (gG : FnOk P w K mg base CX0 1 fG fdG ["_law_script", "_law_k"] (spRng K))
    (za : mg "all" = none) (zr : mg "range" = none) (zx : mg "max" = none) (zm : mg "min" = none) (zn : mg "len" = none) : FnG P w K mg base CX0 9 f fd ["_law_script"] (spLaw K) := by
  refine Sl.Fun.okG F scLaw (fun vs H Q E h => ?_) (fun cdv A0 outer s H vs Q E0 gd hr h => ?_)
  · obtain ⟨S, ns, rfl, _⟩ := h
    rfl
  · obtain ⟨S, ns, rfl, hS, h63, k⟩ := h
    have hr1 : Room 1 _ := hr.mono (by decide)
    refine ⟨_, pss_one (ps_ret (pe_callB (cr_all rfl) (by rfl) za (by decide +kernel) (pa_cons (pe_lc (own := [("_law_k", 1)]) (g := gName 1) (tt := tYes) (te := tCall spRight [] (fun _ _ _ => False) (tCons (tCall (spRng K) [] (fun _ _ _ => False) (tCons (tVar 0) (tCons (tVar 1) tNil))) tNil)) rfl scLaw.nd
        (pi_range1 rfl zr (pa_cons (pe_callB (call_max2 rfl) (by rfl) zx (by decide +kernel) (pa_cons pe_int (pa_cons (pe_callB (call_min2 rfl) (by rfl) zm (by decide +kernel) (pa_cons (pe_callB call_len_seq (by rfl) zn PySem.boot_len (pa_cons (pv 0) pa_nil)) (pa_cons pe_int pa_nil))) pa_nil))) pa_nil)) (blkOk_by (N := ["_law_script", "_law_k"]) (sc := defScope sLaw) (by decide +kernel))
        (fun _ _ _ _ _ => pg_name (i := 1) scLaw.nd rfl (Or.inl rfl)) (fun _ _ _ _ _ => pts_nil) (fun _ _ _ _ _ => pe_callG gR gd hr (by rfl) aR.g aR.kp aR.b pass0 (pa_cons (pe_call gG hr1 (by rfl) aG.g aG.kp aG.b .nil pass0 (pa_cons (pv 0) (pa_cons (pv 1) pa_nil))) pa_nil))) pa_nil))), ?_⟩
    have hl : (ns.map V.int).length = ns.length := List.length_map _
    refine ⟨_, rfl, S, _, rfl, .inl hS, _, _, rfl, _, _, rfl, ?_⟩
    rw [hl]
    generalize hm : (if (4 : Int) < (ns.length : Nat) then (4 : Int) else ((ns.length : Nat) : Int)) = m
    generalize hn : (if m > 1 then m else 1) = n0
    have n1 : 0 ≤ n0 ∧ n0 ≤ 4 := by
      have : m ≤ 4 := by
        rw [← hm]
        split <;> omega
      rw [← hn]
      split <;> omega
    obtain ⟨n, rfl⟩ : ∃ n : Nat, n0 = (n : Int) := ⟨n0.toNat, by omega⟩
    refine ⟨(n : Int), rfl, by omega, by omega, fun D nD => ?_⟩
    refine lc_range (n := n) (fun i H' => Ext H H' ∧ H' D = some (.lst ((List.replicate i true).map V.bl))) ⟨Ext.new nD, upd_same⟩ ?_ ?_
    · rintro i H1 hi ⟨x1, d1⟩
      refine ⟨rfl, _, rfl, _, rfl, S, ns, i, by simp, sql_ext x1 hS, h63, by omega, fun H2 a x2 na ra => ⟨a, rfl, ra, fun H3 k3 => ?_⟩⟩
      have d2 := x2 _ _ d1
      have nDa : D ≠ a := fun e => by
        rw [e, na] at d1
        cases d1
      refine ⟨_, k3 _ _ d2 nDa, by rw [List.length_map, List.length_replicate]; exact small_list (by omega), fun b o e => ?_, ?_⟩
      · rw [upd_ne (ne_of_none e nD)]
        exact k3 _ _ (x2 _ _ (x1 _ _ e)) (ne_of_none (x1 _ _ e) na)
      · rw [upd_same, List.replicate_succ', List.map_append]
        rfl
    · rintro H1 ⟨x1, d1⟩
      refine ⟨D, List.replicate n true, rfl, SqL.of d1, ?_⟩
      have e : (List.replicate n true).all id = true := by
        rw [List.all_eq_true]
        intro b hb
        rw [(List.mem_replicate.mp hb).2]
        rfl
      rw [e]
      exact k H1
end
end Sl
/-! ## P33 -/
set_option Elab.async false
set_option linter.all false
set_option maxRecDepth 100000
set_option maxHeartbeats 4000000
/-! the end: what the top has written, and the law's head for a promise that wants nothing to be shown around it -/
namespace Sl
open PySem PySem.Spec PyProof.Rows L2
section
variable {P : Program} {w : World} {K : PySem.W.Frag} {mg mb : Str → Option Value} {CX : CXT} {k : Nat} {fa a : Addr} {fd : FuncData} {x : Str} {sp : Sp} {z : Shared} {us : List Value} {js : List Int}
/-- what the head wants of the call's end -/
abbrev EndOk (z : Shared) : Result → Shared → Prop := fun r t => r = .ok (.ret (.bool true)) ∧ OldK z.heap t.heap ∧ t.os = z.os ∧ AllBare t.gens
/-- over one tracked heap, in which the script alone may be told -/
theorem end_one {T : Hp} (inz : K.In z.heap) (ng : z.heap.Ns mainGlobals mg) (nb : z.heap.Ns builtinsNs mb) (eb : ∀ y : Str, y ≠ "__name__" → mb y = bootBuiltins y) (nl : z.heap.NoLimit) (gn : z.gens = #[])
    (at_ : z.heap.get? a = some { cls := .type "list", data := .seq us.toArray }) (rm : Room k callerA)
    (F : ∀ base : Heap, K.In base → base.Ns mainGlobals mg → FnG P w K mg base CX k fa fd [x] sp) (bd : ∀ (t : Shared) (u : Value), BindsTo t fd ⟨[u], []⟩ [(x, u)])
    (pr : sp [.ref a] T (fun v _ => v = .bl true) fun _ _ _ => False) (no : ∀ H e t, CX [] H z (fun _ _ _ => False) e t → False)
    (on : Only T) (ok : HOk P w T z.heap) (one : ∀ b, T b ≠ none → b = a) (out : T a ≠ none → K.lookup a = none) :
    codeAny (model P w) callerA (.call (.ref fa) ⟨[.ref a], []⟩) (EndOk z) z := by
  have free : ∀ {b : Addr}, b ≠ a → T b = none := fun {b} nb => by
    cases q : T b with
    | none => rfl
    | some u => exact absurd (one b (by rw [q]; exact Option.some_ne_none u)) nb
  have inB : K.In (hidT z.heap T) := fun b o e => hidT_get (inz b o e) (by
    by_cases c : b = a
    · subst c
      cases q : T b with
      | none => rfl
      | some u =>
        rw [out (by rw [q]; exact Option.some_ne_none u)] at e
        cases e
    · exact free c)
  have spc : ∀ {b : Addr} {m : Str → Option Value}, z.heap.Ns b m → (hidT z.heap T).Ns b m := fun {b m} h => by
    obtain ⟨o, es, ep, e, d, r⟩ := h
    refine ⟨o, es, ep, hidT_get e (free fun c => ?_), d, r⟩
    subst c
    rw [at_] at e
    cases e
    cases (show Data.seq us.toArray _ = Data.dict es ep from d)
  have lm : (hidT z.heap T).NoLimit := by
    obtain ⟨m, n1, n2⟩ := nl
    exact ⟨m, spc n1, n2⟩
  have ev : Env0 P w K mg (hidT z.heap T) callerA [] z T :=
    ⟨rfl, ⟨inB, spc ng, ⟨mb, spc nb, eb⟩, lm⟩, fun _ _ e => of_hidT e, Nat.le_of_eq (hidT_size _ _), trivial, fun b hb => (List.not_mem_nil (show b ∈ ([] : List Addr) from hb)).elim, ok, .of_eq gn⟩
  refine codeAny_mono ((F _ inB (spc ng)).run callerA [] z T ⟨[.ref a], []⟩ [.ref a] [.ref a] _ _ rfl rm ev (bd z (.ref a)) (.cons rfl .nil) pr) fun r t q => ?_
  rcases r with e | fl
  · exact (no T e t q).elim
  cases fl with
  | next => exact q.elim
  | brk => exact q.elim
  | cont => exact q.elim
  | ret u =>
    obtain ⟨v, T', o1, o2, un, ok', rv, rfl⟩ := q
    obtain rfl : u = Value.bool true := rv
    refine ⟨rfl, OldK.of_keep fun b o e => ?_, o1, o2⟩
    rcases on b with n | ⟨p, ys, n⟩
    · exact un.keep b o e n (fun c => (List.not_mem_nil (show b ∈ ([] : List Addr) from c)).elim) (List.not_mem_nil)
    · obtain ⟨e1, _⟩ := ok b _ n
      obtain ⟨e2, _⟩ := ok' b _ (un.frzs b p _ n)
      rw [e1] at e
      cases e
      exact e2
theorem end_call (inz : K.In z.heap) (ng : z.heap.Ns mainGlobals mg) (nb : z.heap.Ns builtinsNs mb) (eb : ∀ y : Str, y ≠ "__name__" → mb y = bootBuiltins y) (nl : z.heap.NoLimit) (gn : z.gens = #[])
    (at_ : z.heap.get? a = some { cls := .type "list", data := .seq us.toArray }) (ia : IntsAre us js) (sz : js.length ≤ sizeLine) (rm : Room k callerA)
    (F : ∀ base : Heap, K.In base → base.Ns mainGlobals mg → FnG P w K mg base CX k fa fd [x] sp) (bd : ∀ (t : Shared) (u : Value), BindsTo t fd ⟨[u], []⟩ [(x, u)])
    (pr : ∀ T : Hp, Only T → SqL K T a (js.map V.int) → sp [.ref a] T (fun v _ => v = .bl true) fun _ _ _ => False) (no : ∀ H e t, CX [] H z (fun _ _ _ => False) e t → False) :
    codeAny (model P w) callerA (.call (.ref fa) ⟨[.ref a], []⟩) (EndOk z) z := by
  have rv := vals_ints ia
  have ln := ia.length
  have go : ∀ T : Hp, Only T → SqL K T a (js.map V.int) → HOk P w T z.heap → (∀ b, T b ≠ none → b = a) → (T a ≠ none → K.lookup a = none) → codeAny (model P w) callerA (.call (.ref fa) ⟨[.ref a], []⟩) (EndOk z) z :=
    fun T h1 h2 h3 h4 h5 => end_one inz ng nb eb nl gn at_ rm F bd (pr T h1 h2) no h1 h3 h4 h5
  cases own : K.lookup a with
  | some o =>
    have e := inz a o own
    rw [at_] at e
    cases e
    refine go (fun _ => none) (fun _ => .inl rfl) (.inr ⟨_, us.toArray, _, own, rfl, rfl, rfl, ?_, ?_⟩) (fun b u c => ?_) (fun b c => absurd rfl c) fun c => absurd rfl c
    · rw [List.size_toArray, ln]
      exact sz
    · simpa using rv
    · cases (show (none : Option HO) = some u from c)
  | none =>
    let T0 : Hp := fun b => if b = a then some (.frz { cls := .type "list", data := .seq us.toArray } (.lst (js.map V.int))) else none
    have ta : T0 a = some (.frz { cls := .type "list", data := .seq us.toArray } (.lst (js.map V.int))) := if_pos rfl
    have tn : ∀ {b}, b ≠ a → T0 b = none := fun {b} c => if_neg c
    refine go T0 (fun b => ?_) (.inl (.inr ⟨_, ta⟩)) (fun b u c => ?_) (fun b c => ?_) fun _ => own
    · by_cases e : b = a
      · subst e
        exact .inr ⟨_, _, ta⟩
      · exact .inl (tn e)
    · by_cases e : b = a
      · subst e
        rw [ta] at c
        cases c
        exact ⟨at_, by rw [List.length_map]; exact sz, us, _, rv, at_⟩
      · rw [tn e] at c
        cases c
    · by_cases e : b = a
      · exact e
      · exact absurd (tn e) c
end
theorem walk_ofG {l : PySem.W.OpenLaw} {n k : Nat} {q : Program} {loose : List Str} {XP : (Str → Option Value) → Heap → Prop} {YP : World → Heap → Prop} {d : DefRec} {K : Params → PySem.W.Frag} {sp : PySem.W.Frag → Sp} {x : Str}
    (m : l.most = some n) (m2 : n ≤ sizeLine) (nd : d.params.defaults = []) (rm : Room k callerA) (inY : ∀ (w : World) (h : Heap), YP w h → (K w.params).In h)
    (F : ∀ (w : World) (mg : Str → Option Value) (fa : Addr) (h : Heap), (K w.params).In h → h.Ns mainGlobals mg → mg d.name = some (.ref fa) → ∃ fd : FuncData, (∀ (t : Shared) (u : Value), BindsTo t fd ⟨[u], []⟩ [(x, u)]) ∧ ∀ base : Heap, (K w.params).In base → base.Ns mainGlobals mg → FnG l.prog w (K w.params) mg base CX0 k fa fd [x] (sp (K w.params)))
    (pr : ∀ (K : PySem.W.Frag) (T : Hp) (a : Addr) (js : List Int), js.length ≤ n → Only T → SqL K T a (js.map V.int) → sp K [.ref a] T (fun v _ => v = .bl true) fun _ _ _ => False) :
    PySem.W.WalkO q loose XP YP l.row.toRowW d [] (fun f vs => PySem.call f vs) := by
  refine Att.attach_call m nd fun w t0 t1 mg mb fa o pm cd doc a us js G Y ho hd hcd hmg hobj hints hlen hg => ?_
  obtain ⟨fd, b, f⟩ := F w mg fa _ (inY w _ Y) G.T.g hmg
  exact end_call (inY w _ Y) G.T.g G.T.b G.T.builtins G.T.nolimit hg hobj hints (Nat.le_trans hlen m2) rm f b (fun T h1 h2 => pr _ T a js hlen h1 h2) fun _ _ _ c => c
/-! ### what the top has written -/
/-- a def of the module -/
structure Std (K : PySem.W.Frag) (x : Str) (st : Stmt) (f : Addr) : Prop where
  ns : PySem.W.nsIn K mainGlobals x = some (some (.ref f))
  fn : ∃ fd, Fun K x x st f fd
theorem std_of {K : PySem.W.Frag} {x : Str} {st : Stmt} {f : Addr} {oc : Value} {od an : Option Addr} {osl : Array (Option Value)} {kV doc pm cdv ct : Value} (n : PySem.W.nsIn K mainGlobals x = some (some (.ref f)))
    (l : K.lookup f = some ⟨oc, od, .func (PySem.W.fnOf x x (defArgs st) (defBody st) (defScope st) .none kV doc pm an cdv ct), osl⟩) (c : PySem.W.codeIn K cdv x = true) (k : PySem.W.keepIn K (.ref f) = true) : Std K x st f := ⟨n, _, fun_mk l c k⟩
/-- a def of the class -/
structure InCls (K : PySem.W.Frag) (C : Addr) (x q : Str) (st : Stmt) (f : Addr) : Prop where
  m : Meth K C x f
  fn : ∃ fd, Fun K x q st f fd
theorem incls_of {K : PySem.W.Frag} {C : Addr} {x q : Str} {st : Stmt} {f : Addr} {oc : Value} {od an : Option Addr} {osl : Array (Option Value)} {kV doc pm cdv ct : Value} (n : PySem.W.findIn K (.ref C) x = some (some (.ref f))) (i : PySem.W.isFn K (.ref f) = true)
    (l : K.lookup f = some ⟨oc, od, .func (PySem.W.fnOf x q (defArgs st) (defBody st) (defScope st) .none kV doc pm an cdv ct), osl⟩) (c : PySem.W.codeIn K cdv q = true) (k : PySem.W.keepIn K (.ref f) = true) : InCls K C x q st f := ⟨⟨n, i, k⟩, _, fun_mk l c k⟩
/-- the property's getter -/
structure InProp (K : PySem.W.Frag) (C : Addr) (x q : Str) (st : Stmt) (p f : Addr) : Prop where
  m : PropOf K C x p f
  fn : ∃ fd, Fun K x q st f fd
theorem inprop_of {K : PySem.W.Frag} {C : Addr} {x q : Str} {st : Stmt} {p f : Addr} {rest : List Value} {oc : Value} {od an : Option Addr} {osl : Array (Option Value)} {kV doc pm cdv ct : Value} (n : PySem.W.findIn K (.ref C) x = some (some (.ref p)))
    (g : PySem.W.specialIn K (.ref p) "__get__" = some (some (.builtin "property.__get__"))) (t : PySem.W.takesIn K (.ref p) = some true) (r : PySem.W.recIn K p "property" = some (.ref f :: rest))
    (l : K.lookup f = some ⟨oc, od, .func (PySem.W.fnOf x q (defArgs st) (defBody st) (defScope st) .none kV doc pm an cdv ct), osl⟩) (c : PySem.W.codeIn K cdv q = true) (k : PySem.W.keepIn K (.ref f) = true) : InProp K C x q st p f := ⟨⟨n, g, t, rest, r⟩, _, fun_mk l c k⟩
/-- the class, with its __init__ and its constant -/
structure RdAll (K : PySem.W.Frag) (C fI e : Addr) (u12 : Value) : Prop where
  ns : PySem.W.nsIn K mainGlobals "Reader" = some (some (.ref C))
  rd : RdC K C
  mak : Mk K C fI
  con : Con K C "MAX_STATES" (.int 12) u12
  ini : ∃ fd, FunD K "__init__" "Reader.__init__" (defArgs sInit) (defBody sInit) (defScope sInit) [V.ref e] [] fI fd
theorem rdall_of {K : PySem.W.Frag} {C fI e T : Addr} {t12 : Tok} {cT : Value} {dT : Option Addr} {nT : Nat} {sT : Array (Option Value)} {oc : Value} {od an : Option Addr} {osl : Array (Option Value)} {kV doc pm cdv ct : Value}
    (ns : PySem.W.nsIn K mainGlobals "Reader" = some (some (.ref C)))
    (pg : PySem.W.plainGet K C Str.empty = true) (hd : PySem.W.hasDictIn K C = true) (po : PySem.W.plainOver K C = true) (sa : PySem.W.findIn K (.ref C) "__setattr__" = some (some (.builtin "object.__setattr__")))
    (n1 : PySem.W.findIn K (.ref C) "_states" = some none) (n2 : PySem.W.findIn K (.ref C) "_ends" = some none) (n3 : PySem.W.findIn K (.ref C) "_start" = some none) (n4 : PySem.W.findIn K (.ref C) "_page_signs" = some none) (n5 : PySem.W.findIn K (.ref C) "_text_signs" = some none) (n6 : PySem.W.findIn K (.ref C) "_marks" = some none)
    (mk : PySem.W.makesIn K C = true) (i : PySem.W.findIn K (.ref C) "__init__" = some (some (.ref fI))) (fn : PySem.W.isFn K (.ref fI) = true) (kC : PySem.W.keepIn K (.ref C) = true)
    (c1 : PySem.W.findIn K (.ref C) "MAX_STATES" = some (some (.int 12 t12))) (c2 : PySem.W.specialIn K (.int 12 t12) "__get__" = some none)
    (l : K.lookup fI = some ⟨oc, od, .func (PySem.W.fnOf "__init__" "Reader.__init__" (defArgs sInit) (defBody sInit) (defScope sInit) (.ref T) kV doc pm an cdv ct), osl⟩) (c : PySem.W.codeIn K cdv "Reader.__init__" = true) (k : PySem.W.keepIn K (.ref fI) = true)
    (lT : K.lookup T = some ⟨cT, dT, .seq (List.toArray [Value.ref e]) nT, sT⟩) : RdAll K C fI e (.int 12 t12) :=
  ⟨ns, ⟨⟨pg, hd, po, sa⟩, n1, n2, n3, n4, n5, n6⟩, ⟨mk, i, fn, kC⟩, ⟨c1, ⟨t12, rfl⟩, c2, by decide +kernel⟩, _, ⟨oc, od, .ref T, kV, doc, pm, an, cdv, ct, osl, rfl, l, c, .inr ⟨by simp, T, _, [.ref e], nT, rfl, lT, rfl, .cons rfl .nil⟩, .inl rfl⟩, k⟩
theorem kb_make {K : PySem.W.Frag} {fI e : Addr} {fd : FuncData} (F : FunD K "__init__" "Reader.__init__" (defArgs sInit) (defBody sInit) (defScope sInit) [V.ref e] [] fI fd) : KBn K fd ["self", "states", "ends", "start"] 3 ["start"] (fun us ws => us ++ ws) (fun vs zs => vs ++ zs) := by
  obtain ⟨_, h⟩ := FunD.kbindsD F (ps := ["self", "states", "ends", "start"]) 3 ["start"] (fun us _ ws => us ++ ws) (by simp) (fun r1 _ r3 => r1.append r3) fun T kV doc pm an cdv ct us its ws h1 h2 h3 => match us, its, ws, h1, h2, h3 with
    | [_, _, _], [_], [_], _, _, _ => ⟨_, rfl, rfl⟩
  exact h
theorem vals_rev : ∀ {vs : List V} {us : List Value}, Vals vs us → Vals vs.reverse us.reverse
  | _, _, .nil => .nil
  | _, _, .cons r rs => by
    rw [List.reverse_cons, List.reverse_cons]
    exact (vals_rev rs).append (.cons r .nil)
theorem kb_read {K : PySem.W.Frag} {f : Addr} {fd : FuncData} (F : Fun K "reading" "reading" sReading f fd) : KBn K fd ["reader", "page"] 0 ["page", "reader"] (fun _ ws => ws.reverse) (fun _ zs => zs.reverse) := by
  obtain ⟨oc, od, kV, doc, pm, an, cdv, ct, osl, e, _⟩ := F.ex
  subst e
  exact ⟨fun s us ws _ h1 h2 => match us, ws, h1, h2 with
    | [], [_, _], _, _ => .of_eq rfl, fun _ r => vals_rev r⟩
/-- an own error class -/
structure ErrC (K : PySem.W.Frag) (x : Str) (fld : Str) (C : Addr) (newId initId B : String) (tl : List Value) : Prop where
  ns : PySem.W.nsIn K mainGlobals x = some (some (.ref C))
  one : OneC K C newId tl
  xf : XfC K C
  ex : ExcC K C
  no : PySem.W.findIn K (.ref C) fld = some none
  sup : PySem.W.ks_superIn K C C "__init__" = some (some (.builtin initId))
  sub : PySem.W.subIn K (.ref C) (.type B) = some true
theorem errc_of0 {K : PySem.W.Frag} {x fld : Str} {C : Addr} {newId initId B : String} {tl : List Value} {nm q : Str} {N : Addr} {bs : List Value} {sn : List Str} {sb : List Value} {ab : Bool} {col : Option Bool} {dd : Option Addr} {k0 k1 k2 k3 k5 : Option Value}
    (ns : PySem.W.nsIn K mainGlobals x = some (some (.ref C))) (xL : K.lookup C = some (excClassObj nm q C N bs tl true sn sb ab col dd k0 k1 k2 k3 k5 newId))
    (sa : PySem.W.findIn K (.ref C) "__setattr__" = some (some (.builtin "object.__setattr__"))) (exC : PySem.W.subIn K (.ref C) (.type "BaseException") = some true) (tyC : PySem.W.typeIn K (.ref C) = some (.type "type")) (kC : PySem.W.keepIn K (.ref C) = true)
    (ga : PySem.W.findIn K (.ref C) "__getattribute__" = some (some (.builtin "BaseException.__getattribute__"))) (gg : PySem.W.findIn K (.ref C) "__getattr__" = some none) (hdC : PySem.W.hasDictIn K C = true)
    (hc : PySem.W.findIn K (.ref C) "__class__" = some (some (.builtin "object.__class__"))) (hn : PySem.W.specialIn K (.builtin "object.__class__") "__get__" = some (some (.builtin "getset_descriptor.__get__"))) (ht : PySem.W.takesIn K (.builtin "object.__class__") = some true) (hm : PySem.W.mroIn K C (.type "object") = some true)
    (no : PySem.W.findIn K (.ref C) fld = some none) (sup : PySem.W.ks_superIn K C C "__init__" = some (some (.builtin initId))) (sub : PySem.W.subIn K (.ref C) (.type B) = some true) : ErrC K x fld C newId initId B tl :=
  ⟨ns, ⟨⟨nm, q, N, bs, [], sn, sb, ab, col, dd, k0, k1, k2, k3, k5, xL⟩, sa, exC, tyC, kC⟩, ⟨ga, gg, exC, hdC⟩, ⟨ga, gg, exC, hdC, hc, hn, ht, hm⟩, no, sup, sub⟩
theorem errc_of1 {K : PySem.W.Frag} {x fld : Str} {C : Addr} {newId initId B : String} {tl : List Value} {r : Addr} {nm q : Str} {N : Addr} {bs : List Value} {sn : List Str} {sb : List Value} {ab : Bool} {col : Option Bool} {dd : Option Addr} {k0 k1 k2 k3 k5 : Option Value}
    (ns : PySem.W.nsIn K mainGlobals x = some (some (.ref C))) (xL : K.lookup C = some (excClassObj nm q C N bs (.ref r :: tl) true sn sb ab col dd k0 k1 k2 k3 k5 newId))
    (sa : PySem.W.findIn K (.ref C) "__setattr__" = some (some (.builtin "object.__setattr__"))) (exC : PySem.W.subIn K (.ref C) (.type "BaseException") = some true) (tyC : PySem.W.typeIn K (.ref C) = some (.type "type")) (kC : PySem.W.keepIn K (.ref C) = true)
    (ga : PySem.W.findIn K (.ref C) "__getattribute__" = some (some (.builtin "BaseException.__getattribute__"))) (gg : PySem.W.findIn K (.ref C) "__getattr__" = some none) (hdC : PySem.W.hasDictIn K C = true)
    (hc : PySem.W.findIn K (.ref C) "__class__" = some (some (.builtin "object.__class__"))) (hn : PySem.W.specialIn K (.builtin "object.__class__") "__get__" = some (some (.builtin "getset_descriptor.__get__"))) (ht : PySem.W.takesIn K (.builtin "object.__class__") = some true) (hm : PySem.W.mroIn K C (.type "object") = some true)
    (no : PySem.W.findIn K (.ref C) fld = some none) (sup : PySem.W.ks_superIn K C C "__init__" = some (some (.builtin initId))) (sub : PySem.W.subIn K (.ref C) (.type B) = some true) : ErrC K x fld C newId initId B tl :=
  ⟨ns, ⟨⟨nm, q, N, bs, [r], sn, sb, ab, col, dd, k0, k1, k2, k3, k5, xL⟩, sa, exC, tyC, kC⟩, ⟨ga, gg, exC, hdC⟩, ⟨ga, gg, exC, hdC, hc, hn, ht, hm⟩, no, sup, sub⟩
theorem sys_of {K : PySem.W.Frag} {o : Obj} (h : K.lookup sysModules = some o) : ∃ o, K.lookup sysModules = some o := ⟨o, h⟩
/-- its __init__ -/
structure ErrI (P : Program) (K : PySem.W.Frag) (q : Str) (st : Stmt) (C f : Addr) : Prop where
  ini : PySem.W.findIn K (.ref C) "__init__" = some (some (.ref f))
  fn : PySem.W.typeIn K (.ref f) = some (.type "function")
  sup : ∃ (cda cc : Addr) (kV doc pm ct : Value) (an : Option Addr), SupFn P K C f cda cc "__init__" q (defArgs st) (defBody st) (defScope st) (PySem.W.fnX "__init__" q (defArgs st) (defBody st) (defScope st) [("__class__", cc)] .none kV doc pm an (.ref cda) ct)
theorem erri_of {P : Program} {K : PySem.W.Frag} {q : Str} {st : Stmt} {C f cda cc : Addr} {oc kV doc pm ct : Value} {od an : Option Addr} {osl : Array (Option Value)} {ccl : Value} {cdd : Option Addr} {vs : Array Value} {ccs : Array (Option Value)} {file : Str} {tf : Tok} {cl : Value} {cld : Option Addr} {csl : Array (Option Value)}
    (ini : PySem.W.findIn K (.ref C) "__init__" = some (some (.ref f))) (fn : PySem.W.typeIn K (.ref f) = some (.type "function"))
    (l : K.lookup f = some ⟨oc, od, .func (PySem.W.fnX "__init__" q (defArgs st) (defBody st) (defScope st) [("__class__", cc)] .none kV doc pm an (.ref cda) ct), osl⟩) (co : PySem.W.codeIn K (.ref cda) q = true)
    (lc : K.lookup cda = some ⟨ccl, cdd, .fields vs, ccs⟩) (v2 : vs[2]? = some (.str file tf)) (fi : ((P.main.file : Str) == file) = true) (ce : K.lookup cc = some ⟨cl, cld, .cell (some (.ref C)), csl⟩)
    (an_ : PySem.W.nsIn K cStatics "thirdparty.any" = some none) (tp : (P.main.scope.names.lookup ("super" : Str)).isSome = false) : ErrI P K q st C f :=
  ⟨ini, fn, cda, cc, kV, doc, pm, ct, an, ⟨⟨oc, od, .none, kV, doc, pm, an, ct, osl, rfl, l⟩, co, ⟨ccl, cdd, vs, ccs, file, tf, lc, v2, fi⟩, ⟨cl, cld, csl, ce⟩, an_, tp⟩⟩

theorem all_mk {P : Program} {w : World} {K : PySem.W.Frag} {h : Heap} {mg : Str → Option Value} {fa C fI e pS fS C5 C6 Cs f5 f6 f_isint f_below f_chk f_ares f_hasl f_sign f_mark f_word f_name f_ckw f_ismv f_isrw f_cop f_read f_walk f_row f_last f_rng f_draw f_choi f_lett f_mrks f_anyf f_fam f_bent f_form f_text f_due f_ask f_pag f_rght f_law f_coll f_lim f_ends f_move : Addr} {u12 : Value} {t8 t6 t4 t7 : Tok} (X : K.In h) (G : h.Ns mainGlobals mg) (hfa : mg "law" = some (.ref fa))
    (s_isint : Std K "is_integer" sIsInt f_isint)
    (s_below : Std K "is_below" sBelow f_below)
    (s_chk : Std K "check_state" sCheckState f_chk)
    (s_ares : Std K "are_states" sAreStates f_ares)
    (s_hasl : Std K "has_length" sHasLen f_hasl)
    (s_sign : Std K "is_sign" sIsSign f_sign)
    (s_mark : Std K "is_mark" sIsMark f_mark)
    (s_word : Std K "is_word" sIsWord f_word)
    (s_name : Std K "is_name" sIsName f_name)
    (s_ckw : Std K "check_word" sCheckWord f_ckw)
    (s_ismv : Std K "_is_move" sIsMove f_ismv)
    (s_isrw : Std K "_is_reader_state" sIsRow f_isrw)
    (s_cop : Std K "_copied_state" sCopied f_cop)
    (s_read : Std K "reading" sReading f_read)
    (s_walk : Std K "_walk" sWalk f_walk)
    (s_row : Std K "_row" sRow f_row)
    (s_last : Std K "_last_state" sLast f_last)
    (s_rng : Std K "_law_rng" sRng f_rng)
    (s_draw : Std K "_law_draw" sDraw f_draw)
    (s_choi : Std K "_law_choice" sChoice f_choi)
    (s_lett : Std K "_law_letters" sLetters f_lett)
    (s_mrks : Std K "_law_marks" sMarks f_mrks)
    (s_anyf : Std K "_law_any_format" sAnyFormat f_anyf)
    (s_fam : Std K "_law_family" sFamily f_fam)
    (s_bent : Std K "_law_bent" sBent f_bent)
    (s_form : Std K "_law_format" sFormat f_form)
    (s_text : Std K "_law_texts" sTexts f_text)
    (s_due : Std K "_law_due" sDue f_due)
    (s_ask : Std K "_law_asked" sAsked f_ask)
    (s_pag : Std K "_law_pages" sPages f_pag)
    (s_rght : Std K "_law_right" sRight f_rght)
    (s_law : Std K "law" sLaw f_law)
    (rd : RdAll K C fI e u12)
    (s_coll : InCls K C "_collect_names" "Reader._collect_names" sCollect f_coll)
    (s_lim : InCls K C "_check_limits" "Reader._check_limits" sLimits f_lim)
    (s_ends : InCls K C "ends" "Reader.ends" sEnds f_ends)
    (s_move : InCls K C "move" "Reader.move" sMove f_move)
    (s_start : InProp K C "start" "Reader.start" sStart pS fS)
    (e5 : ErrC K "InvalidWord" "value" C5 "ValueError.__new__" "ValueError.__init__" "ValueError" veT) (i5 : ErrI P K "InvalidWord.__init__" sIniW C5 f5)
    (e6 : ErrC K "Unreadable" "place" C6 "RuntimeError.__new__" "RuntimeError.__init__" "RuntimeError" rtT) (i6 : ErrI P K "Unreadable.__init__" sIniU C6 f6)
    (gs : PySem.W.nsIn K mainGlobals "SlotsError" = some (some (.ref Cs)))
    (m56 : PySem.W.exmOne K (.ref C5) (.ref C6) = some false) (m55 : PySem.W.exmOne K (.ref C5) (.ref C5) = some true) (m66 : PySem.W.exmOne K (.ref C6) (.ref C6) = some true)
    (k6r : PySem.W.kitOne K (.ref C6) (.type "RuntimeError") = some true) (k6t : PySem.W.kitAny K (.ref C6) [.ref Cs, .type "LookupError"] = some false) (k5s : PySem.W.kitOne K (.ref C5) (.ref Cs) = some true) (k5v : PySem.W.kitOne K (.ref C5) (.type "ValueError") = some true)
    (c8 : PySem.W.nsIn K mainGlobals "MAX_NAME" = some (some (.int 8 t8))) (c6 : PySem.W.nsIn K mainGlobals "MAX_PAGE_SIGNS" = some (some (.int 6 t6))) (c4 : PySem.W.nsIn K mainGlobals "MAX_TEXT_SIGNS" = some (some (.int 4 t4))) (c7 : PySem.W.nsIn K mainGlobals "MAX_MARKS" = some (some (.int 6 t7)))
    (sys0 : ∃ o, K.lookup sysModules = some o)
    (z_isinstance : PySem.W.nsIn K mainGlobals "isinstance" = some none)
    (z_int : PySem.W.nsIn K mainGlobals "int" = some none)
    (z_bool : PySem.W.nsIn K mainGlobals "bool" = some none)
    (z_list : PySem.W.nsIn K mainGlobals "list" = some none)
    (z_tuple : PySem.W.nsIn K mainGlobals "tuple" = some none)
    (z_len : PySem.W.nsIn K mainGlobals "len" = some none)
    (z_all : PySem.W.nsIn K mainGlobals "all" = some none)
    (z_set : PySem.W.nsIn K mainGlobals "set" = some none)
    (z_str : PySem.W.nsIn K mainGlobals "str" = some none)
    (z_dict : PySem.W.nsIn K mainGlobals "dict" = some none)
    (z_sorted : PySem.W.nsIn K mainGlobals "sorted" = some none)
    (z_enumerate : PySem.W.nsIn K mainGlobals "enumerate" = some none)
    (z_divmod : PySem.W.nsIn K mainGlobals "divmod" = some none)
    (z_range : PySem.W.nsIn K mainGlobals "range" = some none)
    (z_max : PySem.W.nsIn K mainGlobals "max" = some none)
    (z_min : PySem.W.nsIn K mainGlobals "min" = some none)
    (z_abs : PySem.W.nsIn K mainGlobals "abs" = some none)
    (z_super : PySem.W.nsIn K mainGlobals "super" = some none)
    (z_RuntimeError : PySem.W.nsIn K mainGlobals "RuntimeError" = some none)
    (z_LookupError : PySem.W.nsIn K mainGlobals "LookupError" = some none)
    (z_ValueError : PySem.W.nsIn K mainGlobals "ValueError" = some none)
    (z_repr : PySem.W.nsIn K mainGlobals "repr" = some none)
    : ∃ fd : FuncData, (∀ (s : Shared) (u : Value), BindsTo s fd ⟨[u], []⟩ [("_law_script", u)]) ∧ ∀ base : Heap, K.In base → base.Ns mainGlobals mg → FnG P w K mg base CX0 9 fa fd ["_law_script"] (spLaw K) := by
  have e0 := hfa.symm.trans (PySem.W.mg_of X G s_law.ns)
  cases e0
  have z_isinstance := PySem.W.mg_none_of X G z_isinstance
  have z_int := PySem.W.mg_none_of X G z_int
  have z_bool := PySem.W.mg_none_of X G z_bool
  have z_list := PySem.W.mg_none_of X G z_list
  have z_tuple := PySem.W.mg_none_of X G z_tuple
  have z_len := PySem.W.mg_none_of X G z_len
  have z_all := PySem.W.mg_none_of X G z_all
  have z_set := PySem.W.mg_none_of X G z_set
  have z_str := PySem.W.mg_none_of X G z_str
  have z_dict := PySem.W.mg_none_of X G z_dict
  have z_sorted := PySem.W.mg_none_of X G z_sorted
  have z_enumerate := PySem.W.mg_none_of X G z_enumerate
  have z_divmod := PySem.W.mg_none_of X G z_divmod
  have z_range := PySem.W.mg_none_of X G z_range
  have z_max := PySem.W.mg_none_of X G z_max
  have z_min := PySem.W.mg_none_of X G z_min
  have z_abs := PySem.W.mg_none_of X G z_abs
  have z_super := PySem.W.mg_none_of X G z_super
  have z_RuntimeError := PySem.W.mg_none_of X G z_RuntimeError
  have z_LookupError := PySem.W.mg_none_of X G z_LookupError
  have z_ValueError := PySem.W.mg_none_of X G z_ValueError
  have z_repr := PySem.W.mg_none_of X G z_repr
  obtain ⟨d_isint, F_isint⟩ := s_isint.fn
  have a_isint : At K mg "is_integer" f_isint d_isint ["value"] [] := ⟨PySem.W.mg_of X G s_isint.ns, F_isint.kp, F_isint.binds (ps := ["value"]) fun _ _ _ _ _ _ us hl => match us, hl with | [_], _ => rfl⟩
  obtain ⟨d_below, F_below⟩ := s_below.fn
  have a_below : At K mg "is_below" f_below d_below ["value", "limit"] [] := ⟨PySem.W.mg_of X G s_below.ns, F_below.kp, F_below.binds (ps := ["value", "limit"]) fun _ _ _ _ _ _ us hl => match us, hl with | [_, _], _ => rfl⟩
  obtain ⟨d_chk, F_chk⟩ := s_chk.fn
  have a_chk : At K mg "check_state" f_chk d_chk ["value", "many"] [] := ⟨PySem.W.mg_of X G s_chk.ns, F_chk.kp, F_chk.binds (ps := ["value", "many"]) fun _ _ _ _ _ _ us hl => match us, hl with | [_, _], _ => rfl⟩
  obtain ⟨d_ares, F_ares⟩ := s_ares.fn
  have a_ares : At K mg "are_states" f_ares d_ares ["value", "many"] [] := ⟨PySem.W.mg_of X G s_ares.ns, F_ares.kp, F_ares.binds (ps := ["value", "many"]) fun _ _ _ _ _ _ us hl => match us, hl with | [_, _], _ => rfl⟩
  obtain ⟨d_hasl, F_hasl⟩ := s_hasl.fn
  have a_hasl : At K mg "has_length" f_hasl d_hasl ["value", "least", "most"] [] := ⟨PySem.W.mg_of X G s_hasl.ns, F_hasl.kp, F_hasl.binds (ps := ["value", "least", "most"]) fun _ _ _ _ _ _ us hl => match us, hl with | [_, _, _], _ => rfl⟩
  obtain ⟨d_sign, F_sign⟩ := s_sign.fn
  have a_sign : At K mg "is_sign" f_sign d_sign ["value"] [] := ⟨PySem.W.mg_of X G s_sign.ns, F_sign.kp, F_sign.binds (ps := ["value"]) fun _ _ _ _ _ _ us hl => match us, hl with | [_], _ => rfl⟩
  obtain ⟨d_mark, F_mark⟩ := s_mark.fn
  have a_mark : At K mg "is_mark" f_mark d_mark ["value"] [] := ⟨PySem.W.mg_of X G s_mark.ns, F_mark.kp, F_mark.binds (ps := ["value"]) fun _ _ _ _ _ _ us hl => match us, hl with | [_], _ => rfl⟩
  obtain ⟨d_word, F_word⟩ := s_word.fn
  have a_word : At K mg "is_word" f_word d_word ["value"] [] := ⟨PySem.W.mg_of X G s_word.ns, F_word.kp, F_word.binds (ps := ["value"]) fun _ _ _ _ _ _ us hl => match us, hl with | [_], _ => rfl⟩
  obtain ⟨d_name, F_name⟩ := s_name.fn
  have a_name : At K mg "is_name" f_name d_name ["value"] [] := ⟨PySem.W.mg_of X G s_name.ns, F_name.kp, F_name.binds (ps := ["value"]) fun _ _ _ _ _ _ us hl => match us, hl with | [_], _ => rfl⟩
  obtain ⟨d_ckw, F_ckw⟩ := s_ckw.fn
  have a_ckw : At K mg "check_word" f_ckw d_ckw ["value"] [] := ⟨PySem.W.mg_of X G s_ckw.ns, F_ckw.kp, F_ckw.binds (ps := ["value"]) fun _ _ _ _ _ _ us hl => match us, hl with | [_], _ => rfl⟩
  obtain ⟨d_ismv, F_ismv⟩ := s_ismv.fn
  have a_ismv : At K mg "_is_move" f_ismv d_ismv ["value", "many"] [] := ⟨PySem.W.mg_of X G s_ismv.ns, F_ismv.kp, F_ismv.binds (ps := ["value", "many"]) fun _ _ _ _ _ _ us hl => match us, hl with | [_, _], _ => rfl⟩
  obtain ⟨d_isrw, F_isrw⟩ := s_isrw.fn
  have a_isrw : At K mg "_is_reader_state" f_isrw d_isrw ["value", "many"] [] := ⟨PySem.W.mg_of X G s_isrw.ns, F_isrw.kp, F_isrw.binds (ps := ["value", "many"]) fun _ _ _ _ _ _ us hl => match us, hl with | [_, _], _ => rfl⟩
  obtain ⟨d_cop, F_cop⟩ := s_cop.fn
  have a_cop : At K mg "_copied_state" f_cop d_cop ["state"] [] := ⟨PySem.W.mg_of X G s_cop.ns, F_cop.kp, F_cop.binds (ps := ["state"]) fun _ _ _ _ _ _ us hl => match us, hl with | [_], _ => rfl⟩
  obtain ⟨d_read, F_read⟩ := s_read.fn
  have a_read : At K mg "reading" f_read d_read ["reader", "page"] [] := ⟨PySem.W.mg_of X G s_read.ns, F_read.kp, F_read.binds (ps := ["reader", "page"]) fun _ _ _ _ _ _ us hl => match us, hl with | [_, _], _ => rfl⟩
  obtain ⟨d_walk, F_walk⟩ := s_walk.fn
  have a_walk : At K mg "_walk" f_walk d_walk ["reader", "state", "word"] [] := ⟨PySem.W.mg_of X G s_walk.ns, F_walk.kp, F_walk.binds (ps := ["reader", "state", "word"]) fun _ _ _ _ _ _ us hl => match us, hl with | [_, _, _], _ => rfl⟩
  obtain ⟨d_row, F_row⟩ := s_row.fn
  have a_row : At K mg "_row" f_row d_row ["walk"] [] := ⟨PySem.W.mg_of X G s_row.ns, F_row.kp, F_row.binds (ps := ["walk"]) fun _ _ _ _ _ _ us hl => match us, hl with | [_], _ => rfl⟩
  obtain ⟨d_last, F_last⟩ := s_last.fn
  have a_last : At K mg "_last_state" f_last d_last ["first", "walk"] [] := ⟨PySem.W.mg_of X G s_last.ns, F_last.kp, F_last.binds (ps := ["first", "walk"]) fun _ _ _ _ _ _ us hl => match us, hl with | [_, _], _ => rfl⟩
  obtain ⟨d_rng, F_rng⟩ := s_rng.fn
  have a_rng : At K mg "_law_rng" f_rng d_rng ["_law_script", "_law_k"] [] := ⟨PySem.W.mg_of X G s_rng.ns, F_rng.kp, F_rng.binds (ps := ["_law_script", "_law_k"]) fun _ _ _ _ _ _ us hl => match us, hl with | [_, _], _ => rfl⟩
  obtain ⟨d_draw, F_draw⟩ := s_draw.fn
  have a_draw : At K mg "_law_draw" f_draw d_draw ["_law_rng_here", "_law_many"] [] := ⟨PySem.W.mg_of X G s_draw.ns, F_draw.kp, F_draw.binds (ps := ["_law_rng_here", "_law_many"]) fun _ _ _ _ _ _ us hl => match us, hl with | [_, _], _ => rfl⟩
  obtain ⟨d_choi, F_choi⟩ := s_choi.fn
  have a_choi : At K mg "_law_choice" f_choi d_choi ["_law_rng_here", "_law_some"] [] := ⟨PySem.W.mg_of X G s_choi.ns, F_choi.kp, F_choi.binds (ps := ["_law_rng_here", "_law_some"]) fun _ _ _ _ _ _ us hl => match us, hl with | [_, _], _ => rfl⟩
  obtain ⟨d_lett, F_lett⟩ := s_lett.fn
  have a_lett : At K mg "_law_letters" f_lett d_lett ["_law_rng_here", "_law_many"] [] := ⟨PySem.W.mg_of X G s_lett.ns, F_lett.kp, F_lett.binds (ps := ["_law_rng_here", "_law_many"]) fun _ _ _ _ _ _ us hl => match us, hl with | [_, _], _ => rfl⟩
  obtain ⟨d_mrks, F_mrks⟩ := s_mrks.fn
  have a_mrks : At K mg "_law_marks" f_mrks d_mrks ["_law_rng_here", "_law_many"] [] := ⟨PySem.W.mg_of X G s_mrks.ns, F_mrks.kp, F_mrks.binds (ps := ["_law_rng_here", "_law_many"]) fun _ _ _ _ _ _ us hl => match us, hl with | [_, _], _ => rfl⟩
  obtain ⟨d_anyf, F_anyf⟩ := s_anyf.fn
  have a_anyf : At K mg "_law_any_format" f_anyf d_anyf ["_law_rng_here", "_law_cap", "_law_paper", "_law_tells", "_law_marks_here"] [] := ⟨PySem.W.mg_of X G s_anyf.ns, F_anyf.kp, F_anyf.binds (ps := ["_law_rng_here", "_law_cap", "_law_paper", "_law_tells", "_law_marks_here"]) fun _ _ _ _ _ _ us hl => match us, hl with | [_, _, _, _, _], _ => rfl⟩
  obtain ⟨d_fam, F_fam⟩ := s_fam.fn
  have a_fam : At K mg "_law_family" f_fam d_fam ["_law_way", "_law_paper", "_law_tells", "_law_marks_here"] [] := ⟨PySem.W.mg_of X G s_fam.ns, F_fam.kp, F_fam.binds (ps := ["_law_way", "_law_paper", "_law_tells", "_law_marks_here"]) fun _ _ _ _ _ _ us hl => match us, hl with | [_, _, _, _], _ => rfl⟩
  obtain ⟨d_bent, F_bent⟩ := s_bent.fn
  have a_bent : At K mg "_law_bent" f_bent d_bent ["_law_rng_here", "_law_model", "_law_paper", "_law_tells", "_law_marks_here"] [] := ⟨PySem.W.mg_of X G s_bent.ns, F_bent.kp, F_bent.binds (ps := ["_law_rng_here", "_law_model", "_law_paper", "_law_tells", "_law_marks_here"]) fun _ _ _ _ _ _ us hl => match us, hl with | [_, _, _, _, _], _ => rfl⟩
  obtain ⟨d_form, F_form⟩ := s_form.fn
  have a_form : At K mg "_law_format" f_form d_form ["_law_rng_here", "_law_cap", "_law_paper", "_law_tells", "_law_marks_here"] [] := ⟨PySem.W.mg_of X G s_form.ns, F_form.kp, F_form.binds (ps := ["_law_rng_here", "_law_cap", "_law_paper", "_law_tells", "_law_marks_here"]) fun _ _ _ _ _ _ us hl => match us, hl with | [_, _, _, _, _], _ => rfl⟩
  obtain ⟨d_text, F_text⟩ := s_text.fn
  have a_text : At K mg "_law_texts" f_text d_text ["_law_abc", "_law_cap"] [] := ⟨PySem.W.mg_of X G s_text.ns, F_text.kp, F_text.binds (ps := ["_law_abc", "_law_cap"]) fun _ _ _ _ _ _ us hl => match us, hl with | [_, _], _ => rfl⟩
  obtain ⟨d_due, F_due⟩ := s_due.fn
  have a_due : At K mg "_law_due" f_due d_due ["_law_model", "_law_paper"] [] := ⟨PySem.W.mg_of X G s_due.ns, F_due.kp, F_due.binds (ps := ["_law_model", "_law_paper"]) fun _ _ _ _ _ _ us hl => match us, hl with | [_, _], _ => rfl⟩
  obtain ⟨d_ask, F_ask⟩ := s_ask.fn
  have a_ask : At K mg "_law_asked" f_ask d_ask ["_law_made", "_law_paper", "_law_is_named"] [] := ⟨PySem.W.mg_of X G s_ask.ns, F_ask.kp, F_ask.binds (ps := ["_law_made", "_law_paper", "_law_is_named"]) fun _ _ _ _ _ _ us hl => match us, hl with | [_, _, _], _ => rfl⟩
  obtain ⟨d_pag, F_pag⟩ := s_pag.fn
  have a_pag : At K mg "_law_pages" f_pag d_pag ["_law_rng_here", "_law_abc", "_law_other"] [] := ⟨PySem.W.mg_of X G s_pag.ns, F_pag.kp, F_pag.binds (ps := ["_law_rng_here", "_law_abc", "_law_other"]) fun _ _ _ _ _ _ us hl => match us, hl with | [_, _, _], _ => rfl⟩
  obtain ⟨d_rght, F_rght⟩ := s_rght.fn
  have a_rght : At K mg "_law_right" f_rght d_rght ["_law_rng_here"] [] := ⟨PySem.W.mg_of X G s_rght.ns, F_rght.kp, F_rght.binds (ps := ["_law_rng_here"]) fun _ _ _ _ _ _ us hl => match us, hl with | [_], _ => rfl⟩
  obtain ⟨d_law, F_law⟩ := s_law.fn
  obtain ⟨d_coll, F_coll⟩ := s_coll.fn
  have b_coll : L2.Binds K d_coll ["self"] [] := F_coll.binds (ps := ["self"]) fun _ _ _ _ _ _ us hl => match us, hl with | [_], _ => rfl
  obtain ⟨d_lim, F_lim⟩ := s_lim.fn
  have b_lim : L2.Binds K d_lim ["self"] [] := F_lim.binds (ps := ["self"]) fun _ _ _ _ _ _ us hl => match us, hl with | [_], _ => rfl
  obtain ⟨d_ends, F_ends⟩ := s_ends.fn
  have b_ends : L2.Binds K d_ends ["self"] [] := F_ends.binds (ps := ["self"]) fun _ _ _ _ _ _ us hl => match us, hl with | [_], _ => rfl
  obtain ⟨d_move, F_move⟩ := s_move.fn
  have b_move : L2.Binds K d_move ["self", "state", "sign"] [] := F_move.binds (ps := ["self", "state", "sign"]) fun _ _ _ _ _ _ us hl => match us, hl with | [_, _, _], _ => rfl
  obtain ⟨d_start, F_start⟩ := s_start.fn
  have b_start : L2.Binds K d_start ["self"] [] := F_start.binds (ps := ["self"]) fun _ _ _ _ _ _ us hl => match us, hl with | [_], _ => rfl
  obtain ⟨d_init, F_init⟩ := rd.ini
  obtain ⟨ca5, cc5, kV5, doc5, pm5, ct5, an5, S5⟩ := i5.sup
  obtain ⟨ca6, cc6, kV6, doc6, pm6, ct6, an6, S6⟩ := i6.sup
  have b5 : L2.Binds K (PySem.W.fnX "__init__" "InvalidWord.__init__" (defArgs sIniW) (defBody sIniW) (defScope sIniW) [("__class__", cc5)] .none kV5 doc5 pm5 an5 (.ref ca5) ct5) ["self", "value"] [] := .all fun us hl => match us, hl with | [_, _], _ => rfl
  have b6 : L2.Binds K (PySem.W.fnX "__init__" "Unreadable.__init__" (defArgs sIniU) (defBody sIniU) (defScope sIniU) [("__class__", cc6)] .none kV6 doc6 pm6 an6 (.ref ca6) ct6) ["self", "place"] [] := .all fun us hl => match us, hl with | [_, _], _ => rfl
  have q8 := PySem.W.mg_of X G c8
  have q6 := PySem.W.mg_of X G c6
  have q4 := PySem.W.mg_of X G c4
  have q7 := PySem.W.mg_of X G c7
  have gC := PySem.W.mg_of X G rd.ns
  have g5 := PySem.W.mg_of X G e5.ns
  have g6 := PySem.W.mg_of X G e6.ns
  have gS := PySem.W.mg_of X G gs
  refine ⟨d_law, fun s v => ?_, fun base KB _ => ?_⟩
  · obtain ⟨oc, od, kV, doc, pm, an, cdv, ct, osl, e, _⟩ := F_law.ex
    subst e
    exact .of_eq rfl
  · have sys : ∃ o, base.get? sysModules = some o := by
      obtain ⟨o, e⟩ := sys0
      exact ⟨o, KB _ _ e⟩
    have G_isint : FnOk P w K mg base CX0 1 f_isint d_isint ["value"] (spIsInt K) := ok_isint F_isint z_isinstance z_int z_bool
    have G_below := ok_below (base := base) F_below a_isint G_isint
    have G_hasl : FnOk P w K mg base CX0 1 f_hasl d_hasl ["value", "least", "most"] (spHasLen K) := ok_haslen F_hasl z_isinstance z_list z_tuple z_len
    have G_ares := ok_arestates F_ares a_below G_below z_isinstance z_list z_tuple z_len z_all z_set
    have G_word : FnOk P w K mg base CX0 1 f_word d_word ["value"] (spIsWord K) := ok_isword F_word z_isinstance z_str z_all
    have G_name := ok_isname F_name a_word G_word z_len q8
    have G_sign := ok_issign F_sign a_word G_word z_len
    have G_mark := ok_ismark F_mark a_name G_name z_len
    have G_ismv := ok_ismove F_ismv a_below G_below a_name G_name z_isinstance z_tuple z_len
    have G_isrw := ok_isrow F_isrw a_sign G_sign a_ismv G_ismv z_isinstance z_dict z_all
    have G_cop : FnOk P w K mg base CX0 1 f_cop d_cop ["state"] spCopied := ok_copied F_cop z_sorted z_tuple
    have G_coll := ok_collect F_coll rd.rd a_sign G_sign a_mark G_mark z_sorted
    have G_lim : FnOk P w K mg base CX0 1 f_lim d_lim ["self"] (spLimits C) := ok_limits F_lim rd.rd z_len q6 q4 q7
    have G_init := ok_init F_init rd.rd a_hasl G_hasl a_isrw G_isrw a_ares G_ares a_below G_below a_cop G_cop s_coll.m b_coll G_coll s_lim.m b_lim G_lim rd.con z_len z_enumerate z_tuple z_sorted
    have G_chk := ok_checkstate F_chk a_below G_below
    have G_move := ok_move F_move rd.rd a_chk G_chk z_len
    have G_start : FnOk P w K mg base CX0 1 fS d_start ["self"] (spStart C) := ok_start F_start rd.rd
    have G_ends : FnOk P w K mg base CX0 1 f_ends d_ends ["self"] (spEnds C) := ok_ends F_ends rd.rd
    have G_walk := ok_walk F_walk rd.rd s_move.m b_move G_move
    have G_row : FnOk P w K mg base CX0 1 f_row d_row ["walk"] spRow := ok_row F_row z_tuple
    have G_last : FnOk P w K mg base CX0 1 f_last d_last ["first", "walk"] spLast := ok_last F_last
    have I5 : FnOk P w K mg base CX0 1 f5 _ ["self", "value"] (spInit1 C5 "value") := ok_iniW S5 e5.one z_super e5.sup e5.sub e5.no
    have I6 : FnOk P w K mg base CX0 1 f6 _ ["self", "place"] (spInit1 C6 "place") := ok_iniU S6 e6.one z_super e6.sup e6.sub e6.no
    have E5 : ErrAt P w K mg base "InvalidWord" "value" C5 f5 _ "ValueError" "ValueError.__new__" "ValueError.__init__" veT := ⟨g5, e5.one, i5.ini, i5.fn, I5, b5⟩
    have E6 : ErrAt P w K mg base "Unreadable" "place" C6 f6 _ "RuntimeError" "RuntimeError.__new__" "RuntimeError.__init__" rtT := ⟨g6, e6.one, i6.ini, i6.fn, I6, b6⟩
    have G_ckw := ok_checkword F_ckw a_word G_word E5
    have G_read := ok_reading F_read rd.rd a_ckw G_ckw a_walk G_walk a_row G_row a_last G_last s_start.m b_start G_start s_ends.m b_ends G_ends E6 z_len
    have G_ask := ok_asked (fd5 := d_law) (fd6 := d_law) (f5 := f5) (f6 := f6) F_ask a_read (kb_read F_read) G_read g5 g6 gS z_isinstance z_RuntimeError z_LookupError z_ValueError z_repr sys ⟨e5.ex, e6.ex, m56, m55, m66, k6r, k6t, k5s, k5v⟩ (fun x k H H' xt hk => tyx_ext xt hk) e5.xf e6.xf e5.no e6.no
    have G_draw : FnOk P w K mg base CX0 1 f_draw d_draw ["_law_rng_here", "_law_many"] spDraw := ok_draw F_draw z_divmod z_int
    have G_choi := ok_choice F_choi a_draw G_draw z_len
    have G_lett := ok_letters F_lett a_draw G_draw z_len z_list z_range
    have G_mrks := ok_marks F_mrks a_draw G_draw z_range
    have G_anyf := ok_anyformat F_anyf a_draw G_draw a_choi G_choi z_range
    have G_fam : FnOk P w K mg base CX0 1 f_fam d_fam ["_law_way", "_law_paper", "_law_tells", "_law_marks_here"] spFamily := ok_family F_fam
    have G_bent := ok_bent F_bent a_draw G_draw a_choi G_choi z_dict z_len z_list
    have G_form := ok_format F_form a_draw G_draw a_anyf G_anyf a_fam G_fam a_bent G_bent
    have G_rng : FnOk P w K mg base CX0 1 f_rng d_rng ["_law_script", "_law_k"] (spRng K) := ok_rng F_rng z_len z_max z_abs z_int
    have G_text : FnOk P w K mg base CX0 1 f_text d_text ["_law_abc", "_law_cap"] spTexts := ok_texts F_text z_range
    have G_due : FnOk P w K mg base CX0 2 f_due d_due ["_law_model", "_law_paper"] spDue := ok_due F_due z_enumerate z_tuple z_len
    have G_pag := ok_pages F_pag a_draw G_draw a_choi G_choi a_text G_text z_range z_len
    have G_rght := ok_right F_rght gC rd.mak (kb_make F_init) G_init a_draw G_draw a_lett G_lett a_mrks G_mrks a_form G_form a_pag G_pag a_due G_due a_ask G_ask z_dict z_repr sys
    exact ok_law F_law a_rght G_rght a_rng G_rng z_all z_range z_max z_min z_len
end Sl
/-! ## P34 -/
set_option Elab.async false
open PySem PySem.W PyProof.Rows
set_option maxRecDepth 100000 in
set_option maxHeartbeats 0 in
theorem PySem.Challenge.cw_sealedslots_k13_readings_holds : PySem.Challenge.rw_sealedslots_k13_readings.Holds := by
  w_on; o_law; x_head; (case hw => w_witness2)
  k_fill
  refine Sl.walk_ofG (l := PySem.Challenge.rw_sealedslots_k13_readings) (n := 63) (k := 9) (x := "_law_script") (sp := Sl.spLaw) rfl (by decide) rfl ⟨rfl, by decide, by decide⟩ (fun w h Y => PySem.W.kIn_of Y) ?F (fun _ _ a ns hl _ hS => ⟨a, ns, rfl, hS, hl, fun _ => rfl⟩)
  case F =>
    intro w mg fa h KX G hmg
    refine' Sl.all_mk (P := PySem.Challenge.pw_sealedslots_k13_readings) KX G hmg ?s_isint ?s_below ?s_chk ?s_ares ?s_hasl ?s_sign ?s_mark ?s_word ?s_name ?s_ckw ?s_ismv ?s_isrw ?s_cop ?s_read ?s_walk ?s_row ?s_last ?s_rng ?s_draw ?s_choi ?s_lett ?s_mrks ?s_anyf ?s_fam ?s_bent ?s_form ?s_text ?s_due ?s_ask ?s_pag ?s_rght ?s_law ?rd ?s_coll ?s_lim ?s_ends ?s_move ?s_start ?e5 ?i5 ?e6 ?i6 ?gs ?m56 ?m55 ?m66 ?k6r ?k6t ?k5s ?k5v ?c8 ?c6 ?c4 ?c7 ?sys0 ?z_isinstance ?z_int ?z_bool ?z_list ?z_tuple ?z_len ?z_all ?z_set ?z_str ?z_dict ?z_sorted ?z_enumerate ?z_divmod ?z_range ?z_max ?z_min ?z_abs ?z_super ?z_RuntimeError ?z_LookupError ?z_ValueError ?z_repr
    (case s_isint => refine' Sl.std_of ?n ?l ?c ?k; (case n => k_is); (case l => k_is); (case c => k_is); (case k => k_is))
    (case s_below => refine' Sl.std_of ?n ?l ?c ?k; (case n => k_is); (case l => k_is); (case c => k_is); (case k => k_is))
    (case s_chk => refine' Sl.std_of ?n ?l ?c ?k; (case n => k_is); (case l => k_is); (case c => k_is); (case k => k_is))
    (case s_ares => refine' Sl.std_of ?n ?l ?c ?k; (case n => k_is); (case l => k_is); (case c => k_is); (case k => k_is))
    (case s_hasl => refine' Sl.std_of ?n ?l ?c ?k; (case n => k_is); (case l => k_is); (case c => k_is); (case k => k_is))
    (case s_sign => refine' Sl.std_of ?n ?l ?c ?k; (case n => k_is); (case l => k_is); (case c => k_is); (case k => k_is))
    (case s_mark => refine' Sl.std_of ?n ?l ?c ?k; (case n => k_is); (case l => k_is); (case c => k_is); (case k => k_is))
    (case s_word => refine' Sl.std_of ?n ?l ?c ?k; (case n => k_is); (case l => k_is); (case c => k_is); (case k => k_is))
    (case s_name => refine' Sl.std_of ?n ?l ?c ?k; (case n => k_is); (case l => k_is); (case c => k_is); (case k => k_is))
    (case s_ckw => refine' Sl.std_of ?n ?l ?c ?k; (case n => k_is); (case l => k_is); (case c => k_is); (case k => k_is))
    (case s_ismv => refine' Sl.std_of ?n ?l ?c ?k; (case n => k_is); (case l => k_is); (case c => k_is); (case k => k_is))
    (case s_isrw => refine' Sl.std_of ?n ?l ?c ?k; (case n => k_is); (case l => k_is); (case c => k_is); (case k => k_is))
    (case s_cop => refine' Sl.std_of ?n ?l ?c ?k; (case n => k_is); (case l => k_is); (case c => k_is); (case k => k_is))
    (case s_read => refine' Sl.std_of ?n ?l ?c ?k; (case n => k_is); (case l => k_is); (case c => k_is); (case k => k_is))
    (case s_walk => refine' Sl.std_of ?n ?l ?c ?k; (case n => k_is); (case l => k_is); (case c => k_is); (case k => k_is))
    (case s_row => refine' Sl.std_of ?n ?l ?c ?k; (case n => k_is); (case l => k_is); (case c => k_is); (case k => k_is))
    (case s_last => refine' Sl.std_of ?n ?l ?c ?k; (case n => k_is); (case l => k_is); (case c => k_is); (case k => k_is))
    (case s_rng => refine' Sl.std_of ?n ?l ?c ?k; (case n => k_is); (case l => k_is); (case c => k_is); (case k => k_is))
    (case s_draw => refine' Sl.std_of ?n ?l ?c ?k; (case n => k_is); (case l => k_is); (case c => k_is); (case k => k_is))
    (case s_choi => refine' Sl.std_of ?n ?l ?c ?k; (case n => k_is); (case l => k_is); (case c => k_is); (case k => k_is))
    (case s_lett => refine' Sl.std_of ?n ?l ?c ?k; (case n => k_is); (case l => k_is); (case c => k_is); (case k => k_is))
    (case s_mrks => refine' Sl.std_of ?n ?l ?c ?k; (case n => k_is); (case l => k_is); (case c => k_is); (case k => k_is))
    (case s_anyf => refine' Sl.std_of ?n ?l ?c ?k; (case n => k_is); (case l => k_is); (case c => k_is); (case k => k_is))
    (case s_fam => refine' Sl.std_of ?n ?l ?c ?k; (case n => k_is); (case l => k_is); (case c => k_is); (case k => k_is))
    (case s_bent => refine' Sl.std_of ?n ?l ?c ?k; (case n => k_is); (case l => k_is); (case c => k_is); (case k => k_is))
    (case s_form => refine' Sl.std_of ?n ?l ?c ?k; (case n => k_is); (case l => k_is); (case c => k_is); (case k => k_is))
    (case s_text => refine' Sl.std_of ?n ?l ?c ?k; (case n => k_is); (case l => k_is); (case c => k_is); (case k => k_is))
    (case s_due => refine' Sl.std_of ?n ?l ?c ?k; (case n => k_is); (case l => k_is); (case c => k_is); (case k => k_is))
    (case s_ask => refine' Sl.std_of ?n ?l ?c ?k; (case n => k_is); (case l => k_is); (case c => k_is); (case k => k_is))
    (case s_pag => refine' Sl.std_of ?n ?l ?c ?k; (case n => k_is); (case l => k_is); (case c => k_is); (case k => k_is))
    (case s_rght => refine' Sl.std_of ?n ?l ?c ?k; (case n => k_is); (case l => k_is); (case c => k_is); (case k => k_is))
    (case s_law => refine' Sl.std_of ?n ?l ?c ?k; (case n => k_is); (case l => k_is); (case c => k_is); (case k => k_is))
    (case rd => refine' Sl.rdall_of ?ns ?pg ?hd ?po ?sa ?n1 ?n2 ?n3 ?n4 ?n5 ?n6 ?mk ?i ?fn ?kC ?c1 ?c2 ?l ?c ?k ?lT; (case ns => k_is); (case pg => k_is); (case hd => k_is); (case po => k_is); (case sa => k_is); (case n1 => k_is); (case n2 => k_is); (case n3 => k_is); (case n4 => k_is); (case n5 => k_is); (case n6 => k_is); (case mk => k_is); (case i => k_is); (case fn => k_is); (case kC => k_is); (case c1 => k_is); (case c2 => k_is); (case l => k_is); (case c => k_is); (case k => k_is); (case lT => k_is))
    (case s_coll => refine' Sl.incls_of ?n ?i ?l ?c ?k; (case n => k_is); (case i => k_is); (case l => k_is); (case c => k_is); (case k => k_is))
    (case s_lim => refine' Sl.incls_of ?n ?i ?l ?c ?k; (case n => k_is); (case i => k_is); (case l => k_is); (case c => k_is); (case k => k_is))
    (case s_ends => refine' Sl.incls_of ?n ?i ?l ?c ?k; (case n => k_is); (case i => k_is); (case l => k_is); (case c => k_is); (case k => k_is))
    (case s_move => refine' Sl.incls_of ?n ?i ?l ?c ?k; (case n => k_is); (case i => k_is); (case l => k_is); (case c => k_is); (case k => k_is))
    (case s_start => refine' Sl.inprop_of ?n ?g ?t ?r ?l ?c ?k; (case n => k_is); (case g => k_is); (case t => k_is); (case r => k_is); (case l => k_is); (case c => k_is); (case k => k_is))
    (case e5 => refine' Sl.errc_of1 ?ns ?xL ?sa ?exC ?tyC ?kC ?ga ?gg ?hdC ?x_hc ?x_hn ?x_ht ?x_hm ?x_no ?x_sup ?x_sub; (case ns => k_is); (case xL => k_is); (case sa => k_is); (case exC => k_is); (case tyC => k_is); (case kC => k_is); (case ga => k_is); (case gg => k_is); (case hdC => k_is); (case x_hc => k_is); (case x_hn => k_is); (case x_ht => k_is); (case x_hm => k_is); (case x_no => k_is); (case x_sup => ks_is); (case x_sub => k_is))
    (case i5 => refine' Sl.erri_of ?ini ?fn ?l ?co ?lc ?v2 ?fi ?ce ?an_ ?tp; (case ini => k_is); (case fn => k_is); (case l => k_is); (case co => k_is); (case lc => k_is); (case v2 => exact rfl); (case fi => decide +kernel); (case ce => k_is); (case an_ => k_is); (case tp => decide +kernel))
    (case e6 => refine' Sl.errc_of0 ?ns ?xL ?sa ?exC ?tyC ?kC ?ga ?gg ?hdC ?x_hc ?x_hn ?x_ht ?x_hm ?x_no ?x_sup ?x_sub; (case ns => k_is); (case xL => k_is); (case sa => k_is); (case exC => k_is); (case tyC => k_is); (case kC => k_is); (case ga => k_is); (case gg => k_is); (case hdC => k_is); (case x_hc => k_is); (case x_hn => k_is); (case x_ht => k_is); (case x_hm => k_is); (case x_no => k_is); (case x_sup => ks_is); (case x_sub => k_is))
    (case i6 => refine' Sl.erri_of ?ini ?fn ?l ?co ?lc ?v2 ?fi ?ce ?an_ ?tp; (case ini => k_is); (case fn => k_is); (case l => k_is); (case co => k_is); (case lc => k_is); (case v2 => exact rfl); (case fi => decide +kernel); (case ce => k_is); (case an_ => k_is); (case tp => decide +kernel))
    (case gs => k_is)
    (case m56 => kts_exm)
    (case m55 => kts_exm)
    (case m66 => kts_exm)
    (case k6r => kit_is)
    (case k6t => kit_is)
    (case k5s => kit_is)
    (case k5v => kit_is)
    (case c8 => k_is)
    (case c6 => k_is)
    (case c4 => k_is)
    (case c7 => k_is)
    (case sys0 => refine' Sl.sys_of ?x_sys; (case x_sys => k_is))
    (case z_isinstance => k_is)
    (case z_int => k_is)
    (case z_bool => k_is)
    (case z_list => k_is)
    (case z_tuple => k_is)
    (case z_len => k_is)
    (case z_all => k_is)
    (case z_set => k_is)
    (case z_str => k_is)
    (case z_dict => k_is)
    (case z_sorted => k_is)
    (case z_enumerate => k_is)
    (case z_divmod => k_is)
    (case z_range => k_is)
    (case z_max => k_is)
    (case z_min => k_is)
    (case z_abs => k_is)
    (case z_super => k_is)
    (case z_RuntimeError => k_is)
    (case z_LookupError => k_is)
    (case z_ValueError => k_is)
    (case z_repr => k_is)
#print axioms PySem.Challenge.cw_sealedslots_k13_readings_holds
