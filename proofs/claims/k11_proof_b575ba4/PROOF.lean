import PyProof.Rows.All
import Wide.All
import OpenK.AllK
import Wide.FinOn
import HandS.ForMost
import HandS.Wide
import HandS.WideBits
import HandS.Set
import HandS.Strs
import HandS.SetBool
import HandS.SetTxt0
import HandS.IsInst
import HandS.Zip
import HandS.Walk
import HandS.More
import HandS.DictComp
import HandS.Defaults
import HandS.SetFor
import PyProof.Draws
import PyProof.EnumMake
import KE.GoesMore
import HandS.Property
import HandS.Evl
import PyProof.ListStr
import HandS.GenList
import PyProof.InstSpecial
import PyProof.ListRange
import PyProof.RangeFor
import HandS.MakeKw
import HandS.Exc
import HandS.ExcInit
import KE.KExcSuper
import KE.KSuper
import HandS.Nested
import HandS.RaiseOp
import KE.KExcInit
import HandS.TryMany
import PyProof.ReprRoads
import HandS.RaiseMore
import KE.KExcIs
import KE.KIsAll
import HandS.ExcIs
import HandS.ExcField
import HandS.MakeKwOnly
import HandS.ExcOwn
import PyProof.ReprBulk
import HandS.WordsExc
import PyProof.P3Eq
import PyProof.StrOps2
import HandS.Star
import HandS.ClsMeth
import HandS.Finally
import HandS.Style
import HandS.Codes
import HandS.Ends
import OpenK.XHead
import PySem.Challenge.RW_sealedslots_k11_readers_as_made
/-! ## D1 -/
set_option Elab.async false
set_option linter.all false
set_option maxRecDepth 100000
set_option maxHeartbeats 4000000
namespace Sl
open PySem PySem.Spec PyProof.Rows L2
def top (i : Nat) : Stmt := PySem.Challenge.pw_sealedslots_k11_readers_as_made.main.body.getD i (.Pass ⟨0, 0, 0, 0⟩)
abbrev sDraw : Stmt := top 26
abbrev sRng : Stmt := top 25
abbrev sChoice : Stmt := top 27
/-! ### the draws -/
/-- what a drawing object looks like: its digits that are left, its state -/
structure Rng (H : Hp) (a : Addr) : Prop where
  ex : ∃ x y : Int, H a = some (.lst [.int x, .int y]) ∧ 0 ≤ x ∧ 0 ≤ y ∧ y < 2147483648
/-- all stands as it was but what is at a -/
def Keep (a : Addr) (H H' : Hp) : Prop := ∀ b o, H b = some o → b ≠ a → H' b = some o
theorem Keep.refl (a : Addr) (H : Hp) : Keep a H H := fun _ _ h _ => h
theorem Keep.trans {a : Addr} {H H1 H2 : Hp} (h : Keep a H H1) (h' : Keep a H1 H2) : Keep a H H2 := fun b o e n => h' b o (h b o e n) n
theorem Keep.new {a p : Addr} {H : Hp} {o : HO} (h : H p = none) : Keep a H (upd H p o) := fun b u e _ => by
  rw [upd_ne (ne_of_none e h)]
  exact e
theorem Keep.at_ {a : Addr} {H : Hp} {o : HO} : Keep a H (upd H a o) := fun b u e n => by
  rw [upd_ne n]
  exact e
/-- the draw's promise: a number below many -/
def spDraw : Sp := fun vs H Q _ => ∃ (a : Addr) (m : Int), vs = [.ref a, .int m] ∧ Rng H a ∧ 0 < m ∧ m < 1073741824 ∧
  ∀ (d : Int) (H' : Hp), 0 ≤ d → d < m → Rng H' a → Keep a H H' → Q (.int d) H'
section
variable {P : Program} {w : World} {K : PySem.W.Frag} {mg : Str → Option Value} {base : Heap}
theorem scDraw : FnScope ["_law_rng_here", "_law_many", "_law_digit"] ["_law_rng_here", "_law_many"] (defScope sDraw) := ⟨rfl, rfl, rfl, by decide +kernel, rfl, by decide +kernel, by decide +kernel⟩
theorem ok_draw {f : Addr} {fd : FuncData} (F : Fun K "_law_draw" "_law_draw" sDraw f fd) (zd : mg "divmod" = none) (zi : mg "int" = none) :
    FnOk P w K mg base CX0 1 f fd ["_law_rng_here", "_law_many"] spDraw := by
  refine F.ok scDraw (fun vs H Q E h => ?_) (fun cdv A outer s H vs Q E hr h => ?_)
  · obtain ⟨a, m, rfl, _⟩ := h
    rfl
  · obtain ⟨a, m, rfl, ⟨x, y, h0, hx, hy, hy2⟩, hm, hm2, k⟩ := h
    refine ⟨_, pss_cons (ps_if (pt_cmpR op_gt (pe_ix ix_list (pv 0) pe_int (fun _ _ => rfl)) pe_int (nomark _))
        (pss_cons (ps_asg (pe_callB call_divmodW (by rfl) zd (by decide +kernel) (pa_cons (pe_ix ix_list (pv 0) pe_int (fun _ _ => rfl)) (pa_cons (pv 1) pa_nil)))
          (pg_tup (by rfl) (pgs_cons (pg_sub (pv 0) pe_int set_list) (pgs_cons (pg_name (i := 2) scDraw.nd rfl (.inl rfl)) pgs_nil))))
          (pss_one (ps_ret (pv 2)))) pss_nil)
      (pss_cons (ps_asg (pe_op op_mod (pe_callTy call_int1 (by rfl) zi (by decide +kernel) (pa_cons (pe_op op_add (pe_op op_mul (pe_ix ix_list (pv 0) pe_int (fun _ _ => rfl)) pe_int) pe_int) pa_nil)) pe_int) (pg_sub (pv 0) pe_int set_list))
      (pss_one (ps_ret (pe_op op_mod (pe_op op_fdiv (pe_op op_mod (pe_callTy call_int1 (by rfl) zi (by decide +kernel) (pa_cons (pe_op op_mul (pe_ix ix_list (pv 0) pe_int (fun _ _ => rfl)) (pe_ix ix_list (pv 0) pe_int (fun _ _ => rfl))) pa_nil)) pe_int) pe_int) (pv 1))))), ?_⟩
    refine ⟨_, rfl, a, [.int x, .int y], _, .int x, rfl, rfl, SqL.of h0, atI_nat (j := 0) rfl, _, _, rfl, rfl, _, rfl, ?_⟩
    refine ite2 (fun c => ?_) (fun c => ?_)
    · refine ⟨_, rfl, a, [.int x, .int y], _, .int x, rfl, rfl, SqL.of h0, atI_nat (j := 0) rfl, _, rfl, _, _, rfl, ⟨hm, PyProof.noPylong_small (by omega)⟩, fun p hp => ?_⟩
      have npa : a ≠ p := ne_of_none h0 hp
      refine ⟨p, _, rfl, SqT.of upd_same, rfl, _, _, rfl, ?_⟩
      refine ⟨_, rfl, a, [.int x, .int y], _, 0, rfl, rfl, (by rw [upd_ne npa]; exact h0), rfl, ?_⟩
      refine ⟨_, _, rfl, rfl, _, rfl, ?_⟩
      refine k (x % m) _ (Int.emod_nonneg _ (by omega)) (Int.emod_lt_of_pos _ hm) ⟨x / m, y, upd_same, Int.ediv_nonneg hx (by omega), hy, hy2⟩ ((Keep.new hp).trans Keep.at_)
    · have hz : (0 : Int) < 2147483563 := by decide
      refine ⟨_, rfl, a, [.int x, .int y], _, .int y, rfl, rfl, SqL.of h0, atI_nat (j := 1) rfl, _, _, rfl, rfl, .inr ⟨by decide, by decide⟩, _, _, rfl, rfl, .inl ⟨_, rfl, ?_⟩⟩
      refine ⟨_, _, rfl, rfl, hz, _, rfl, a, _, _, 1, rfl, rfl, h0, rfl, ?_⟩
      obtain ⟨z, ez, b0, b1⟩ : ∃ z, z = (y * 39373 + 30011) % 2147483563 ∧ 0 ≤ z ∧ z < 2147483563 := ⟨_, rfl, Int.emod_nonneg _ (by decide), Int.emod_lt_of_pos _ hz⟩
      have h1 : upd H a (.lst [V.int x, V.int ((y * 39373 + 30011) % 2147483563)]) a = some (.lst [V.int x, V.int z]) := by
        rw [ez]
        exact upd_same
      refine ⟨_, rfl, a, [.int x, .int z], _, .int z, rfl, rfl, SqL.of h1, atI_nat (j := 1) rfl, _, rfl, a, [.int x, .int z], _, .int z, rfl, rfl, SqL.of h1, atI_nat (j := 1) rfl, _, _, rfl, rfl, .inl ⟨by omega, by omega⟩, .inl ⟨_, rfl, ?_⟩⟩
      refine ⟨_, _, rfl, rfl, (by show (0 : Int) < 2147483497; decide), _, _, rfl, rfl, ⟨by decide, by decide⟩, _, rfl, _, _, rfl, rfl, hm, ?_⟩
      exact k _ _ (Int.emod_nonneg _ (by omega)) (Int.emod_lt_of_pos _ hm) ⟨x, z, h1, hx, b0, by omega⟩ Keep.at_
end
end Sl
/-! ## S1 -/
set_option Elab.async false
set_option linter.all false
set_option maxRecDepth 100000
set_option maxHeartbeats 4000000
/-! ### sets of texts that can be walked: made, added to, sorted -/
namespace TxS
open PySem PySem.Spec PyProof.Rows L2 PySem.Froz
/-- the texts l, each once, are the set at a; its table can be walked -/
def SetS (P : Program) (w : World) (h : Heap) (a : Addr) (l : List Str) : Prop :=
  ∃ D : SD, h.get? a = some (sObj "set" D) ∧ TxOk P w D l ∧ (Ris D.2.2.place.toList ∧ (w.params.followText "set-order" = true ∨ D.2.2.led = true)) ∧ l.Nodup
theorem addTx_walk {w : World} {D : SD} {x : Int} {v : Value} (r : Ris D.2.2.place.toList ∧ (w.params.followText "set-order" = true ∨ D.2.2.led = true)) :
    Ris (addTx x v D).2.2.place.toList ∧ (w.params.followText "set-order" = true ∨ (addTx x v D).2.2.led = true) := by
  have r1 := layNew_ris D.2.2 D.1 x v r.1
  have r2 := layNew_led D.2.2 D.1 x v
  unfold addTx
  generalize layNew D.2.2 D.1 x v = Z at r1 r2
  obtain ⟨es1, t1, wd, gv⟩ := Z
  dsimp only at r1 r2 ⊢
  have r3 : Ris (if t1.plain = true then { t1 with plain := false } else t1).place.toList ∧ (if t1.plain = true then { t1 with plain := false } else t1).led = D.2.2.led := by
    by_cases c : t1.plain = true
    · rw [if_pos c]
      exact ⟨r1, r2⟩
    · rw [if_neg c]
      exact ⟨r1, r2⟩
  generalize (if t1.plain = true then { t1 with plain := false } else t1) = t2 at r3
  unfold tailTx
  split
  · exact ⟨relayAll_ris _ _ _, r.2.imp id fun z => by
      show (relayAll t2 es1 (SetTable.grown es1.size)).2.1.led = true
      rw [relayAll_led, r3.2]
      exact z⟩
  · exact ⟨r3.1, r.2.imp id fun z => by
      show t2.led = true
      rw [r3.2]
      exact z⟩
theorem SetS.later {P : Program} {w : World} {h h' : Heap} {a : Addr} {l : List Str} (R : SetS P w h a l) (k : ∀ o, h.get? a = some o → h'.get? a = some o) : SetS P w h' a l := by
  obtain ⟨D, e, r⟩ := R
  exact ⟨D, k _ e, r⟩
theorem SetS.fresh (P : Program) (w : World) {h : Heap} : SetS P w (h.push { cls := .type "set", dict := none, data := .set #[] 0 (.fresh 0 0 (!w.params.followText "set-order")) }) h.objs.size [] := by
  refine ⟨(#[], 0, .fresh 0 0 (!w.params.followText "set-order")), Heap.get?_push_size _ rfl, TxOk.nil (by rfl), ⟨List.Pairwise.nil, ?_⟩, List.nodup_nil⟩
  show _ ∨ (!w.params.followText "set-order") = true
  cases w.params.followText "set-order"
  · exact .inr rfl
  · exact .inl rfl
/-- the values of the table are the texts, in some order -/
theorem strs_all {P : Program} {w : World} : ∀ (vs : List Value), (∀ v ∈ vs, ∃ k : Str, (strKind P w).is k v = true) → ∃ ws, StrsAre vs ws
  | [], _ => ⟨[], .nil⟩
  | v :: vs, h => by
    obtain ⟨k, hk⟩ := h v List.mem_cons_self
    obtain ⟨ws, q⟩ := strs_all vs fun u hu => h u (List.mem_cons_of_mem _ hu)
    have e : Value.isStrOf k v = true := hk
    cases v with
    | str x u => exact ⟨x :: ws, .cons x u q⟩
    | _ => simp [Value.isStrOf] at e
theorem strs_mem {P : Program} {w : World} : ∀ {vs : List Value} {ws : List Str}, StrsAre vs ws → ∀ k : Str, k ∈ ws ↔ ∃ v ∈ vs, (strKind P w).is k v = true
  | _, _, .nil, k => by simp
  | _, _, .cons x u r, k => by
    rw [List.mem_cons, strs_mem (P := P) (w := w) r k]
    constructor
    · rintro (rfl | ⟨v, hv, z⟩)
      · exact ⟨_, List.mem_cons_self, is_str k u⟩
      · exact ⟨v, List.mem_cons_of_mem _ hv, z⟩
    · rintro ⟨v, hv, z⟩
      rcases List.mem_cons.mp hv with e | e
      · rw [e] at z
        exact .inl ((strKind P w).inj (.str x u) k x z (is_str x u))
      · exact .inr ⟨v, e, z⟩
theorem strs_len : ∀ {vs : List Value} {ws : List Str}, StrsAre vs ws → ws.length = vs.length
  | _, _, .nil => rfl
  | _, _, .cons _ _ r => congrArg (· + 1) (strs_len r)
/-- as many as the members, all members among them: each once -/
theorem perm_of_all : ∀ {l ws : List Str}, l.Nodup → (∀ k ∈ l, k ∈ ws) → ws.length = l.length → ws.Perm l
  | [], ws, _, _, e => by
    rw [List.eq_nil_of_length_eq_zero e]
  | x :: l, ws, nd, h, e => by
    obtain ⟨nx, nd'⟩ := List.nodup_cons.mp nd
    have hx := h x List.mem_cons_self
    have p := List.perm_cons_erase hx
    have hl : (ws.erase x).length = l.length := by
      have q := p.length_eq
      rw [List.length_cons] at q e
      omega
    exact p.trans ((perm_of_all nd' (fun k hk => (List.mem_erase_of_ne (fun z => nx (by rw [← z]; exact hk))).mpr (h k (List.mem_cons_of_mem _ hk))) hl).cons x)
theorem texts_of {P : Program} {w : World} {es : Array (Int × Value)} {ep : Nat} {t : SetTable} {l : List Str} {vs : List Value} (nd : l.Nodup) (G : TxOk P w (es, ep, t) l) (pm : vs.Perm (es.toList.map (·.2))) :
    ∃ ws, StrsAre vs ws ∧ ws.Perm l := by
  obtain ⟨ws, q⟩ := strs_all (P := P) (w := w) vs fun v hv => by
    obtain ⟨e, he, z⟩ := List.mem_map.mp (pm.mem_iff.mp hv)
    obtain ⟨⟨k, hk, _⟩, _⟩ := G.el e he
    exact ⟨k, by rw [← z]; exact hk⟩
  refine ⟨ws, q, perm_of_all nd (fun k hk => ?_) ?_⟩
  · revert hk
    refine (show k ∈ ws ↔ k ∈ l from ?_).mpr
    rw [strs_mem (P := P) (w := w) q k, G.mem k]
    constructor
    · rintro ⟨v, hv, z⟩
      obtain ⟨e, he, y⟩ := List.mem_map.mp (pm.mem_iff.mp hv)
      exact ⟨e, he, by rw [y]; exact z⟩
    · rintro ⟨e, he, z⟩
      exact ⟨e.2, pm.mem_iff.mpr (List.mem_map.mpr ⟨e, he, rfl⟩), z⟩
  · rw [strs_len q, pm.length_eq, List.length_map, Array.length_toList]
    exact G.sz
section
variable {P : Program} {w : World} {A : Around} {E : Value → Shared → Prop} {s : Shared} {a : Addr} {l : List Str}
/-- a text that is there already -/
theorem there_x {D : SD} {k : Str} {u : Tok} {Q : Bool → Shared → Prop} (ho : s.heap.get? a = some (sObj "set" D)) (F : TxOk P w D l) (hk : k ∈ l) (hb : l.length < scanBound)
    (h : Q false s) : wpAny (model P w) A (setAddHashed a (.str k u) (hashStr w k)) Q E s := by
  obtain ⟨es, ep, t⟩ := D
  have hd : (sObj "set" (es, ep, t)).data = .set es ep t := rfl
  have hf : t.fits es.size = true := F.fit
  have hel : ElemsOf (strKind P w) es.toList := F.el
  have hb0 : es.size < scanBound := by
    have q : es.size = l.length := F.sz
    omega
  unfold setAddHashed setAddHashedIn
  refine wpAny_holding (wpAny_bind (wpAny_setState_of ho hd hf ?_))
  dsimp only
  rw [byScan_of rfl hb0 hel]
  simp only [↓reduceIte]
  unfold setAddByScan
  refine wpAny_bind (wpAny_bind (wpAny_rule (wpAny_bind (wpAny_setScan_of (knd := strKind P w) (k := k) (is_str k u) ho hd hf hel ?_))))
  cases hr : List.findIdx? (fun e => (strKind P w).is k e.2) es.toList with
  | some j =>
    dsimp only
    exact wpAny_pure (wpAny_pure h)
  | none =>
    obtain ⟨e, he, q⟩ := (F.mem k).mp hk
    have c := List.findIdx?_eq_none_iff.mp hr e he
    rw [q] at c
    cases c
theorem setS_add {k : Str} {u : Tok} {Q : Value → Shared → Prop} (R : SetS P w s.heap a l) (room : l.length + 1 < scanBound)
    (hQ : ∀ h', Heap.SameBut a s.heap h' → SetS P w h' a (if k ∈ l then l else k :: l) → Q .none { s with heap := h', toks := s.toks + 1 }) :
    wpAny (model P w) A (call (.builtin "set.add") [.ref a, .str k u]) Q E s := by
  obtain ⟨D, ho, G, r, nd⟩ := R
  refine wpAny_call_entry F.slot_set_add ⟨_, ho, rfl⟩ F.entry_set_add ?_ (F.args_set_add_2 _ _)
  unfold Builtin.«set.add» Builtin.Frozenset.oneOther
  simp only [List.isEmpty_nil, bind_assoc]
  unfold Builtin.Frozenset.addrOf setAdd
  refine wpAny_bind (wpAny_pure ?_)
  try dsimp only
  refine wpAny_bind (wpAny_pure ?_)
  try dsimp only
  refine wpAny_bind (wpAny_holding (wpAny_bind ((strKind P w).pyHash (is_str k u) ?_)))
  by_cases c : k ∈ l
  · refine there_x (s := { s with toks := s.toks + 1 }) ho G c (by omega) ?_
    refine wpAny_pure ⟨_, rfl, hQ s.heap (Heap.SameBut.refl a s.heap) ?_⟩
    rw [if_pos c]
    exact ⟨D, ho, G, r, nd⟩
  · refine add_x (s := { s with toks := s.toks + 1 }) ho G c room ?_
    refine wpAny_pure ⟨_, rfl, hQ _ ?_ ?_⟩
    · exact Heap.SameBut.update ..
    · rw [if_neg c]
      exact ⟨_, get_upd _ ho rfl, add_ok u G, addTx_walk r, List.nodup_cons.mpr ⟨c, nd⟩⟩
/-- sorted(set): ascending -/
theorem sorted_setS {Q : Value → Shared → Prop} (R : SetS P w s.heap a l) (hh : A.handled = none) (h64 : l.length < 64)
    (hQ : ∀ s' p (out : Array Value) (c : Nat) (ys : List Str), (∀ b o, s.heap.get? b = some o → s'.heap.get? b = some o) → s'.gens = s.gens → s'.os = s.os → s.heap.objs.size ≤ p →
      s'.heap.get? p = some (seqObj "list" out c) → StrsAre out.toList ys → sortedS ys = true → ys.Perm l → Q (.ref p) s') :
    wpAny (model P w) A (call (.builtin "sorted") [.ref a]) Q E s := by
  obtain ⟨D, ho, G, r, nd⟩ := R
  obtain ⟨es, ep, t⟩ := D
  have hsz : es.size = l.length := G.sz
  have hb : es.size < scanBound := by
    unfold scanBound
    omega
  refine Calls.call_function_entry kind_sorted plain_sorted entry_sorted (args_sorted1 _) ?_
  unfold Builtin.«sorted»
  refine wpAny_bind (m := checkCount "sorted" 1 1 _) (wpAny_pure ?_)
  refine wpAny_bind (collect_set (A := A.in1) hh ⟨_, ho, rfl, rfl⟩ G.fit hb r.1 r.2 fun s1 vs k1 hz g1 o1 pm => ?_)
  obtain ⟨ws, hws, pw⟩ := texts_of (P := P) (w := w) nd G pm
  have hvl : vs.length = l.length := by rw [pm.length_eq, List.length_map, Array.length_toList, hsz]
  refine wpAny_bind (wpAny_newList ?_ (by rw [hvl, sizeLine_eq]; omega))
  have hoL : (s1.heap.push (seqObj "list" vs.toArray 0)).get? s1.heap.objs.size = some (seqObj "list" vs.toArray 0) := Heap.get?_push_size _ rfl
  refine wpAny_bind (wpAny_holding (wpAny_call_entry slot_list_sort ⟨_, hoL, rfl⟩ entry_list_sort (list_sort_treeK strKind_oneLt hoL hws.keysOf (fun v₁ v₂ rest e => keyKind_strs (by rw [← e]; exact hws)) (by rw [hvl]; exact h64) fun st' hp hs => ⟨_, rfl, ?_⟩) (args_list_sort _)))
  obtain ⟨ys, q1, q2, q3⟩ := sorted_out_str hws hp hs
  obtain ⟨c, hc⟩ := sortedHeap_at (vs := vs) (out := (arrOf st').map (·.2)) hoL
  refine wpAny_pure ⟨_, rfl, hQ _ s1.heap.objs.size _ c ys (fun b u e => ?_) g1 o1 hz hc q1 q3 (q2.trans pw)⟩
  have q := k1 b u e
  have hlt := Heap.lt_size q
  show (sortedHeap (s1.heap.push (seqObj "list" vs.toArray 0)) s1.heap.objs.size vs ((arrOf st').map (·.2))).get? b = some u
  rw [sortedHeap_old (Nat.ne_of_lt hlt) (by rw [size_push']; exact Nat.lt_succ_of_lt hlt)]
  exact Heap.get?_push_of_some _ q
end
/-! ### over the layer -/
def SetSO (P : Program) (w : World) (a : Addr) (l : List Str) : HO := .ext fun h => SetS P w h a l
theorem setSO_new {w : World} {P : Program} {H : Hp} {h : Heap} {a : Addr} {l : List Str} (R : SetS P w h a l) : ObjOk P w H h a (SetSO P w a l) := by
  have ⟨D, ho, _⟩ := R
  exact ⟨R, ⟨_, ho⟩, fun h1 h2 p k => SetS.later p k⟩
section
variable {X : Cx}
theorem setSO_get {pins : List (Addr × Obj)} {σ : L2.St} {H : Hp} {s : Shared} {a : Addr} {l : List Str} (I : Inv X pins σ H s) (ha : H a = some (SetSO X.prog X.w a l)) : SetS X.prog X.w s.heap a l := (I.hok a _ ha).1
/-- one more text for the set at D -/
theorem addS_ok {pins : List (Addr × Obj)} {σ : L2.St} {H : Hp} {s : Shared} {A : Around} {E : Value → Shared → Prop} {D : Addr} {l : List Str} {k : Str} {u : Tok} {Q : Value → Shared → Prop} (I : Inv X pins σ H s) (hD : H D = some (SetSO X.prog X.w D l)) (room : l.length + 1 < scanBound)
    (h : ∀ s', Inv X pins σ (upd H D (SetSO X.prog X.w D (if k ∈ l then l else k :: l))) s' → Q .none s') : wpAny (model X.prog X.w) A (call (.builtin "set.add") [.ref D, .str k u]) Q E s := by
  refine setS_add (setSO_get I hD) room fun h' sb new => h _ ?_
  have he : ∃ o, h'.get? D = some o := by
    have ⟨_, ho, _⟩ := new
    exact ⟨_, ho⟩
  exact I.write (e := D) (t' := s.toks + 1) (by rw [hD]; trivial) (.inl rfl) (fun b u hb hu => (sb.2 b hb).trans hu) he (setSO_new new)
/-- sorted(a set of texts) -/
def rSortedTx (P : Program) (w : World) : List V → Hp → VK → Prop := fun vs H Q => ∃ (a : Addr) (l : List Str), vs = [V.ref a] ∧ H a = some (SetSO P w a l) ∧ l.length < 64 ∧
  ∀ (ys : List Str) (p : Addr), ys.Perm l → sortedS ys = true → H p = none → Q (.ref p) (upd H p (.lst (ys.map V.str)))
theorem cr_sortedTx (hc : X.calm = true) : CallR X (.builtin "sorted") (rSortedTx X.prog X.w) := by
  intro pins s σ H vs us Q I r h
  obtain ⟨a, l, rfl, ha, h64, q⟩ := h
  have R := setSO_get I ha
  rw [Vals.ref1 r]
  refine sorted_setS R (I.ok.hd hc) h64 fun s' p out c ys k g o hp hg hi hs pm => ?_
  have hlen : (ys.map V.str).length ≤ sizeLine := by rw [List.length_map, pm.length_eq, sizeLine_eq]; omega
  have hn : H p = none := I.hok.fresh hp
  have J : Inv X pins σ (upd H p (.lst (ys.map V.str))) { s with heap := s'.heap, gens := s'.gens, drawn := s'.drawn, toks := s'.toks } :=
    I.call (ch := []) (Un.laid k hp hn) (I.hok.laid k hp ⟨hlen, out.toList, c, vals_of_strs hi, hg⟩) (by rw [g]; exact I.bare) (fun _ z => nomatch z)
  obtain ⟨s'h, s'g, s'd, s't, s'o⟩ := s'
  have e : s'o = s.os := o
  subst e
  exact ⟨.ref p, _, J, rfl, q ys p pm hs hn⟩
end
end TxS
/-! ## S2 -/
set_option Elab.async false
set_option linter.all false
set_option maxRecDepth 100000
set_option maxHeartbeats 4000000
/-! ### {elt for a in xs if .. for b in ys if ..}, elt a text -/
namespace TxS
open PySem PySem.Spec PyProof.Rows L2 PySem.Froz
/-- the set comprehension of two clauses -/
abbrev SC2 (elt t0 i0 t1 i1 : Expr) (f0 f1 : List Expr) (scope : Scope) (pos : Pos) : Expr := .SetComp elt [⟨t0, i0, f0, 0⟩, ⟨t1, i1, f1, 0⟩] scope pos
theorem sc2_turn0 (elt t0 i0 t1 i1 : Expr) (f0 f1 : List Expr) (scope : Scope) (pos : Pos) (it acc : Value) (env : Env) :
    compTurn (SC2 elt t0 i0 t1 i1 f0 f1 scope pos) 0 it acc env = (do
      standAt i0.pos
      match ← pyNext it with
      | none => pure (.done .next)
      | some v =>
        letOwnedTupleGo t0 it v
        assign t0 env v
        let mut good := true
        for c in f0 do
          if good then good ← isTrue c env (eval c env)
        if good then
          let src ← eval i1 env
          standAt i1.pos
          let src ← foldedSetIterable i1 env src
          let _ ← runOwn (.compStart (SC2 elt t0 i0 t1 i1 f0 f1 scope pos) 1 (← holding [src] (pyIter src)) acc env) env
        again (.compLoop (SC2 elt t0 i0 t1 i1 f0 f1 scope pos) 0 it acc env)) := by rfl
theorem sc2_turn1 (elt t0 i0 t1 i1 : Expr) (f0 f1 : List Expr) (scope : Scope) (pos : Pos) (it acc : Value) (env : Env) :
    compTurn (SC2 elt t0 i0 t1 i1 f0 f1 scope pos) 1 it acc env = (do
      standAt i1.pos
      match ← pyNext it with
      | none => pure (.done .next)
      | some v =>
        letOwnedTupleGo t1 it v
        assign t1 env v
        let mut good := true
        for c in f1 do
          if good then good ← isTrue c env (eval c env)
        if good then
          (do let one ← eval elt env; standAt elt.pos; let _ ← call (.builtin "set.add") [acc, one])
        again (.compLoop (SC2 elt t0 i0 t1 i1 f0 f1 scope pos) 1 it acc env)) := by rfl
/-- what a clause's turn asks ahead of its end: the next item, its store, its tests -/
abbrev Clause (M : Model) (A : Around) (t : Expr) (fs : List Expr) (env : Env) (it : Value) (R : Result → Shared → Prop) (yes no : Shared → Prop) (s : Shared) : Prop :=
  wpAny M A (pyNext it) (fun r s₁ => match r with
    | none => R (.ok .next) s₁
    | some v => wpAny M A (letOwnedTupleGo t it v) (fun _ s₂ => wpAny M A (assign t env v) (fun _ s₃ =>
        wpAny M A (forIn fs true fun c r => if r = true then do let ok ← isTrue c env (eval c env); pure (ForInStep.yield ok) else pure (ForInStep.yield r)) (fun ok s₄ => if ok = true then yes s₄ else no s₄)
          (notedBy M A env fun e s' => R (.error e) s') s₃) (notedBy M A env fun e s' => R (.error e) s') s₂) (notedBy M A env fun e s' => R (.error e) s') s₁)
    (notedBy M A env fun e s' => R (.error e) s') s
section
variable {prog : Program} {w : World} {A : Around} {R : Result → Shared → Prop} {s : Shared} {elt t0 i0 t1 i1 : Expr} {f0 f1 : List Expr} {scope : Scope} {pos : Pos} {it acc : Value} {env : Env}
theorem sc2_loop0 (hs : ∀ x, foldedSetIterable i1 env x = pure x) (I : Nat → Shared → Prop)
    (turn : ∀ n s, I n s → Clause (model prog w) A t0 f0 env it R
      (fun s => wpAny (model prog w) A (eval i1 env) (fun x s => wpAny (model prog w) A (pyIter x) (fun j s =>
        codeAny (model prog w) A (.compStart (SC2 elt t0 i0 t1 i1 f0 f1 scope pos) 1 j acc env) (fun r s' => match r with
          | .ok _ => ∃ m, m < n ∧ I m s'
          | .error _ => False) s) (notedBy (model prog w) A env fun e s' => R (.error e) s') s) (notedBy (model prog w) A env fun e s' => R (.error e) s') s)
      (fun s => ∃ m, m < n ∧ I m s) s) (n : Nat) (h : I n s) :
    codeAny (model prog w) A (.compLoop (SC2 elt t0 i0 t1 i1 f0 f1 scope pos) 0 it acc env) R s := by
  refine codeAny_loop rfl I (fun n s hI => ?_) n h
  show wpAny _ A ((compTurn (SC2 elt t0 i0 t1 i1 f0 f1 scope pos) 0 it acc env).onRaise (fun x => do noteFrame x env; theTreesLotGoes x)) _ _ s
  refine wpAny_noted ?_
  rw [sc2_turn0]
  refine wpAny_bind (wpAny_standAt (wpAny_bind (wpAny_mono (turn n s hI) (fun r z1 k1 => ?_) fun _ _ k => k)))
  cases r with
  | none => exact wpAny_pure k1
  | some v =>
    refine wpAny_bind (wpAny_mono k1 (fun _ z2 k2 => wpAny_bind (wpAny_mono k2 (fun _ z3 k3 => wpAny_bind (wpAny_mono k3 (fun ok z4 k4 => ?_) fun _ _ k => k)) fun _ _ k => k)) fun _ _ k => k)
    cases ok with
    | false => exact wpAny_pure ⟨rfl, k4⟩
    | true =>
      refine wpAny_bind (wpAny_mono k4 (fun x z5 k5 => wpAny_bind (wpAny_standAt (wpAny_bind (wpAny_of_eq (hs x) (wpAny_bind (wpAny_holding (wpAny_mono k5 (fun j z6 k6 => ?_) fun _ _ k => k))))))) fun _ _ k => k)
      refine wpAny_bind (wpAny_runOwn ?_)
      rw [Around.mark_none]
      refine codeAny_mono k6 fun r s' hr => ?_
      cases r with
      | error e => exact hr.elim
      | ok f => first
          | exact wpAny_pure ⟨rfl, hr⟩
          | exact wpAny_bind (wpAny_pure (wpAny_pure ⟨rfl, hr⟩))
theorem sc2_loop1 (I : Nat → Shared → Prop)
    (turn : ∀ n s, I n s → Clause (model prog w) A t1 f1 env it R
      (fun s => wpAny (model prog w) A (eval elt env) (fun x s => wpAny (model prog w) A (call (.builtin "set.add") [acc, x]) (fun _ s => ∃ m, m < n ∧ I m s)
        (notedBy (model prog w) A env fun e s' => R (.error e) s') s) (notedBy (model prog w) A env fun e s' => R (.error e) s') s)
      (fun s => ∃ m, m < n ∧ I m s) s) (n : Nat) (h : I n s) :
    codeAny (model prog w) A (.compLoop (SC2 elt t0 i0 t1 i1 f0 f1 scope pos) 1 it acc env) R s := by
  refine codeAny_loop rfl I (fun n s hI => ?_) n h
  show wpAny _ A ((compTurn (SC2 elt t0 i0 t1 i1 f0 f1 scope pos) 1 it acc env).onRaise (fun x => do noteFrame x env; theTreesLotGoes x)) _ _ s
  refine wpAny_noted ?_
  rw [sc2_turn1]
  refine wpAny_bind (wpAny_standAt (wpAny_bind (wpAny_mono (turn n s hI) (fun r z1 k1 => ?_) fun _ _ k => k)))
  cases r with
  | none => exact wpAny_pure k1
  | some v =>
    refine wpAny_bind (wpAny_mono k1 (fun _ z2 k2 => wpAny_bind (wpAny_mono k2 (fun _ z3 k3 => wpAny_bind (wpAny_mono k3 (fun ok z4 k4 => ?_) fun _ _ k => k)) fun _ _ k => k)) fun _ _ k => k)
    cases ok with
    | false => exact wpAny_pure ⟨rfl, k4⟩
    | true => exact wpAny_bind (wpAny_bind (wpAny_mono k4 (fun x z5 k5 => wpAny_bind (wpAny_standAt (wpAny_bind (wpAny_mono k5 (fun _ z6 k6 => wpAny_pure (wpAny_pure ⟨rfl, k6⟩)) fun _ _ k => k)))) fun _ _ k => k))
/-- the start of either clause's loop -/
theorem sc2_start {d : Nat} (hd : d = 0 ∨ d = 1) (h0 : codeAny (model prog w) A (.compLoop (SC2 elt t0 i0 t1 i1 f0 f1 scope pos) d it acc env) R s)
    (h : wpAny (model prog w) A (pyIter it) (fun j s' => codeAny (model prog w) A (.compLoop (SC2 elt t0 i0 t1 i1 f0 f1 scope pos) d j acc env) R s') (notedBy (model prog w) A env fun x s' => R (.error x) s') s) :
    codeAny (model prog w) A (.compStart (SC2 elt t0 i0 t1 i1 f0 f1 scope pos) d it acc env) R s := by
  rcases hd with e | e <;> subst e <;> refine codeAny_of_tree ?_
  · show wpAny _ _ ((compStart (SC2 elt t0 i0 t1 i1 f0 f1 scope pos) 0 it acc env).onRaise (fun x => do noteFrame x env; standAt theWindowsPlace)) _ _ s
    refine wpAny_notedAt ?_
    unfold compStart
    show wpAny _ _ (ask >>= _) _ _ s
    refine wpAny_bind (wpAny_askSetting (wpAny_ite ?_))
    split
    · first | exact wpAny_pure (And.intro rfl h0) | exact wpAny_bind (wpAny_pure (wpAny_pure (And.intro rfl h0)))
    · exact wpAny_bind (wpAny_rule (wpAny_bind (wpAny_standAt (wpAny_bind (wpAny_mono h (fun j s' k => wpAny_pure (And.intro rfl k)) fun _ _ x => x)))))
  · show wpAny _ _ ((compStart (SC2 elt t0 i0 t1 i1 f0 f1 scope pos) 1 it acc env).onRaise (fun x => do noteFrame x env; standAt theWindowsPlace)) _ _ s
    refine wpAny_notedAt ?_
    unfold compStart
    show wpAny _ _ (ask >>= _) _ _ s
    refine wpAny_bind (wpAny_askSetting (wpAny_ite ?_))
    split
    · first | exact wpAny_pure (And.intro rfl h0) | exact wpAny_bind (wpAny_pure (wpAny_pure (And.intro rfl h0)))
    · exact wpAny_bind (wpAny_rule (wpAny_bind (wpAny_standAt (wpAny_bind (wpAny_mono h (fun j s' k => wpAny_pure (And.intro rfl k)) fun _ _ x => x)))))
end
end TxS
/-! ## S3 -/
set_option Elab.async false
set_option linter.all false
set_option maxRecDepth 100000
set_option maxHeartbeats 4000000
namespace TxS
open PySem PySem.Spec PyProof.Rows L2 PySem.Froz PpSet
section
variable {X : Cx}
/-- what a turn that is kept asks: a text, the set as it is at D, room for it -/
def Adds (P : Program) (w : World) (D : Addr) (Nx : Hp → Prop) : VK := fun y H => ∃ (k : Str) (l : List Str), y = .str k ∧ H D = some (SetSO P w D l) ∧ l.length + 1 < scanBound ∧ Nx (upd H D (SetSO P w D (if k ∈ l then l else k :: l)))
/-- {elt for a in xs if .. for b in ys if ..}: D the new set; vs: the block's names, vs1: those of the second clause -/
def tSc2 (P : Program) (w : World) (wi : TI) (g : TG) (tt : TT) (wi1 : TI) (g1 : TG) (tt1 : TT) (te : TE) (vs vs1 : List Nat) : TE := fun σ H Q => wi σ H fun J Ha => ∀ D, Ha D = none →
  ∃ W : Nat → Nat → Hp → Prop, (∃ m, W 0 m (upd Ha D (SetSO P w D []))) ∧ ∀ i m Hb, W i m Hb → (J.stop i Hb ∧ Q (.ref D) Hb) ∨
    (J.go i Hb ∧ ∃ Nx : Hp → Prop, (∀ Hc, Nx Hc → ∃ m', m' < m ∧ W (i + 1) m' Hc) ∧ ∀ x Hc, J.yld i Hb x Hc → g x (wipe σ vs) Hc fun σ2 Hd => wipe σ2 vs = wipe σ vs ∧ tt σ2 Hd fun b He =>
      if b = true then wi1 σ2 He fun J1 Hf => ∃ W1 : Nat → Nat → Hp → Prop, (∃ m, W1 0 m Hf) ∧ ∀ j k Hg, W1 j k Hg → (J1.stop j Hg ∧ Nx Hg) ∨
        (J1.go j Hg ∧ ∃ Nx1 : Hp → Prop, (∀ Hh, Nx1 Hh → ∃ k', k' < k ∧ W1 (j + 1) k' Hh) ∧ ∀ x Hh, J1.yld j Hg x Hh → g1 x (wipe σ2 vs1) Hh fun σ3 Hi => wipe σ3 vs1 = wipe σ2 vs1 ∧ tt1 σ3 Hi fun b Hj =>
          if b = true then te σ3 Hj (Adds P w D Nx1) else Nx1 Hj)
      else Nx He)
theorem pe_sc2 {elt t0 i0 t1 i1 : Expr} {f0 f1 : List Expr} {scope : Scope} {own : List (PySem.Str × Nat)} {vs1 : List Nat} {pos : Pos} {wi wi1 : TI} {g g1 : TG} {tt tt1 : TT} {te : TE} (hc : X.calm = true) (hN : X.N.Nodup) (hi : PI X t0 i0 wi) (ok : BlkOk X.N X.env.scope scope own) (hv : ∀ i ∈ vs1, i ∈ own.map (·.2))
    (hg : ∀ s H C cl fp, PG (X.blk s H scope (compEnvC scope cl C X.env) fp) t0 g) (ht : ∀ s H C cl fp, PTs (X.blk s H scope (compEnvC scope cl C X.env) fp) f0 tt)
    (hi1 : ∀ s H C cl fp, PI (X.blk s H scope (compEnvC scope cl C X.env) fp) t1 i1 wi1)
    (hg1 : ∀ s H C cl fp, PG (X.blk s H scope (compEnvC scope cl C X.env) fp) t1 g1) (ht1 : ∀ s H C cl fp, PTs (X.blk s H scope (compEnvC scope cl C X.env) fp) f1 tt1)
    (he : ∀ s H C cl fp, PE (X.blk s H scope (compEnvC scope cl C X.env) fp) elt te) (hs : ∀ x, foldedSetIterable i0 X.env x = pure x := by intro _; rfl) (hs1 : ∀ env x, foldedSetIterable i1 env x = pure x := by intro _ _; rfl) :
    PE X (SC2 elt t0 i0 t1 i1 f0 f1 scope pos) (tSc2 X.prog X.w wi g tt wi1 g1 tt1 te (own.map (·.2)) vs1) := by
  refine ⟨fun pins s σ H Q I h => ?_⟩
  rw [eval_SetComp]
  -- the block's free names are cells of the frame
  have hfree : ∀ y ∈ scope.names, y.2 = .free → ∃ c, X.env.cells.lookup y.1 = some c := fun y hy e => (ok.free y hy e).elim (fun k => I.ok.has _ (.inl k)) fun k => I.ok.has _ (.inr k)
  refine wpAny_comprehension_free rfl hs (closure_ok hfree) ok.kind (fun y hy e => by rw [ok.uniq y hy, e]) (thn (hi.run pins s σ H _ I h) fun xv s1 hx => thn hx fun itv s2 hz => ?_)
  obtain ⟨it, fp, tn, J, Ha, e, Ia, T, sta, fa, q⟩ := hz
  subst e
  refine newSet_ok (newEnv_comp ?_)
  generalize hD : s2.heap.objs.size = D
  have hDn : Ha D = none := Ia.hok.fresh (Nat.le_of_eq hD)
  obtain ⟨W, ⟨m0, w0⟩, turn⟩ := q D hDn
  -- the set is made
  generalize hsb : ({ s2 with heap := s2.heap.push { cls := .type "set", dict := none, data := .set #[] 0 (.fresh 0 0 (!X.w.params.followText "set-order")) } } : Shared) = sb
  have heb : sb.heap = s2.heap.push { cls := .type "set", dict := none, data := .set #[] 0 (.fresh 0 0 (!X.w.params.followText "set-order")) } := by rw [← hsb]
  have Ib : Inv X pins σ (upd Ha D (SetSO X.prog X.w D [])) sb := by
    rw [← hsb]
    exact Ia.laid (t' := s2.toks) (fun b o e => Heap.get?_push_of_some _ e) (Nat.le_of_eq hD) (by rw [← hD]; exact setSO_new (SetS.fresh X.prog X.w))
  have fb : ∀ b ∈ fp, FpOk X pins (upd Ha D (SetSO X.prog X.w D [])) b ∧ b < sb.heap.objs.size := fun b hb => by
    obtain ⟨o, eo, _⟩ := T.obj _ _ sta b hb
    have hlt := Heap.lt_size eo
    refine ⟨⟨?_, (fa b hb).2⟩, by rw [heb, Heap.size_push]; exact Nat.lt_succ_of_lt hlt⟩
    rw [upd_ne (by rw [← hD]; exact Nat.ne_of_lt hlt)]
    exact (fa b hb).1
  have stb : tn 0 sb.heap := T.keep _ _ _ sta fun b _ o e => by rw [heb]; exact Heap.get?_push_of_some _ e
  have Ic := block_start Ib ok hN fb
  have pg := hg sb (upd Ha D (SetSO X.prog X.w D [])) sb.heap.objs.size (cellsFrom (sb.heap.objs.size + 1) scope.names (cloFrom X.env.cells scope.names [])) fp
  have pt := ht sb (upd Ha D (SetSO X.prog X.w D [])) sb.heap.objs.size (cellsFrom (sb.heap.objs.size + 1) scope.names (cloFrom X.env.cells scope.names [])) fp
  have pe := he sb (upd Ha D (SetSO X.prog X.w D [])) sb.heap.objs.size (cellsFrom (sb.heap.objs.size + 1) scope.names (cloFrom X.env.cells scope.names [])) fp
  have pj := hi1 sb (upd Ha D (SetSO X.prog X.w D [])) sb.heap.objs.size (cellsFrom (sb.heap.objs.size + 1) scope.names (cloFrom X.env.cells scope.names [])) fp
  have pg' := hg1 sb (upd Ha D (SetSO X.prog X.w D [])) sb.heap.objs.size (cellsFrom (sb.heap.objs.size + 1) scope.names (cloFrom X.env.cells scope.names [])) fp
  have pt' := ht1 sb (upd Ha D (SetSO X.prog X.w D [])) sb.heap.objs.size (cellsFrom (sb.heap.objs.size + 1) scope.names (cloFrom X.env.cells scope.names [])) fp
  have nfp : ∀ b ∈ fp, (upd Ha D (SetSO X.prog X.w D [])) b = none := fun b hb => (fb b hb).1.1
  show codeAny _ _ (.compStart (SC2 elt t0 i0 t1 i1 f0 f1 scope pos) 0 (.ref it) (.ref D) (compEnvC scope (cellsFrom (sb.heap.objs.size + 1) scope.names (cloFrom X.env.cells scope.names [])) sb.heap.objs.size X.env)) _ { sb with heap := pushCells (sb.heap.push { cls := .type "dict", data := .dict #[] }) scope.names }
  generalize hce : compEnvC scope (cellsFrom (sb.heap.objs.size + 1) scope.names (cloFrom X.env.cells scope.names [])) sb.heap.objs.size X.env = ce at Ic pg pt pe pj pg' pt' ⊢
  have cL : ce.locals = sb.heap.objs.size := by subst hce; rfl
  generalize hHb : upd Ha D (SetSO X.prog X.w D []) = Hb at Ib Ic pg pt pe pj pg' pt' w0 nfp fb
  generalize hsc : ({ sb with heap := pushCells (sb.heap.push { cls := .type "dict", data := .dict #[] }) scope.names } : Shared) = sc at Ic ⊢
  have stc : tn 0 sc.heap := T.keep _ _ _ stb fun b _ o e => by rw [← hsc]; exact pushCells_keeps _ _ _ _ (Heap.get?_push_of_some _ e)
  have stat : ∀ {σ' : L2.St} {H' : Hp} {s' : Shared}, Inv (X.blk sb Hb scope ce fp) [] σ' H' s' → (∀ b ∈ fp, H' b = none) → ∀ b ∈ fp, FpOk (X.blk sb Hb scope ce fp) [] H' b := fun {σ' H' s'} I' hn b hb =>
    ⟨hn b hb, (I'.ok.exf b hb).1, I'.ok.exfs b hb, .inl hb, fun x c e => (I'.ok.exf b hb).2 x c e, fun p hp => absurd (show p ∈ ([] : List (Addr × Obj)) ++ [] from hp) (by simp)⟩
  refine sc2_start (.inl rfl) ?L (T.self X.A 0 _ _ _ stc ?L)
  refine sc2_loop0 (hs1 ce) (fun n s' => ∃ i H', Inv (X.blk sb Hb scope ce fp) [] (wipe σ (own.map (·.2))) H' s' ∧ tn i s'.heap ∧ (∀ b ∈ fp, H' b = none) ∧ W i n H') ?_ m0 ⟨0, Hb, Ic, stc, nfp, w0⟩
  rintro n s5 ⟨i, H5, I5, st5, n5, w5⟩
  rcases turn i n H5 w5 with ⟨stop, qq⟩ | ⟨go, Nx, hNx, step⟩
  · -- the end: back in the def's frame
    refine thnF (T.done (X.blk sb Hb scope ce fp) rfl rfl rfl hc i [] s5 _ H5 (fun _ _ => False) I5 (stat I5 n5) st5 stop) fun r s6 ⟨hr, I6⟩ => ?_
    subst hr
    have I7 : Inv X pins σ H5 s6 := Ib.call' (ch := fp) I6.os I6.base I6.hok I6.bare fun b hb => ⟨(fb b hb).1.2.2.2.1, (fb b hb).1.2.1, (fb b hb).1.2.2.2.2.1, (fb b hb).1.2.2.2.2.2⟩
    have nC : H5 sb.heap.objs.size = none := by
      have z : H5 ce.locals = none := I6.free
      rwa [cL] at z
    obtain ⟨m, hn, _⟩ := I6.loc
    have hn : s6.heap.Ns ce.locals m := hn
    rw [cL] at hn
    obtain ⟨a0, a1, a2, a3, a4, a5⟩ := Ib.fpOk (Nat.le_refl _) nC
    exact ⟨m, hn, fun h'' sb' => ⟨.ref D, H5, I7.turned (t' := s6.toks) (fun b o hb e => (sb'.2 b hb).trans e) a0 a1 a3 a4 a5, rfl, qq⟩⟩
  · refine thnF (T.item (X.blk sb Hb scope ce fp) rfl rfl rfl hc i [] s5 _ H5 (fun _ _ => False) I5 (stat I5 n5) st5 go) fun r s6 ⟨u, hr, h6⟩ => ?_
    subst hr
    refine thnF h6 fun _ s7 ⟨x, H7, I7, r7, y7, st7, n7⟩ => ?_
    refine thnF (pg.run _ s7 _ H7 x u _ (I7.pinned (stat I7 n7) (T.obj _ _ st7)) r7 (step x H7 y7)) fun _ s8 ⟨σ8, H8, I8, hw8, q8⟩ => thnF (pt.run _ s8 σ8 H8 _ I8 q8) fun b s9 ⟨H9, I9, q9⟩ => ?_
    -- a turn's end, whatever slots are known
    have fin : ∀ {σ9 : L2.St} {s' : Shared} {H' : Hp}, Inv (X.blk sb Hb scope ce fp) ([] ++ pinsAt fp s7.heap) σ9 H' s' → (wipe σ (own.map (·.2))).length = σ9.length → (∀ (j : Nat) v, (wipe σ (own.map (·.2)))[j]? = some (some v) → σ9[j]? = some (some v)) → Nx H' →
        ∃ m, m < n ∧ ∃ i H', Inv (X.blk sb Hb scope ce fp) [] (wipe σ (own.map (·.2))) H' s' ∧ tn i s'.heap ∧ (∀ b ∈ fp, H' b = none) ∧ W i m H' := fun {σ9 s' H'} I' hl hk nx => by
      obtain ⟨m', hm, w'⟩ := hNx H' nx
      have pin' : ∀ b ∈ fp, ∀ o, s7.heap.get? b = some o → s'.heap.get? b = some o ∧ H' b = none := fun b hb o e =>
        let z := I'.pin (b, o) (List.mem_append_right _ (List.mem_append_right _ (mem_pinsAt hb e)))
        ⟨z.1, z.2.1⟩
      exact ⟨m', hm, i + 1, H', (I'.unpinned (pins := [])).weak hl hk, T.keep _ _ _ st7 fun b hb o e => (pin' b hb o e).1, fun b hb => let ⟨o, eo, _⟩ := T.obj _ _ st7 b hb; (pin' b hb o eo).2, w'⟩
    have hl8 : (wipe σ (own.map (·.2))).length = σ8.length := by rw [← hw8, wipe_length]
    have hk8 : ∀ (j : Nat) v, (wipe σ (own.map (·.2)))[j]? = some (some v) → σ8[j]? = some (some v) ∧ j ∉ own.map (·.2) := fun j v e => by
      rw [← hw8] at e
      exact wipe_some e
    cases b with
    | false =>
      simp only [Bool.false_eq_true, if_false] at q9 ⊢
      exact fin I9 hl8 (fun j v e => (hk8 j v e).1) q9
    | true =>
      simp only [if_true] at q9 ⊢
      refine thnF (pj.run _ s9 σ8 H9 _ I9 q9) fun xv s10 hx => thnF hx fun itv s11 hz => ?_
      obtain ⟨jt, fq, tm, J1, H11, e1, I11, T1, st11, f11, W1, ⟨m1, w1⟩, turn1⟩ := hz
      subst e1
      have statq : ∀ {H' : Hp}, (∀ b ∈ fq, H' b = none) → ∀ b ∈ fq, FpOk (X.blk sb Hb scope ce fp) ([] ++ pinsAt fp s7.heap) H' b := fun hn b hb => ⟨hn b hb, (f11 b hb).2⟩
      refine sc2_start (.inr rfl) ?M (T1.self X.A 0 _ _ _ st11 ?M)
      refine sc2_loop1 (fun k s' => ∃ j H', Inv (X.blk sb Hb scope ce fp) ([] ++ pinsAt fp s7.heap) (wipe σ8 vs1) H' s' ∧ tm j s'.heap ∧ (∀ b ∈ fq, H' b = none) ∧ W1 j k H') ?_ m1 ⟨0, H11, I11.weak (wipe_length _ _) (fun j v e => (wipe_some e).1), st11, fun b hb => (f11 b hb).1, w1⟩
      rintro k s12 ⟨j, H12, I12, st12, n12, w12⟩
      rcases turn1 j k H12 w12 with ⟨stop1, nx1⟩ | ⟨go1, Nx1, hNx1, step1⟩
      · refine thnF (T1.done (X.blk sb Hb scope ce fp) rfl rfl rfl hc j _ s12 (wipe σ8 vs1) H12 (fun _ _ => False) I12 (statq n12) st12 stop1) fun r s13 ⟨hr, I13⟩ => ?_
        subst hr
        exact fin I13 (hl8.trans (wipe_length σ8 vs1).symm) (fun j v e => by
          obtain ⟨e1, e2⟩ := hk8 j v e
          rw [wipe_out fun z => e2 (hv j z)]
          exact e1) nx1
      · refine thnF (T1.item (X.blk sb Hb scope ce fp) rfl rfl rfl hc j _ s12 (wipe σ8 vs1) H12 (fun _ _ => False) I12 (statq n12) st12 go1) fun r s13 ⟨u1, hr, h13⟩ => ?_
        subst hr
        refine thnF h13 fun _ s14 ⟨x1, H14, I14, r14, y14, st14, n14⟩ => ?_
        refine thnF (pg'.run _ s14 (wipe σ8 vs1) H14 x1 u1 _ (I14.pinned (statq n14) (T1.obj _ _ st14)) r14 (step1 x1 H14 y14)) fun _ s15 ⟨σ15, H15, I15, hw15, q15⟩ => thnF (pt'.run _ s15 σ15 H15 _ I15 q15) fun b1 s16 ⟨H16, I16, q16⟩ => ?_
        have fin1 : ∀ {s' : Shared} {H' : Hp}, Inv (X.blk sb Hb scope ce fp) (([] ++ pinsAt fp s7.heap) ++ pinsAt fq s14.heap) σ15 H' s' → Nx1 H' →
            ∃ m, m < k ∧ ∃ j H', Inv (X.blk sb Hb scope ce fp) ([] ++ pinsAt fp s7.heap) (wipe σ8 vs1) H' s' ∧ tm j s'.heap ∧ (∀ b ∈ fq, H' b = none) ∧ W1 j m H' := fun {s' H'} I' nx => by
          obtain ⟨m', hm, w'⟩ := hNx1 H' nx
          have pin' : ∀ b ∈ fq, ∀ o, s14.heap.get? b = some o → s'.heap.get? b = some o ∧ H' b = none := fun b hb o e =>
            let z := I'.pin (b, o) (List.mem_append_right _ (List.mem_append_right _ (mem_pinsAt hb e)))
            ⟨z.1, z.2.1⟩
          exact ⟨m', hm, j + 1, H', I'.unpinned.weak (by rw [← hw15, wipe_length]) (fun j v e => by rw [← hw15] at e; exact (wipe_some e).1), T1.keep _ _ _ st14 fun b hb o e => (pin' b hb o e).1, fun b hb => let ⟨o, eo, _⟩ := T1.obj _ _ st14 b hb; (pin' b hb o eo).2, w'⟩
        cases b1 with
        | false =>
          simp only [Bool.false_eq_true, if_false] at q16 ⊢
          exact fin1 I16 q16
        | true =>
          simp only [if_true] at q16 ⊢
          refine thnF (pe.run _ s16 σ15 H16 _ I16 q16) fun z s17 ⟨yv, H17, I17, r17, k0, l0, ey, hD17, hz17, nx⟩ => ?_
          subst ey
          obtain ⟨u0, rfl⟩ := r17
          exact addS_ok (X := X.blk sb Hb scope ce fp) I17 hD17 hz17 fun s18 I18 => fin1 I18 nx
end
end TxS
/-! ## P1 -/
set_option Elab.async false
set_option linter.all false
set_option maxRecDepth 100000
set_option maxHeartbeats 4000000
namespace Sl
open PySem PySem.Spec PyProof.Rows L2
abbrev sIsInt : Stmt := top 5
abbrev sBelow : Stmt := top 6
abbrev sHasLen : Stmt := top 9
/-! ### the kinds of values -/
inductive Kd
  | non | bl | int | str | lst | tup | dct
def Kd.nm : Kd → String
  | .non => "NoneType" | .bl => "bool" | .int => "int" | .str => "str" | .lst => "list" | .tup => "tuple" | .dct => "dict"
/-- the value's kind -/
def Is (K : PySem.W.Frag) (H : Hp) (x : V) (k : Kd) : Prop := TyX K H x (.type k.nm)
def Kd.num : Kd → Bool
  | .int => true
  | _ => false
def spIsInt (K : PySem.W.Frag) : Sp := fun vs H Q _ => ∃ (x : V) (k : Kd), vs = [x] ∧ Is K H x k ∧ Q (.bl k.num) H
section
variable {P : Program} {w : World} {K : PySem.W.Frag} {mg : Str → Option Value} {base : Heap}
theorem rel_ty (n : String) : RelV (.ty n) (.type n) := rfl
theorem scIsInt : FnScope ["value"] ["value"] (defScope sIsInt) := ⟨rfl, rfl, rfl, by decide +kernel, rfl, by decide +kernel, by decide +kernel⟩
theorem ok_isint {f : Addr} {fd : FuncData} (F : Fun K "is_integer" "is_integer" sIsInt f fd) (zz : mg "isinstance" = none) (zi : mg "int" = none) (zb : mg "bool" = none) : FnOk P w K mg base CX0 1 f fd ["value"] (spIsInt K) := by
  refine F.ok scIsInt (fun vs H Q E h => ?_) (fun cdv A outer s H vs Q E hr h => ?_)
  · obtain ⟨x, k, rfl, _⟩ := h
    rfl
  · obtain ⟨x, k, rfl, hk, q⟩ := h
    refine ⟨_, pss_one (ps_ret (pe_and (pe_callB call_isi (by rfl) zz (by decide +kernel) (pa_cons (pv 0) (pa_cons (pe_bltn (by rfl) zi (by decide +kernel) (rel_ty "int")) pa_nil)))
      (pe_one (pe_not (pe_callB call_isi (by rfl) zz (by decide +kernel) (pa_cons (pv 0) (pa_cons (pe_bltn (by rfl) zb (by decide +kernel) (rel_ty "bool")) pa_nil))))))), ?_⟩
    cases k with
    | int => exact ⟨_, rfl, _, _, _, _, true, rfl, .ty _, hk, kit_ty (by decide +kernel), true, rfl, _, rfl, _, _, _, _, false, rfl, .ty _, hk, kit_ty (by decide +kernel), _, rfl, q⟩
    | bl => exact ⟨_, rfl, _, _, _, _, true, rfl, .ty _, hk, kit_ty (by decide +kernel), true, rfl, _, rfl, _, _, _, _, true, rfl, .ty _, hk, kit_ty (by decide +kernel), _, rfl, q⟩
    | _ => exact ⟨_, rfl, _, _, _, _, false, rfl, .ty _, hk, kit_ty (by decide +kernel), false, rfl, q⟩
end
end Sl
/-! ## P2 -/
set_option Elab.async false
set_option linter.all false
set_option maxRecDepth 100000
set_option maxHeartbeats 4000000
namespace Sl
open PySem PySem.Spec PyProof.Rows L2
/-- a def stands at its name: its parameters, its defaults -/
structure At (K : PySem.W.Frag) (mg : Str → Option Value) (x : Str) (f : Addr) (fd : FuncData) (ps : List Str) (ds : List Value) : Prop where
  g : mg x = some (.ref f)
  kp : PySem.W.keepIn K (.ref f) = true
  b : Binds K fd ps ds
def below (x : V) (n : Int) : Bool := match x with
  | .int i => decide (0 ≤ i) && decide (i < n)
  | _ => false
/-- a value of a kind: ints are the V's ints -/
def Val (K : PySem.W.Frag) (H : Hp) (x : V) : Prop := (∃ i, x = .int i) ∨ ((∀ i, x ≠ .int i) ∧ ∃ k : Kd, k.num = false ∧ Is K H x k)
theorem Val.kd {K : PySem.W.Frag} {H : Hp} {x : V} (h : Val K H x) : ∃ k, Is K H x k := by
  rcases h with ⟨i, rfl⟩ | ⟨_, k, _, e⟩
  · exact ⟨.int, .base (.int i)⟩
  · exact ⟨k, e⟩
def spBelow (K : PySem.W.Frag) : Sp := fun vs H Q _ => ∃ (x : V) (n : Int), vs = [x, .int n] ∧ Val K H x ∧ Q (.bl (below x n)) H
def spHasLen (K : PySem.W.Frag) : Sp := fun vs H Q _ => ∃ (a : Addr) (xs : List V) (m n : Int), vs = [.ref a, .int m, .int n] ∧ (H a = some (.lst xs) ∨ H a = some (.tup xs)) ∧
  ∀ H', (∀ b o, H b = some o → H' b = some o) → Q (.bl (decide (m ≤ xs.length) && decide ((xs.length : Int) ≤ n))) H'
section
variable {P : Program} {w : World} {K : PySem.W.Frag} {mg : Str → Option Value} {base : Heap}
theorem scBelow : FnScope ["value", "limit"] ["value", "limit"] (defScope sBelow) := ⟨rfl, rfl, rfl, by decide +kernel, rfl, by decide +kernel, by decide +kernel⟩
theorem ok_below {f fI : Addr} {fd fdI : FuncData} (F : Fun K "is_below" "is_below" sBelow f fd) (aI : At K mg "is_integer" fI fdI ["value"] []) (gI : FnOk P w K mg base CX0 1 fI fdI ["value"] (spIsInt K)) :
    FnOk P w K mg base CX0 2 f fd ["value", "limit"] (spBelow K) := by
  refine F.ok scBelow (fun vs H Q E h => ?_) (fun cdv A outer s H vs Q E hr h => ?_)
  · obtain ⟨x, n, rfl, _⟩ := h
    rfl
  · obtain ⟨x, n, rfl, hk, q⟩ := h
    refine ⟨_, pss_one (ps_ret (pe_and (pe_call gI hr (by rfl) aI.g aI.kp aI.b .nil pass0 (pa_cons (pv 0) pa_nil)) (pe_one (pe_chain op_le op_lt pe_int (pv 0) (pv 1))))), ?_⟩
    rcases hk with ⟨i, rfl⟩ | ⟨hn, k, ek, ik⟩
    · refine ⟨_, rfl, _, .int, rfl, .base (.int i), true, rfl, ?_⟩
      refine ⟨_, rfl, _, _, rfl, rfl, _, rfl, ?_⟩
      have e : below (.int i) n = (decide (0 ≤ i) && decide (i < n)) := rfl
      rw [e] at q
      by_cases c : 0 ≤ i
      · simp only [c, decide_true, Bool.true_and, if_true] at q ⊢
        exact ⟨_, rfl, _, _, rfl, rfl, q⟩
      · simp only [c, decide_false, Bool.false_and, Bool.false_eq_true, if_false] at q ⊢
        exact q
    · refine ⟨_, rfl, _, k, rfl, ik, false, by rw [ek], ?_⟩
      have e : below x n = false := by
        cases x with
        | int i => exact absurd rfl (hn i)
        | _ => rfl
      rw [e] at q
      exact q
theorem scHasLen : FnScope ["value", "least", "most"] ["value", "least", "most"] (defScope sHasLen) := ⟨rfl, rfl, rfl, by decide +kernel, rfl, by decide +kernel, by decide +kernel⟩
theorem ok_haslen {f : Addr} {fd : FuncData} (F : Fun K "has_length" "has_length" sHasLen f fd) (zz : mg "isinstance" = none) (zl : mg "list" = none) (zt : mg "tuple" = none) (zn : mg "len" = none) :
    FnOk P w K mg base CX0 1 f fd ["value", "least", "most"] (spHasLen K) := by
  refine F.ok scHasLen (fun vs H Q E h => ?_) (fun cdv A outer s H vs Q E hr h => ?_)
  · obtain ⟨a, xs, m, n, rfl, _⟩ := h
    rfl
  · obtain ⟨a, xs, m, n, rfl, ha, q⟩ := h
    refine ⟨_, pss_one (ps_ret (pe_and (pe_callB call_isiT (by rfl) zz (by decide +kernel) (pa_cons (pv 0) (pa_cons (pe_tup (pa_cons (pe_bltn (by rfl) zl (by decide +kernel) (rel_ty "list")) (pa_cons (pe_bltn (by rfl) zt (by decide +kernel) (rel_ty "tuple")) pa_nil))) pa_nil)))
      (pe_one (pe_chain op_le op_le (pv 1) (pe_callB call_len_seq (by rfl) zn PySem.boot_len (pa_cons (pv 0) pa_nil)) (pv 2))))), ?_⟩
    refine ⟨_, rfl, (by show 2 ≤ sizeLine; decide), fun p hp => ?_⟩
    have npa : ∀ o, H a = some o → a ≠ p := fun o e => ne_of_none e hp
    have same : ∀ b o, H b = some o → upd H p (.tup [.ty "list", .ty "tuple"]) b = some o := fun b o e => by
      rw [upd_ne (ne_of_none e hp)]
      exact e
    obtain ⟨t, hb, it, hs⟩ : ∃ t : Kd, PySem.W.kitAny K (.type t.nm) [.type "list", .type "tuple"] = some true ∧ Is K (upd H p (.tup [.ty "list", .ty "tuple"])) (.ref a) t ∧ (SqL K (upd H p (.tup [.ty "list", .ty "tuple"])) a xs ∨ SqT K (upd H p (.tup [.ty "list", .ty "tuple"])) a xs) := by
      rcases ha with ha | ha
      · exact ⟨.lst, by first | rfl | decide +kernel, .base (.lst (same _ _ ha)), .inl (SqL.of (same _ _ ha))⟩
      · exact ⟨.tup, by first | rfl | decide +kernel, .base (.tup (same _ _ ha)), .inr (SqT.of (same _ _ ha))⟩
    refine ⟨_, p, _, _, _, true, rfl, upd_same, .cons (.ty _) (.cons (.ty _) .nil), it, hb, true, rfl, _, rfl, _, rfl, _, _, rfl, hs, _, _, rfl, rfl, _, rfl, ?_⟩
    have q' := q _ same
    by_cases c : m ≤ xs.length
    · simp only [c, decide_true, Bool.true_and, if_true] at q' ⊢
      exact ⟨_, rfl, _, _, rfl, rfl, q'⟩
    · simp only [c, decide_false, Bool.false_and, Bool.false_eq_true, if_false] at q' ⊢
      exact q'
end
end Sl
/-! ## P3 -/
set_option Elab.async false
set_option linter.all false
set_option maxRecDepth 100000
set_option maxHeartbeats 4000000
namespace Sl
open PySem PySem.Spec PyProof.Rows L2
abbrev sAreStates : Stmt := top 8
abbrev sIsWord : Stmt := top 17
/-- states of something with so many: a list of different numbers below it -/
def spAreStates : Sp := fun vs H Q _ => ∃ (a : Addr) (ns : List Int) (n : Int), vs = [.ref a, .int n] ∧ H a = some (.lst (ns.map V.int)) ∧ ns.length < 64 ∧ ns.Nodup ∧ (∀ i ∈ ns, 0 ≤ i ∧ i < n) ∧
  ∀ H', (∀ b o, H b = some o → H' b = some o) → Q (.bl true) H'
theorem at_map {α : Type} {f : α → V} {l : List α} {i : Nat} {x : V} (h : (l.map f)[i]? = some x) : ∃ z, l[i]? = some z ∧ x = f z := by
  rw [List.getElem?_map] at h
  cases e : l[i]? with
  | none => rw [e] at h; cases h
  | some z => rw [e] at h; exact ⟨z, rfl, (Option.some.inj h).symm⟩
theorem take_more {α : Type} {l : List α} {i : Nat} {x : α} (h : l[i]? = some x) : l.take (i + 1) = l.take i ++ [x] := by rw [List.take_add_one, h]; rfl
theorem one_lt (c d : Nat) : (!decide ([c] < [d])) = decide (d ≤ c) := by
  by_cases h : d ≤ c
  · have n : ¬ [c] < [d] := by
      rw [List.cons_lt_cons_iff]
      rintro (k | ⟨_, k⟩)
      · omega
      · exact absurd k (by simp)
    rw [decide_eq_true h, decide_eq_false n]
    rfl
  · have n : [c] < [d] := by
      rw [List.cons_lt_cons_iff]
      exact .inl (by omega)
    rw [decide_eq_false h, decide_eq_true n]
    rfl
theorem cmp_a (c : Nat) : (!decide ((⟨#[c]⟩ : Str).cps.toList < ("a" : Str).cps.toList)) = decide (97 ≤ c) := one_lt c 97
theorem cmp_z (c : Nat) : (!decide (("z" : Str).cps.toList < (⟨#[c]⟩ : Str).cps.toList)) = decide (c ≤ 122) := one_lt 122 c
/-- the code points of a to z -/
def lowC (c : Nat) : Bool := decide (97 ≤ c) && decide (c ≤ 122)
def isWordS (z : Str) : Bool := z.cps.toList.all lowC
/-- a text is judged by its signs, any other value is none -/
def spIsWord (K : PySem.W.Frag) : Sp := fun vs H Q _ => ∃ x, vs = [x] ∧ ((∃ z : Str, x = .str z ∧ z.length ≤ 10000 ∧ ∀ H', (∀ b o, H b = some o → H' b = some o) → Q (.bl (isWordS z)) H') ∨ (∃ k : Kd, Is K H x k ∧ k ≠ .str ∧ Q (.bl false) H))
section
variable {P : Program} {w : World} {K : PySem.W.Frag} {mg : Str → Option Value} {base : Heap}
theorem scAreStates : FnScope ["value", "many", "state"] ["value", "many"] (defScope sAreStates) := ⟨rfl, rfl, rfl, by decide +kernel, rfl, by decide +kernel, by decide +kernel⟩
theorem ok_arestates {f fB : Addr} {fd fdB : FuncData} (F : Fun K "are_states" "are_states" sAreStates f fd) (aB : At K mg "is_below" fB fdB ["value", "limit"] []) (gB : FnOk P w K mg base CX0 2 fB fdB ["value", "limit"] (spBelow K))
    (zz : mg "isinstance" = none) (zl : mg "list" = none) (zt : mg "tuple" = none) (zn : mg "len" = none) (za : mg "all" = none) (zs : mg "set" = none) :
    FnOk P w K mg base CX0 3 f fd ["value", "many"] spAreStates := by
  refine F.ok scAreStates (fun vs H Q E h => ?_) (fun cdv A outer s H vs Q E hr h => ?_)
  · obtain ⟨a, ns, n, rfl, _⟩ := h
    rfl
  · obtain ⟨a, ns, n, rfl, ha, hl, nd, hns, q⟩ := h
    refine ⟨_, pss_cons (ps_if (pt_not (pt_val (pe_callB call_isiT (by rfl) zz (by decide +kernel) (pa_cons (pv 0) (pa_cons (pe_tup (pa_cons (pe_bltn (by rfl) zl (by decide +kernel) (rel_ty "list")) (pa_cons (pe_bltn (by rfl) zt (by decide +kernel) (rel_ty "tuple")) pa_nil))) pa_nil))))) (pss_one (ps_ret pe_bl)) pss_nil)
      (pss_cons (ps_if (pt_not (pt_val (pe_callB (cr_all rfl) (by rfl) za (by decide +kernel) (pa_cons (pe_lc (own := [("state", 2)]) (g := gName 2) (tt := tYes) rfl scAreStates.nd (pi_list (pv 0)) (blkOk_by (N := ["value", "many", "state"]) (sc := defScope sAreStates) (by decide +kernel))
          (fun _ _ _ _ _ => pg_name (i := 2) scAreStates.nd rfl (Or.inl rfl)) (fun _ _ _ _ _ => pts_nil) (fun _ _ _ _ _ => pe_call gB hr (by rfl) aB.g aB.kp aB.b .nil pass0 (pa_cons (pv 2) (pa_cons (pv 1) pa_nil)))) pa_nil)))) (pss_one (ps_ret pe_bl)) pss_nil)
      (pss_one (ps_ret (pe_cmpR op_eq (RZ.pe_lenSetI (by rfl) zn (by rfl) zs (pv 0)) (pe_callB call_len_seq (by rfl) zn PySem.boot_len (pa_cons (pv 0) pa_nil)) (nomark _))))), ?_⟩
    refine ⟨_, rfl, (by show 2 ≤ sizeLine; decide), fun p hp => ?_⟩
    have same : ∀ b o, H b = some o → upd H p (.tup [.ty "list", .ty "tuple"]) b = some o := fun b o e => by
      rw [upd_ne (ne_of_none e hp)]
      exact e
    refine ⟨_, p, _, .type "list", _, true, rfl, upd_same, .cons (.ty _) (.cons (.ty _) .nil), .base (.lst (same _ _ ha)), (by first | rfl | decide +kernel), true, rfl, ?_⟩
    refine iteF ?_
    generalize upd H p (.tup [.ty "list", .ty "tuple"]) = H1 at same
    refine ⟨_, rfl, a, rfl, ⟨_, SqL.of (same _ _ ha)⟩, fun D hD => ?_⟩
    have naD : ∀ b o, H b = some o → b ≠ D := fun b o e => ne_of_none (same b o e) hD
    refine lc_list (K := K) (a := a) (xs := ns.map V.int) (fun i H' => (∀ b o, H b = some o → H' b = some o) ∧ H' D = some (.lst ((List.replicate i true).map V.bl))) ⟨fun b o e => by rw [upd_ne (naD b o e)]; exact same b o e, upd_same⟩ (fun i H' _ h => SqL.of (h.1 _ _ ha)) ?_ ?_
    · rintro i x H' hi ⟨h1, h2⟩
      obtain ⟨z, hz, rfl⟩ := at_map hi
      have hil : i < ns.length := (List.getElem?_eq_some_iff.mp hz).1
      have hb := hns z (List.mem_of_getElem? hz)
      refine ⟨rfl, ?_⟩
      refine ⟨_, rfl, _, rfl, .int z, n, rfl, .inl ⟨z, rfl⟩, ?_⟩
      have e : below (.int z) n = true := by
        unfold below
        simp [hb.1, hb.2]
      rw [e]
      refine ⟨_, h2, by rw [List.length_map, List.length_replicate]; exact small1000 (by omega), fun b o e => by rw [upd_ne (naD b o e)]; exact h1 b o e, ?_⟩
      rw [upd_same, List.replicate_succ', List.map_append]
      rfl
    · rintro H' ⟨h1, h2⟩
      refine ⟨D, List.replicate (ns.map V.int).length true, rfl, SqL.of h2, true, by simp, ?_⟩
      refine iteF ?_
      refine ⟨_, rfl, a, ns, rfl, SqL.of (h1 _ _ ha), nd, (by omega), _, rfl, a, _, rfl, .inl (SqL.of (h1 _ _ ha)), ?_⟩
      have e : decide (V.int (ns.length : Nat) = V.int ((ns.map V.int).length : Nat)) = true := by
        rw [List.length_map]
        simp
      have q' := q _ h1
      rw [← e] at q'
      exact ⟨rfl, q'⟩
theorem scIsWord : FnScope ["value", "sign"] ["value"] (defScope sIsWord) := ⟨rfl, rfl, rfl, by decide +kernel, rfl, by decide +kernel, by decide +kernel⟩
theorem ok_isword {f : Addr} {fd : FuncData} (F : Fun K "is_word" "is_word" sIsWord f fd) (zz : mg "isinstance" = none) (zs : mg "str" = none) (za : mg "all" = none) :
    FnOk P w K mg base CX0 1 f fd ["value"] (spIsWord K) := by
  refine F.ok scIsWord (fun vs H Q E h => ?_) (fun cdv A outer s H vs Q E hr h => ?_)
  · obtain ⟨x, rfl, _⟩ := h
    rfl
  · obtain ⟨x, rfl, hx⟩ := h
    refine ⟨_, pss_one (ps_ret (pe_and (pe_callB call_isi (by rfl) zz (by decide +kernel) (pa_cons (pv 0) (pa_cons (pe_bltn (by rfl) zs (by decide +kernel) (rel_ty "str")) pa_nil)))
      (pe_one (pe_callB (cr_all rfl) (by rfl) za (by decide +kernel) (pa_cons (pe_lc (own := [("sign", 1)]) (g := gName 1) (tt := tYes) rfl scIsWord.nd (pi_str (pv 0)) (blkOk_by (N := ["value", "sign"]) (sc := defScope sIsWord) (by decide +kernel))
          (fun _ _ _ _ _ => pg_name (i := 1) scIsWord.nd rfl (Or.inl rfl)) (fun _ _ _ _ _ => pts_nil) (fun _ _ _ _ _ => pe_chain op_le_str op_le_str pe_str (pv 1) pe_str)) pa_nil))))), ?_⟩
    rcases hx with ⟨z, rfl, hz, q⟩ | ⟨k, ik, nk, q⟩
    · refine ⟨_, rfl, _, _, _, _, true, rfl, .ty _, .base (.str z), kit_ty (by decide +kernel), true, rfl, ?_⟩
      refine ⟨_, rfl, z, rfl, fun D hD => ?_⟩
      have zl : z.cps.size ≤ 10000 := hz
      refine lc_it walk_str (fun i H' => (∀ b o, H b = some o → H' b = some o) ∧ H' D = some (.lst ((z.cps.toList.take i).map fun c => V.bl (lowC c)))) ⟨fun b o e => by rw [upd_ne (ne_of_none e hD)]; exact e, upd_same⟩ (fun _ _ _ _ => trivial) ?_ ?_
      · rintro i x H1 H' hi ⟨h1, h2⟩ ⟨rfl, c, hc, rfl⟩
        refine ⟨rfl, _, rfl, _, _, rfl, rfl, _, rfl, ?_⟩
        have put : ∃ acc, H' D = some (.lst acc) ∧ acc.length < sizeLine ∧ ((∀ b o, H b = some o → (upd H' D (.lst (acc ++ [.bl (lowC c)]))) b = some o) ∧ (upd H' D (.lst (acc ++ [.bl (lowC c)]))) D = some (.lst ((z.cps.toList.take (i + 1)).map fun c => V.bl (lowC c)))) := by
          refine ⟨_, h2, ?_, fun b o e => by rw [upd_ne (ne_of_none e hD)]; exact h1 b o e, ?_⟩
          · rw [List.length_map, List.length_take, Array.length_toList, sizeLine_eq]
            omega
          · have hc' : z.cps.toList[i]? = some c := by
              rw [Array.getElem?_toList]
              exact hc
            rw [upd_same, take_more hc', List.map_append]
            rfl
        rw [cmp_a c]
        by_cases c1 : 97 ≤ c
        · rw [if_pos (decide_eq_true c1)]
          refine ⟨_, _, rfl, rfl, ?_⟩
          rw [cmp_z c]
          have e : decide (c ≤ 122) = lowC c := by
            unfold lowC
            rw [decide_eq_true c1, Bool.true_and]
          rw [e]
          exact put
        · rw [if_neg (by rw [decide_eq_false c1]; exact Bool.false_ne_true)]
          have e : false = lowC c := by
            unfold lowC
            rw [decide_eq_false c1, Bool.false_and]
          rw [e]
          exact put
      · rintro H' ⟨h1, h2⟩
        have e : List.take z.cps.size z.cps.toList = z.cps.toList := by
          rw [← Array.length_toList, List.take_length]
        rw [e] at h2
        refine ⟨D, z.cps.toList.map lowC, rfl, SqL.of (by rw [List.map_map]; exact h2), ?_⟩
        have e2 : (z.cps.toList.map lowC).all id = isWordS z := by
          unfold isWordS
          rw [List.all_map]
          rfl
        rw [e2]
        exact q _ h1
    · have e : PySem.W.kitOne K (.type k.nm) (.type "str") = some false := by
        cases k with
        | str => exact absurd rfl nk
        | _ => exact kit_ty (by decide +kernel)
      exact ⟨_, rfl, _, _, _, _, false, rfl, .ty _, ik, e, false, rfl, q⟩
end
end Sl
/-! ## P4 -/
set_option Elab.async false
set_option linter.all false
set_option maxRecDepth 100000
set_option maxHeartbeats 4000000
namespace Sl
open PySem PySem.Spec PyProof.Rows L2
abbrev sIsSign : Stmt := top 15
abbrev sIsMark : Stmt := top 16
abbrev sIsName : Stmt := top 19
abbrev sIsMove : Stmt := top 20
abbrev sIsRow : Stmt := top 21
/-- what stood stands -/
abbrev Ext (H H' : Hp) : Prop := ∀ b o, H b = some o → H' b = some o
theorem Ext.refl (H : Hp) : Ext H H := fun _ _ h => h
theorem Ext.trans {H H1 H2 : Hp} (h : Ext H H1) (h' : Ext H1 H2) : Ext H H2 := fun b o e => h' b o (h b o e)
theorem Ext.new {H : Hp} {p : Addr} {o : HO} (h : H p = none) : Ext H (upd H p o) := fun b u e => by
  rw [upd_ne (ne_of_none e h)]
  exact e
theorem Ext.free {H H' : Hp} {p : Addr} (h : Ext H H') (n : H' p = none) : H p = none := by
  cases e : H p with
  | none => rfl
  | some o =>
    rw [h p o e] at n
    cases n
def nameS (z : Str) : Bool := isWordS z && (decide (1 ≤ z.length) && decide (z.length ≤ 8))
def signS (z : Str) : Bool := isWordS z && decide (z.length = 1)
def markS (z : Str) : Bool := nameS z && decide (1 < z.length)
theorem small_size {n : Nat} (h : n ≤ 10000) : n ≤ sizeLine := by
  rw [sizeLine_eq]
  omega
/-- a test of a text -/
def spText (t : Str → Bool) : Sp := fun vs H Q _ => ∃ z : Str, vs = [.str z] ∧ z.length ≤ 10000 ∧ ∀ H', Ext H H' → Q (.bl (t z)) H'
section
variable {P : Program} {w : World} {K : PySem.W.Frag} {mg : Str → Option Value} {base : Heap}
theorem scIsName : FnScope ["value"] ["value"] (defScope sIsName) := ⟨rfl, rfl, rfl, by decide +kernel, rfl, by decide +kernel, by decide +kernel⟩
theorem ok_isname {f fW : Addr} {fd fdW : FuncData} {t8 : Tok} (F : Fun K "is_name" "is_name" sIsName f fd) (aW : At K mg "is_word" fW fdW ["value"] []) (gW : FnOk P w K mg base CX0 1 fW fdW ["value"] (spIsWord K)) (zn : mg "len" = none) (zm : mg "MAX_NAME" = some (.int 8 t8)) :
    FnOk P w K mg base CX0 2 f fd ["value"] (spText nameS) := by
  refine F.ok scIsName (fun vs H Q E h => ?_) (fun cdv A outer s H vs Q E hr h => ?_)
  · obtain ⟨z, rfl, _⟩ := h
    rfl
  · obtain ⟨z, rfl, hz, q⟩ := h
    refine ⟨_, pss_one (ps_ret (pe_and (pe_call gW hr (by rfl) aW.g aW.kp aW.b .nil pass0 (pa_cons (pv 0) pa_nil)) (pe_one (pe_chain op_le op_le pe_int (pe_callB call_len_str (by rfl) zn PySem.boot_len (pa_cons (pv 0) pa_nil)) (pe_glob (v := .int 8) rfl zm ⟨_, rfl⟩))))), ?_⟩
    refine ⟨_, rfl, _, rfl, .inl ⟨z, rfl, hz, fun H' e => ?_⟩⟩
    have q' := q H' e
    unfold nameS at q'
    refine ⟨_, rfl, ?_⟩
    generalize isWordS z = bw at q' ⊢
    cases bw with
    | false => exact q'
    | true =>
      rw [Bool.true_and] at q'
      refine ⟨_, rfl, z, rfl, small_size hz, _, _, rfl, rfl, _, rfl, ?_⟩
      by_cases c : 1 ≤ z.length
      · rw [if_pos (decide_eq_true (by omega))]
        refine ⟨_, _, rfl, rfl, ?_⟩
        rw [decide_eq_true c, Bool.true_and, show decide (z.length ≤ 8) = decide ((z.length : Int) ≤ 8) from decide_eq_decide.mpr (by omega)] at q'
        exact q'
      · rw [if_neg (by rw [decide_eq_false (by omega)]; exact Bool.false_ne_true)]
        rw [decide_eq_false c, Bool.false_and] at q'
        exact q'
theorem scIsSign : FnScope ["value"] ["value"] (defScope sIsSign) := ⟨rfl, rfl, rfl, by decide +kernel, rfl, by decide +kernel, by decide +kernel⟩
theorem ok_issign {f fW : Addr} {fd fdW : FuncData} (F : Fun K "is_sign" "is_sign" sIsSign f fd) (aW : At K mg "is_word" fW fdW ["value"] []) (gW : FnOk P w K mg base CX0 1 fW fdW ["value"] (spIsWord K)) (zn : mg "len" = none) :
    FnOk P w K mg base CX0 2 f fd ["value"] (spText signS) := by
  refine F.ok scIsSign (fun vs H Q E h => ?_) (fun cdv A outer s H vs Q E hr h => ?_)
  · obtain ⟨z, rfl, _⟩ := h
    rfl
  · obtain ⟨z, rfl, hz, q⟩ := h
    refine ⟨_, pss_one (ps_ret (pe_and (pe_call gW hr (by rfl) aW.g aW.kp aW.b .nil pass0 (pa_cons (pv 0) pa_nil)) (pe_one (pe_cmpR op_eq (pe_callB call_len_str (by rfl) zn PySem.boot_len (pa_cons (pv 0) pa_nil)) pe_int (nomark _))))), ?_⟩
    refine ⟨_, rfl, _, rfl, .inl ⟨z, rfl, hz, fun H' e => ?_⟩⟩
    have q' := q H' e
    unfold signS at q'
    refine ⟨_, rfl, ?_⟩
    generalize isWordS z = bw at q' ⊢
    cases bw with
    | false => exact q'
    | true =>
      rw [Bool.true_and] at q'
      refine ⟨_, rfl, z, rfl, small_size hz, rfl, ?_⟩
      rw [show decide (V.int (z.length : Nat) = V.int 1) = decide (z.length = 1) from decide_eq_decide.mpr ⟨fun k => by injection k with k; omega, fun k => by rw [k]; rfl⟩]
      exact q'
theorem scIsMark : FnScope ["value"] ["value"] (defScope sIsMark) := ⟨rfl, rfl, rfl, by decide +kernel, rfl, by decide +kernel, by decide +kernel⟩
theorem ok_ismark {f fW : Addr} {fd fdW : FuncData} (F : Fun K "is_mark" "is_mark" sIsMark f fd) (aW : At K mg "is_name" fW fdW ["value"] []) (gW : FnOk P w K mg base CX0 2 fW fdW ["value"] (spText nameS)) (zn : mg "len" = none) :
    FnOk P w K mg base CX0 3 f fd ["value"] (spText markS) := by
  refine F.ok scIsMark (fun vs H Q E h => ?_) (fun cdv A outer s H vs Q E hr h => ?_)
  · obtain ⟨z, rfl, _⟩ := h
    rfl
  · obtain ⟨z, rfl, hz, q⟩ := h
    refine ⟨_, pss_one (ps_ret (pe_and (pe_call gW hr (by rfl) aW.g aW.kp aW.b .nil pass0 (pa_cons (pv 0) pa_nil)) (pe_one (pe_cmpR op_gt (pe_callB call_len_str (by rfl) zn PySem.boot_len (pa_cons (pv 0) pa_nil)) pe_int (nomark _))))), ?_⟩
    refine ⟨_, rfl, z, rfl, hz, fun H' e => ?_⟩
    have q' := q H' e
    unfold markS at q'
    refine ⟨_, rfl, ?_⟩
    generalize nameS z = bw at q' ⊢
    cases bw with
    | false => exact q'
    | true =>
      rw [Bool.true_and] at q'
      refine ⟨_, rfl, z, rfl, small_size hz, _, _, rfl, rfl, ?_⟩
      rw [show decide (1 < z.length) = decide ((1 : Int) < (z.length : Nat)) from decide_eq_decide.mpr (by omega)] at q'
      exact q'
end
end Sl
/-! ## P5 -/
set_option Elab.async false
set_option linter.all false
set_option maxRecDepth 100000
set_option maxHeartbeats 4000000
namespace Sl
open PySem PySem.Spec PyProof.Rows L2
/-! ### moves and rows -/
/-- a move: the next state, what is told -/
abbrev Mv := Int × Option Str
def toldV : Option Str → V
  | none => .non
  | some z => .str z
/-- the tuple of a move at t -/
def MvAt (H : Hp) (t : Addr) (m : Mv) : Prop := H t = some (.tup [.int m.1, toldV m.2])
inductive Ents (H : Hp) : List (Str × Addr) → List (Str × Mv) → Prop
  | nil : Ents H [] []
  | cons {z : Str} {t : Addr} {m : Mv} {es : List (Str × Addr)} {r : List (Str × Mv)} : MvAt H t m → Ents H es r → Ents H ((z, t) :: es) ((z, m) :: r)
def kvsOf (es : List (Str × Addr)) : List (Key × V) := es.map fun e => (Sum.inr e.1, V.ref e.2)
/-- the dict of a state at d -/
def RowAt (H : Hp) (d : Addr) (r : List (Str × Mv)) : Prop := ∃ es, H d = some (.dK (kvsOf es)) ∧ Ents H es r
theorem Ents.ext {H H' : Hp} {es : List (Str × Addr)} {r : List (Str × Mv)} (h : ∀ t xs, H t = some (.tup xs) → H' t = some (.tup xs)) : Ents H es r → Ents H' es r
  | .nil => .nil
  | .cons m e => .cons (h _ _ m) (Ents.ext h e)
theorem Ents.len {H : Hp} : ∀ {es : List (Str × Addr)} {r : List (Str × Mv)}, Ents H es r → es.length = r.length
  | _, _, .nil => rfl
  | _, _, .cons _ e => congrArg (· + 1) e.len
theorem Ents.at_ {H : Hp} : ∀ {es : List (Str × Addr)} {r : List (Str × Mv)} {i : Nat} {e : Str × Addr}, Ents H es r → es[i]? = some e → ∃ m, r[i]? = some (e.1, m) ∧ MvAt H e.2 m
  | _, _, 0, _, .cons (m := m) h _, q => by
    cases q
    exact ⟨m, rfl, h⟩
  | _, _, i + 1, _, .cons _ h, q => h.at_ (i := i) q
  | _, _, 0, _, .nil, q => by cases q
  | _, _, i + 1, _, .nil, q => by cases q
/-- a move that a reader of n states may have -/
def okMv (n : Int) (m : Mv) : Prop := (0 ≤ m.1 ∧ m.1 < n) ∧ ∀ z, m.2 = some z → nameS z = true ∧ z.length ≤ 8
def okRow (n : Int) (r : List (Str × Mv)) : Prop := ∀ e ∈ r, (signS e.1 = true ∧ e.1.length = 1) ∧ okMv n e.2
/-- a right move, and what stood stands -/
def spIsMove : Sp := fun vs H Q _ => ∃ (t : Addr) (m : Mv) (n : Int), vs = [.ref t, .int n] ∧ MvAt H t m ∧ okMv n m ∧ ∀ H', Ext H H' → Q (.bl true) H'
/-- a right row -/
def spIsRow : Sp := fun vs H Q _ => ∃ (d : Addr) (r : List (Str × Mv)) (n : Int), vs = [.ref d, .int n] ∧ RowAt H d r ∧ okRow n r ∧ r.length ≤ 100 ∧ ∀ H', Ext H H' → Q (.bl true) H'
section
variable {P : Program} {w : World} {K : PySem.W.Frag} {mg : Str → Option Value} {base : Heap}
theorem scIsMove : FnScope ["value", "many", "after", "told"] ["value", "many"] (defScope sIsMove) := ⟨rfl, rfl, rfl, by decide +kernel, rfl, by decide +kernel, by decide +kernel⟩
theorem ok_ismove {f fB fN : Addr} {fd fdB fdN : FuncData} (F : Fun K "_is_move" "_is_move" sIsMove f fd) (aB : At K mg "is_below" fB fdB ["value", "limit"] []) (gB : FnOk P w K mg base CX0 2 fB fdB ["value", "limit"] (spBelow K))
    (aN : At K mg "is_name" fN fdN ["value"] []) (gN : FnOk P w K mg base CX0 2 fN fdN ["value"] (spText nameS)) (zz : mg "isinstance" = none) (zt : mg "tuple" = none) (zn : mg "len" = none) :
    FnOk P w K mg base CX0 3 f fd ["value", "many"] spIsMove := by
  refine F.ok scIsMove (fun vs H Q E h => ?_) (fun cdv A outer s H vs Q E hr h => ?_)
  · obtain ⟨t, m, n, rfl, _⟩ := h
    rfl
  · obtain ⟨t, ⟨g, o⟩, n, rfl, ht, ⟨hg, ho⟩, q⟩ := h
    have ht : H t = some (.tup [.int g, toldV o]) := ht
    refine ⟨_, pss_cons (ps_if (PW.pt (pw_or (pt_not (pt_val (pe_callB call_isi (by rfl) zz (by decide +kernel) (pa_cons (pv 0) (pa_cons (pe_bltn (by rfl) zt (by decide +kernel) (rel_ty "tuple")) pa_nil)))))
          (pw_or1 (pt_cmpR op_ne (pe_callB call_len_seq (by rfl) zn PySem.boot_len (pa_cons (pv 0) pa_nil)) pe_int (nomark _))))) (pss_one (ps_ret pe_bl)) pss_nil)
      (pss_cons (ps_asg (pv 0) (pg_tup (by rfl) (pgs_cons (pg_name (i := 2) scIsMove.nd rfl (.inl rfl)) (pgs_cons (pg_name (i := 3) scIsMove.nd rfl (.inl rfl)) pgs_nil))))
      (pss_one (ps_ret (pe_and (pe_call gB hr (by rfl) aB.g aB.kp aB.b .nil pass0 (pa_cons (pv 2) (pa_cons (pv 1) pa_nil)))
        (pe_one (pe_or (pe_cmpR op_isN (pv 3) pe_non (nomark _)) (pe_one (pe_call gN hr (by rfl) aN.g aN.kp aN.b .nil pass0 (pa_cons (pv 3) pa_nil))))))))), ?_⟩
    refine ⟨_, rfl, _, _, .type "tuple", _, true, rfl, .ty _, .base (.tup ht), kit_ty (by decide +kernel), true, rfl, ?_⟩
    refine iteF ?_
    refine ⟨_, rfl, t, _, rfl, .inr (SqT.of ht), rfl, _, rfl, ?_⟩
    refine iteNS (by rfl) ?_
    refine ⟨_, rfl, t, _, rfl, SqT.of ht, rfl, _, _, rfl, _, _, rfl, rfl, ?_⟩
    refine ⟨_, rfl, _, rfl, .int g, n, rfl, .inl ⟨g, rfl⟩, ?_⟩
    have e : below (.int g) n = true := by
      unfold below
      simp [hg.1, hg.2]
    rw [e]
    refine ⟨true, rfl, ?_⟩
    cases o with
    | none =>
      refine ⟨_, rfl, rfl, true, rfl, ?_⟩
      exact q H (Ext.refl H)
    | some z =>
      obtain ⟨h1, h2⟩ := ho z rfl
      refine ⟨_, rfl, rfl, false, rfl, ?_⟩
      refine ⟨_, rfl, z, rfl, by omega, fun H' e => ?_⟩
      rw [h1]
      exact q H' e
end
end Sl
/-! ## P6 -/
set_option Elab.async false
set_option linter.all false
set_option maxRecDepth 100000
set_option maxHeartbeats 4000000
namespace Sl
open PySem PySem.Spec PyProof.Rows L2
theorem small_list {n : Nat} (h : n ≤ 10000) : n < sizeLine := by
  rw [sizeLine_eq]
  omega
theorem kvs_at {es : List (Str × Addr)} {i : Nat} {x y : V} (h1 : (kvsOf es)[i]?.map (fun kv => kV kv.1) = some x) (h2 : (kvsOf es)[i]?.map Prod.snd = some y) : ∃ e, es[i]? = some e ∧ x = .str e.1 ∧ y = .ref e.2 := by
  unfold kvsOf at h1 h2
  rw [List.getElem?_map] at h1 h2
  cases e : es[i]? with
  | none =>
    rw [e] at h1
    cases h1
  | some e0 =>
    rw [e] at h1 h2
    exact ⟨e0, rfl, (Option.some.inj h1).symm, (Option.some.inj h2).symm⟩
section
variable {P : Program} {w : World} {K : PySem.W.Frag} {mg : Str → Option Value} {base : Heap}
theorem scIsRow : FnScope ["value", "many", "sign", "move"] ["value", "many"] (defScope sIsRow) := ⟨rfl, rfl, rfl, by decide +kernel, rfl, by decide +kernel, by decide +kernel⟩
theorem ok_isrow {f fS fM : Addr} {fd fdS fdM : FuncData} (F : Fun K "_is_reader_state" "_is_reader_state" sIsRow f fd) (aS : At K mg "is_sign" fS fdS ["value"] []) (gS : FnOk P w K mg base CX0 2 fS fdS ["value"] (spText signS))
    (aM : At K mg "_is_move" fM fdM ["value", "many"] []) (gM : FnOk P w K mg base CX0 3 fM fdM ["value", "many"] spIsMove) (zz : mg "isinstance" = none) (zd : mg "dict" = none) (za : mg "all" = none) :
    FnOk P w K mg base CX0 4 f fd ["value", "many"] spIsRow := by
  refine F.ok scIsRow (fun vs H Q E h => ?_) (fun cdv A outer s H vs Q E hr h => ?_)
  · obtain ⟨d, r, n, rfl, _⟩ := h
    rfl
  · obtain ⟨d, r, n, rfl, ⟨es, hd, he⟩, hok, hl, q⟩ := h
    refine ⟨_, pss_cons (ps_if (pt_not (pt_val (pe_callB call_isi (by rfl) zz (by decide +kernel) (pa_cons (pv 0) (pa_cons (pe_bltn (by rfl) zd (by decide +kernel) (rel_ty "dict")) pa_nil))))) (pss_one (ps_ret pe_bl)) pss_nil)
      (pss_one (ps_ret (pe_callB (cr_all rfl) (by rfl) za (by decide +kernel) (pa_cons (pe_lock (pe_lc (own := [("sign", 2), ("move", 3)]) (g := gTup K 2 (gCons (gName 2) (gCons (gName 3) gNil))) (tt := tYes) rfl scIsRow.nd (pi_items (pv 0)) (blkOk_by (N := ["value", "many", "sign", "move"]) (sc := defScope sIsRow) (by decide +kernel))
          (fun _ _ _ _ _ => pg_tup rfl (pgs_cons (pg_name (i := 2) scIsRow.nd rfl (Or.inl rfl)) (pgs_cons (pg_name (i := 3) scIsRow.nd rfl (Or.inl rfl)) pgs_nil))) (fun _ _ _ _ _ => pts_nil)
          (fun _ _ _ _ _ => pe_and (pe_call gS (hr.mono (by decide)) (by rfl) aS.g aS.kp aS.b .nil pass0 (pa_cons (pv 2) pa_nil)) (pe_one (pe_call gM hr (by rfl) aM.g aM.kp aM.b .nil pass0 (pa_cons (pv 3) (pa_cons (pv 1) pa_nil))))))) pa_nil)))), ?_⟩
    refine ⟨_, rfl, _, _, .type "dict", _, true, rfl, .ty _, .base (.dK hd), kit_ty (by decide +kernel), true, rfl, ?_⟩
    refine iteF ?_
    refine ⟨d, _, hd, trivial, fun od => ?_⟩
    refine ⟨_, rfl, d, od, _, rfl, upd_same, fun D hD => ?_⟩
    have ndD : d ≠ D := ne_of_none upd_same hD
    have hD0 : H D = none := by
      rw [upd_ne ndD.symm] at hD
      exact hD
    have hlen : es.length ≤ 100 := by
      rw [he.len]
      exact hl
    have tup : ∀ {H' : Hp}, Ext (upd H d (.frz od (.dK (kvsOf es)))) H' → ∀ t xs, H t = some (.tup xs) → H' t = some (.tup xs) := fun x t xs e => x _ _ (by
      rw [upd_ne (ne_of e hd (by intro z; cases z))]
      exact e)
    refine lc_it walk_items (fun i H' => Ext (upd H d (.frz od (.dK (kvsOf es)))) H' ∧ H' D = some (.lst ((List.replicate i true).map V.bl))) ⟨Ext.new hD, upd_same⟩ (fun i H' _ h => h.1 _ _ upd_same) ?_ ?_
    · rintro i x H1 H2 hi ⟨h1, h2⟩ ⟨T, x1, y1, rfl, nT, rfl, q1, q2⟩
      obtain ⟨e, he1, rfl, rfl⟩ := kvs_at q1 q2
      obtain ⟨m, hm, mt⟩ := he.at_ he1
      have hok1 := hok _ (List.mem_of_getElem? hm)
      have x1 := h1.trans (Ext.new nT (o := .tup [V.str e.1, V.ref e.2]))
      have hil : i < es.length := (List.getElem?_eq_some_iff.mp he1).1
      refine ⟨T, _, rfl, SqT.of upd_same, rfl, _, _, rfl, _, _, rfl, rfl, rfl, ?_⟩
      refine ⟨_, rfl, e.1, rfl, (by rw [hok1.1.2]; decide), fun H3 e3 => ?_⟩
      rw [hok1.1.1]
      refine ⟨true, rfl, ?_⟩
      refine ⟨_, rfl, _, rfl, e.2, m, n, rfl, tup (x1.trans e3) _ _ mt, hok1.2, fun H4 e4 => ?_⟩
      have x4 := (x1.trans e3).trans e4
      have hD4 : H4 D = some (.lst ((List.replicate i true).map V.bl)) := e4 _ _ (e3 _ _ ((Ext.new nT) _ _ h2))
      refine ⟨_, hD4, by rw [List.length_map, List.length_replicate]; exact small_list (by omega), fun b o eb => ?_, ?_⟩
      · rw [upd_ne (ne_of_none eb hD)]
        exact x4 _ _ eb
      · rw [upd_same, List.replicate_succ', List.map_append]
        rfl
    · rintro H' ⟨h1, h2⟩
      refine ⟨h1 _ _ upd_same, D, List.replicate (kvsOf es).length true, rfl, SqL.of (by rw [upd_ne ndD.symm]; exact h2), ?_⟩
      have e : (List.replicate (kvsOf es).length true).all id = true := by simp
      rw [e]
      refine q _ fun b o eb => ?_
      by_cases c : b = d
      · subst c
        rw [upd_same, ← hd, eb]
      · rw [upd_ne c]
        exact h1 _ _ (by rw [upd_ne c]; exact eb)
end
end Sl
/-! ## B1 -/
set_option Elab.async false
set_option linter.all false
set_option maxRecDepth 100000
set_option maxHeartbeats 4000000
/-! ascending lists of texts: two of the same texts are the same -/
namespace Sl
open PySem PySem.Spec PyProof.Rows
theorem cps_irr : ∀ a : List Nat, ltCps a a = false
  | [] => rfl
  | x :: a => by
    show (decide (x < x) || (x == x && ltCps a a)) = false
    rw [cps_irr a]
    simp
theorem cps_anti : ∀ {a b : List Nat}, ltCps a b = false → ltCps b a = false → a = b
  | [], [], _, _ => rfl
  | [], _ :: _, h, _ => by cases h
  | _ :: _, [], _, h => by cases h
  | x :: a, y :: b, h, k => by
    have h : (decide (x < y) || (x == y && ltCps a b)) = false := h
    have k : (decide (y < x) || (y == x && ltCps b a)) = false := k
    simp only [Bool.or_eq_false_iff, decide_eq_false_iff_not, Bool.and_eq_false_iff, beq_eq_false_iff_ne] at h k
    have e : x = y := by omega
    subst e
    rw [cps_anti (h.2.resolve_left fun z => z rfl) (k.2.resolve_left fun z => z rfl)]
theorem cps_trans : ∀ {a b c : List Nat}, ltCps b a = false → ltCps c b = false → ltCps c a = false
  | [], _, [], _, _ => rfl
  | [], [], _ :: _, _, k => by cases k; rfl
  | [], _ :: _, _ :: _, _, _ => rfl
  | _ :: _, [], _, h, _ => by cases h
  | _ :: _, _ :: _, [], _, k => by cases k
  | x :: a, y :: b, z :: c, h, k => by
    have h : (decide (y < x) || (y == x && ltCps b a)) = false := h
    have k : (decide (z < y) || (z == y && ltCps c b)) = false := k
    show (decide (z < x) || (z == x && ltCps c a)) = false
    simp only [Bool.or_eq_false_iff, decide_eq_false_iff_not, Bool.and_eq_false_iff, beq_eq_false_iff_ne] at h k ⊢
    refine ⟨by omega, ?_⟩
    by_cases e : z = x
    · refine .inr ?_
      have e1 : y = x := by omega
      have e2 : z = y := by omega
      exact cps_trans (h.2.resolve_left fun q => q e1) (k.2.resolve_left fun q => q e2)
    · exact .inl e
/-- a is not behind b -/
def leS (a b : Str) : Prop := ltCps b.cps.toList a.cps.toList = false
theorem leS_anti {a b : Str} (h : leS a b) (k : leS b a) : a = b := by
  have e : b.cps.toList = a.cps.toList := cps_anti h k
  have e2 : b.cps = a.cps := Array.toList_inj.mp e
  cases a
  cases b
  cases e2
  rfl
theorem leS_trans {a b c : Str} (h : leS a b) (k : leS b c) : leS a c := cps_trans h k
theorem pair_of_rising : ∀ {l : List Str} {p : Str}, risingS p l = true → (p :: l).Pairwise leS
  | [], p, _ => List.pairwise_singleton _ _
  | x :: l, p, h => by
    have h : (!ltCps x.cps.toList p.cps.toList && risingS x l) = true := h
    obtain ⟨h1, h2⟩ := Bool.and_eq_true_iff.mp h
    have hx : leS p x := by
      unfold leS
      cases e : ltCps x.cps.toList p.cps.toList with
      | false => rfl
      | true =>
        rw [e] at h1
        cases h1
    have ih := pair_of_rising h2
    refine List.pairwise_cons.mpr ⟨fun y hy => ?_, ih⟩
    rcases List.mem_cons.mp hy with rfl | hy
    · exact hx
    · exact leS_trans hx ((List.pairwise_cons.mp ih).1 y hy)
theorem pair_of_sorted : ∀ {l : List Str}, sortedS l = true → l.Pairwise leS
  | [], _ => .nil
  | _ :: _, h => pair_of_rising h
theorem asc_unique {α : Type} {r : α → α → Prop} : ∀ {l m : List α}, (∀ a ∈ l, ∀ b ∈ l, r a b → r b a → a = b) → l.Pairwise r → m.Pairwise r → l.Perm m → l = m
  | [], m, _, _, _, p => (p.symm.eq_nil).symm
  | x :: l, [], _, _, _, p => by cases p.eq_nil
  | x :: l, y :: m, anti, h, k, p => by
    obtain ⟨h1, h2⟩ := List.pairwise_cons.mp h
    obtain ⟨k1, k2⟩ := List.pairwise_cons.mp k
    have e : x = y := by
      have hx : x ∈ y :: m := p.mem_iff.mp List.mem_cons_self
      have hy : y ∈ x :: l := p.mem_iff.mpr List.mem_cons_self
      rcases List.mem_cons.mp hx with q | q
      · exact q
      rcases List.mem_cons.mp hy with q2 | q2
      · exact q2.symm
      exact anti x List.mem_cons_self y (List.mem_cons_of_mem _ q2) (h1 y q2) (k1 x q)
    subst e
    rw [asc_unique (fun a ha b hb => anti a (List.mem_cons_of_mem _ ha) b (List.mem_cons_of_mem _ hb)) h2 k2 ((List.perm_cons x).mp p)]
theorem sorted_unique {l m : List Str} (h : sortedS l = true) (k : sortedS m = true) (p : l.Perm m) : l = m := asc_unique (fun _ _ _ _ => leS_anti) (pair_of_sorted h) (pair_of_sorted k) p
theorem ints_unique {l m : List Int} (h : l.Pairwise (· ≤ ·)) (k : m.Pairwise (· ≤ ·)) (p : l.Perm m) : l = m := asc_unique (fun _ _ _ _ a b => Int.le_antisymm a b) h k p
/-- rows of the same entries by ascending keys are the same -/
theorem row_unique {α : Type} {r l m : List (Str × α)} (nd : (r.map (·.1)).Nodup) (pl : l.Perm r) (pm : m.Perm r) (sl : sortedS (l.map (·.1)) = true) (sm : sortedS (m.map (·.1)) = true) : l = m := by
  have inj : ∀ {q : List (Str × α)}, (q.map (·.1)).Nodup → ∀ a ∈ q, ∀ b ∈ q, a.1 = b.1 → a = b := by
    intro q
    induction q with
    | nil => intro _ a ha; cases ha
    | cons x q ih =>
      intro h a ha b hb e
      obtain ⟨h1, h2⟩ := List.nodup_cons.mp h
      rcases List.mem_cons.mp ha with e1 | ha' <;> rcases List.mem_cons.mp hb with e2 | hb'
      · rw [e1, e2]
      · exact (h1 (List.mem_map.mpr ⟨b, hb', by rw [← e, e1]⟩)).elim
      · exact (h1 (List.mem_map.mpr ⟨a, ha', by rw [e, e2]⟩)).elim
      · exact ih h2 a ha' b hb' e
  have ndl : (l.map (·.1)).Nodup := (pl.map _).nodup_iff.mpr nd
  refine asc_unique (r := fun a b => leS a.1 b.1) (fun a ha b hb h k => inj ndl a ha b hb (leS_anti h k)) ?_ ?_ (pl.trans pm.symm)
  · exact List.pairwise_map.mp (pair_of_sorted sl)
  · exact List.pairwise_map.mp (pair_of_sorted sm)
end Sl
/-! ## P7 -/
set_option Elab.async false
set_option linter.all false
set_option maxRecDepth 100000
set_option maxHeartbeats 4000000
namespace Sl
open PySem PySem.Spec PyProof.Rows L2
abbrev sCopied : Stmt := top 22
/-- a dict comprehension over any walk -/
theorem dc_it {J : It} {n : Nat} {G : Hp → Prop} {Y : Nat → Hp → V → Hp → Prop} (w : Walk J n G Y) {g : TG} {tt : TT} {tk tv : TE} {vs : List Nat} {σ : L2.St} {H1 : Hp} {D : Addr} {Qd : Hp → Prop} (Pv : Nat → Hp → Prop) (h0 : Pv 0 (upd H1 D (.dK []))) (hG : ∀ i H, i ≤ n → Pv i H → G H)
    (hs : ∀ i x H H', i < n → Pv i H → Y i H x H' → g x (wipe σ vs) H' fun σ2 H2 => wipe σ2 vs = wipe σ vs ∧ tt σ2 H2 fun b H3 =>
      if b = true then tk σ2 H3 fun y H4 => tv σ2 H4 fun z H5 => ∃ kvs k, y = kV k ∧ H5 D = some (.dK kvs) ∧ kvs.length < sizeLine ∧ Pv (i + 1) (upd H5 D (.dK (putK kvs k z))) else Pv (i + 1) H3) (hd : ∀ H, Pv n H → Qd H) :
    ∃ W : Nat → Nat → Hp → Prop, (∃ m, W 0 m (upd H1 D (.dK []))) ∧ ∀ i m H, W i m H →
      (J.stop i H ∧ Qd H) ∨ (J.go i H ∧ ∃ Nx : Hp → Prop, (∀ H', Nx H' → ∃ m', m' < m ∧ W (i + 1) m' H') ∧ ∀ x H', J.yld i H x H' → g x (wipe σ vs) H' fun σ2 H2 => wipe σ2 vs = wipe σ vs ∧ tt σ2 H2 fun b H3 =>
        if b = true then tk σ2 H3 fun y H4 => tv σ2 H4 fun z H5 => ∃ kvs k, y = kV k ∧ H5 D = some (.dK kvs) ∧ kvs.length < sizeLine ∧ Nx (upd H5 D (.dK (putK kvs k z))) else Nx H3) := by
  refine ⟨fun i m H => m = n - i ∧ i ≤ n ∧ Pv i H, ⟨n, by simp, Nat.zero_le _, h0⟩, fun i m H z => ?_⟩
  obtain ⟨rfl, hi, p⟩ := z
  by_cases hlt : i < n
  · exact .inr ⟨w.goes i H hlt (hG i H hi p), Pv (i + 1), fun H' p' => ⟨n - (i + 1), by omega, rfl, hlt, p'⟩, fun x H' y => hs i x H H' hlt p (w.yields i H x H' hlt (hG i H hi p) y)⟩
  · obtain rfl : i = n := by omega
    exact .inl ⟨w.stops H (hG i H hi p), hd H p⟩
/-- as many, each once, all among them -/
theorem perm_sub {α : Type} [BEq α] [LawfulBEq α] : ∀ {l ws : List α}, l.Nodup → (∀ k ∈ l, k ∈ ws) → ws.length = l.length → ws.Perm l
  | [], ws, _, _, e => by rw [List.eq_nil_of_length_eq_zero e]
  | x :: l, ws, nd, h, e => by
    obtain ⟨nx, nd'⟩ := List.nodup_cons.mp nd
    have p := List.perm_cons_erase (h x List.mem_cons_self)
    have hl : (ws.erase x).length = l.length := by
      have q := p.length_eq
      rw [List.length_cons] at q e
      omega
    exact p.trans ((perm_sub nd' (fun k hk => (List.mem_erase_of_ne (fun z => nx (by rw [← z]; exact hk))).mpr (h k (List.mem_cons_of_mem _ hk))) hl).cons x)
theorem nodup_of_keys {α β : Type} : ∀ {l : List (α × β)}, (l.map (·.1)).Nodup → l.Nodup
  | [], _ => List.nodup_nil
  | x :: l, h => by
    obtain ⟨h1, h2⟩ := List.nodup_cons.mp h
    exact List.nodup_cons.mpr ⟨fun m => h1 (List.mem_map.mpr ⟨x, m, rfl⟩), nodup_of_keys h2⟩
/-- the value at a key that stands once -/
theorem val_at : ∀ {es : List (Str × Addr)} {z : Str} {t : Addr}, (es.map (·.1)).Nodup → (z, t) ∈ es → valV (kvsOf es) (Sum.inr z : Key) = some (.ref t)
  | [], _, _, _, h => by cases h
  | e :: es, z, t, nd, h => by
    obtain ⟨h1, h2⟩ := List.nodup_cons.mp nd
    rcases List.mem_cons.mp h with q | q
    · subst q
      exact valV_pos rfl
    · have ne : ¬ (Sum.inr e.1 : Key) = Sum.inr z := fun k => h1 (by
        injection k with k
        exact List.mem_map.mpr ⟨_, q, k.symm⟩)
      exact (valV_neg ne).trans (val_at h2 q)
theorem val_no : ∀ {es : List (Str × Addr)} {z : Str}, z ∉ es.map (·.1) → valV (kvsOf es) (Sum.inr z : Key) = none
  | [], _, _ => rfl
  | e :: es, z, h => by
    have ne : ¬ (Sum.inr e.1 : Key) = Sum.inr z := fun k => h (by
      injection k with k
      exact List.mem_map.mpr ⟨e, List.mem_cons_self, k⟩)
    exact (valV_neg ne).trans (val_no fun m => h (List.mem_cons_of_mem _ m))
theorem Ents.keys {H : Hp} : ∀ {es : List (Str × Addr)} {r : List (Str × Mv)}, Ents H es r → es.map (·.1) = r.map (·.1)
  | _, _, .nil => rfl
  | _, _, .cons _ e => congrArg _ e.keys
theorem Ents.mem {H : Hp} : ∀ {es : List (Str × Addr)} {r : List (Str × Mv)} {z : Str}, Ents H es r → z ∈ es.map (·.1) → ∃ t m, (z, t) ∈ es ∧ (z, m) ∈ r ∧ MvAt H t m
  | _, _, _, .nil, h => by cases h
  | _, _, z, .cons (z := y) (t := t) (m := m) h e, q => by
    rcases List.mem_cons.mp q with k | k
    · have k : z = y := k
      subst k
      exact ⟨t, m, List.mem_cons_self, List.mem_cons_self, h⟩
    · obtain ⟨t', m', a, b, c⟩ := e.mem k
      exact ⟨t', m', List.mem_cons_of_mem _ a, List.mem_cons_of_mem _ b, c⟩
theorem Ents.snoc {H : Hp} {z : Str} {t : Addr} {m : Mv} : ∀ {es : List (Str × Addr)} {r : List (Str × Mv)}, Ents H es r → MvAt H t m → Ents H (es ++ [(z, t)]) (r ++ [(z, m)])
  | _, _, .nil, h => .cons h .nil
  | _, _, .cons a e, h => .cons a (e.snoc h)
def rTupT (K : PySem.W.Frag) : List V → Hp → VK → Prop := fun xs H Q => ∃ a ys, xs = [V.ref a] ∧ SqT K H a ys ∧ Q (.ref a) H
/-- the row again, as a new dict -/
def spCopied : Sp := fun vs H Q _ => ∃ (d : Addr) (r : List (Str × Mv)), vs = [.ref d] ∧ RowAt H d r ∧ (r.map (·.1)).Nodup ∧ r.length < 64 ∧
  ∀ (H' : Hp) (p : Addr) (r' : List (Str × Mv)), Ext H H' → H p = none → RowAt H' p r' → r'.Perm r → sortedS (r'.map (·.1)) = true → Q (.ref p) H'
section
variable {P : Program} {w : World} {K : PySem.W.Frag} {mg : Str → Option Value} {base : Heap}
theorem scCopied : FnScope ["state", "sign"] ["state"] (defScope sCopied) := ⟨rfl, rfl, rfl, by decide +kernel, rfl, by decide +kernel, by decide +kernel⟩
theorem ok_copied {f : Addr} {fd : FuncData} (F : Fun K "_copied_state" "_copied_state" sCopied f fd) (zs : mg "sorted" = none) (zt : mg "tuple" = none) : FnOk P w K mg base CX0 1 f fd ["state"] spCopied := by
  refine F.ok scCopied (fun vs H Q E h => ?_) (fun cdv A outer s H vs Q E hr h => ?_)
  · obtain ⟨d, r, rfl, _⟩ := h
    rfl
  · obtain ⟨d, r, rfl, ⟨es, hd, he⟩, nd, hl, q⟩ := h
    have hu := hu_of hr
    refine ⟨_, pss_one (ps_ret (pe_dc (own := [("sign", 1)]) (g := gName 1) (tt := tYes) rfl scCopied.nd (pi_list (pe_callB (call_sortedD rfl) (by rfl) zs (by decide +kernel) (pa_cons (pv 0) pa_nil))) (blkOk_by (N := ["state", "sign"]) (sc := defScope sCopied) (by decide +kernel))
          (fun _ _ _ _ _ => pg_name (i := 1) scCopied.nd rfl (Or.inl rfl)) (fun _ _ _ _ _ => pts_nil) (fun _ _ _ _ _ => pv 1) (fun _ _ _ _ _ => pe_callTy (T := "tuple") (r := rTupT K) call_tupleT (by rfl) zt (by decide +kernel) (pa_cons (pe_dget hu (pv 0) (pv 1) (fun _ _ => rfl)) pa_nil)))), ?_⟩
    have ek := he.keys
    have nde : (es.map (·.1)).Nodup := by
      rw [ek]
      exact nd
    refine ⟨_, rfl, d, _, es.map (·.1), rfl, Rd.of hd, (by unfold kvsOf; rw [List.map_map, List.map_map]; rfl), (by rw [List.length_map, he.len]; exact hl), fun ys L pm sr hL => ?_⟩
    have ly : ys.length < 64 := by
      rw [pm.length_eq, List.length_map, he.len]
      exact hl
    refine ⟨L, rfl, ⟨_, SqL.of upd_same⟩, fun D hD => ?_⟩
    have nLD : L ≠ D := ne_of_none upd_same hD
    have hD0 : H D = none := (Ext.new hL).free hD
    refine dc_it (walk_list (xs := ys.map V.str)) (fun i H' => (Ext H H' ∧ H' L = some (.lst (ys.map V.str))) ∧ ∃ es' r', H' D = some (.dK (kvsOf es')) ∧ Ents H' es' r' ∧ r'.map (·.1) = ys.take i ∧ ∀ e ∈ r', e ∈ r) ⟨⟨(Ext.new hL).trans (Ext.new hD), by rw [upd_ne nLD]; exact upd_same⟩, [], [], upd_same, .nil, rfl, fun e h => by cases h⟩ (fun i H' _ h => SqL.of h.1.2) ?_ ?_
    · rintro i x H1 H2 hi ⟨⟨h1, h1'⟩, es', r', h2, h3, h4, h5⟩ ⟨rfl, hx⟩
      obtain ⟨z, hz, rfl⟩ := at_map hx
      have hzm : z ∈ es.map (·.1) := pm.mem_iff.mp (List.mem_of_getElem? hz)
      obtain ⟨t, m, m1, m2, m3⟩ := he.mem hzm
      have hil : i < ys.length := (List.getElem?_eq_some_iff.mp hz).1
      have hg : DGet H2 d (V.str z) (some (.ref t)) := by
        rw [← val_at nde m1]
        exact DGet.k (k := Sum.inr z) (h1 _ _ hd)
      have lr : r'.length ≤ i := by
        have k := congrArg List.length h4
        rw [List.length_map, List.length_take] at k
        omega
      have hnew : z ∉ es'.map (·.1) := by
        rw [h3.keys, h4]
        intro k
        have ndy : ys.Nodup := pm.nodup_iff.mpr nde
        obtain ⟨j, hj, e⟩ := List.mem_iff_getElem.mp k
        rw [List.length_take] at hj
        rw [List.getElem_take] at e
        have e2 : ys[i]'hil = z := (List.getElem?_eq_some_iff.mp hz).2
        have := (List.getElem_inj ndy).mp (e.trans e2.symm)
        omega
      refine ⟨rfl, _, rfl, _, rfl, _, rfl, d, _, rfl, hg, t, _, rfl, SqT.of (h1 _ _ m3), _, Sum.inr z, rfl, h2, by unfold kvsOf; rw [List.length_map, h3.len]; exact small_list (by omega), ?_⟩
      rw [putK_new _ (val_no hnew)]
      have nDx : ∀ b o, H b = some o → b ≠ D := fun b o e => ne_of_none e hD0
      refine ⟨⟨fun b o e => by rw [upd_ne (nDx b o e)]; exact h1 b o e, by rw [upd_ne nLD]; exact h1'⟩, es' ++ [(z, t)], r' ++ [(z, m)], ?_, (Ents.ext (fun u xs e => ?_) h3).snoc ?_, ?_, fun e h => ?_⟩
      · rw [upd_same]
        unfold kvsOf
        rw [List.map_append]
        rfl
      · rw [upd_ne (ne_of e h2 (by intro z; cases z))]
        exact e
      · show upd _ D _ t = _
        rw [upd_ne (nDx t _ m3)]
        exact h1 _ _ m3
      · rw [List.map_append, h4, take_more hz]
        rfl
      · rcases List.mem_append.mp h with k | k
        · exact h5 e k
        · rw [List.mem_singleton.mp k]
          exact m2
    · rintro H' ⟨⟨h1, _⟩, es', r', h2, h3, h4, h5⟩
      rw [List.length_map, List.take_length] at h4
      refine q H' D r' h1 hD0 ⟨es', h2, h3⟩ ?_ (by rw [h4]; exact sr)
      have nr' : (r'.map (·.1)).Nodup := by
        rw [h4]
        exact pm.nodup_iff.mpr nde
      have el : r'.length = r.length := by
        have k := congrArg List.length h4
        rw [List.length_map] at k
        rw [k, pm.length_eq, List.length_map, he.len]
      exact (perm_sub (nodup_of_keys nr') h5 el.symm).symm
end
end Sl
/-! ## P8 -/
set_option Elab.async false
set_option linter.all false
set_option maxRecDepth 100000
set_option maxHeartbeats 4000000
namespace TxS
open PySem PySem.Spec PyProof.Rows L2
/-! ### the reading of a set comprehension of two clauses -/
theorem sc2_in {P : Program} {w : World} {J1 : It} {n : Nat} {G : Hp → Prop} {Y : Nat → Hp → V → Hp → Prop} (wk : Walk J1 n G Y) {D : Addr} {g1 : TG} {tt1 : TT} {te : TE} {vs1 : List Nat} {σ2 : L2.St} {Hf : Hp} {Nx : Hp → Prop} (Pv : Nat → Hp → Prop) (h0 : Pv 0 Hf) (hG : ∀ j H, j ≤ n → Pv j H → G H)
    (hs : ∀ j x H H', j < n → Pv j H → Y j H x H' → g1 x (wipe σ2 vs1) H' fun σ3 Hi => wipe σ3 vs1 = wipe σ2 vs1 ∧ tt1 σ3 Hi fun b Hj => if b = true then te σ3 Hj (Adds P w D (Pv (j + 1))) else Pv (j + 1) Hj) (hd : ∀ H, Pv n H → Nx H) :
    ∃ W1 : Nat → Nat → Hp → Prop, (∃ m, W1 0 m Hf) ∧ ∀ j k Hg, W1 j k Hg → (J1.stop j Hg ∧ Nx Hg) ∨
      (J1.go j Hg ∧ ∃ Nx1 : Hp → Prop, (∀ Hh, Nx1 Hh → ∃ k', k' < k ∧ W1 (j + 1) k' Hh) ∧ ∀ x Hh, J1.yld j Hg x Hh → g1 x (wipe σ2 vs1) Hh fun σ3 Hi => wipe σ3 vs1 = wipe σ2 vs1 ∧ tt1 σ3 Hi fun b Hj =>
        if b = true then te σ3 Hj (Adds P w D Nx1) else Nx1 Hj) := by
  refine ⟨fun j k H => k = n - j ∧ j ≤ n ∧ Pv j H, ⟨n, by simp, Nat.zero_le _, h0⟩, fun j k H z => ?_⟩
  obtain ⟨rfl, hj, p⟩ := z
  by_cases hlt : j < n
  · exact .inr ⟨wk.goes j H hlt (hG j H hj p), Pv (j + 1), fun H' p' => ⟨n - (j + 1), by omega, rfl, hlt, p'⟩, fun x H' y => hs j x H H' hlt p (wk.yields j H x H' hlt (hG j H hj p) y)⟩
  · obtain rfl : j = n := by omega
    exact .inl ⟨wk.stops H (hG j H hj p), hd H p⟩
theorem sc2_out {P : Program} {w : World} {J : It} {n : Nat} {G : Hp → Prop} {Y : Nat → Hp → V → Hp → Prop} (wk : Walk J n G Y) {D : Addr} {g g1 : TG} {tt tt1 : TT} {te : TE} {wi1 : TI} {vs vs1 : List Nat} {σ : L2.St} {Ha : Hp} {Qd : Hp → Prop} (Pv : Nat → Hp → Prop) (h0 : Pv 0 (upd Ha D (SetSO P w D []))) (hG : ∀ i H, i ≤ n → Pv i H → G H)
    (hs : ∀ i x H H', i < n → Pv i H → Y i H x H' → g x (wipe σ vs) H' fun σ2 Hd => wipe σ2 vs = wipe σ vs ∧ tt σ2 Hd fun b He =>
      if b = true then wi1 σ2 He fun J1 Hf => ∃ W1 : Nat → Nat → Hp → Prop, (∃ m, W1 0 m Hf) ∧ ∀ j k Hg, W1 j k Hg → (J1.stop j Hg ∧ Pv (i + 1) Hg) ∨
        (J1.go j Hg ∧ ∃ Nx1 : Hp → Prop, (∀ Hh, Nx1 Hh → ∃ k', k' < k ∧ W1 (j + 1) k' Hh) ∧ ∀ x Hh, J1.yld j Hg x Hh → g1 x (wipe σ2 vs1) Hh fun σ3 Hi => wipe σ3 vs1 = wipe σ2 vs1 ∧ tt1 σ3 Hi fun b Hj =>
          if b = true then te σ3 Hj (Adds P w D Nx1) else Nx1 Hj)
      else Pv (i + 1) He) (hd : ∀ H, Pv n H → Qd H) :
    ∃ W : Nat → Nat → Hp → Prop, (∃ m, W 0 m (upd Ha D (SetSO P w D []))) ∧ ∀ i m Hb, W i m Hb → (J.stop i Hb ∧ Qd Hb) ∨
      (J.go i Hb ∧ ∃ Nx : Hp → Prop, (∀ Hc, Nx Hc → ∃ m', m' < m ∧ W (i + 1) m' Hc) ∧ ∀ x Hc, J.yld i Hb x Hc → g x (wipe σ vs) Hc fun σ2 Hd => wipe σ2 vs = wipe σ vs ∧ tt σ2 Hd fun b He =>
        if b = true then wi1 σ2 He fun J1 Hf => ∃ W1 : Nat → Nat → Hp → Prop, (∃ m, W1 0 m Hf) ∧ ∀ j k Hg, W1 j k Hg → (J1.stop j Hg ∧ Nx Hg) ∨
          (J1.go j Hg ∧ ∃ Nx1 : Hp → Prop, (∀ Hh, Nx1 Hh → ∃ k', k' < k ∧ W1 (j + 1) k' Hh) ∧ ∀ x Hh, J1.yld j Hg x Hh → g1 x (wipe σ2 vs1) Hh fun σ3 Hi => wipe σ3 vs1 = wipe σ2 vs1 ∧ tt1 σ3 Hi fun b Hj =>
            if b = true then te σ3 Hj (Adds P w D Nx1) else Nx1 Hj)
        else Nx He) := by
  refine ⟨fun i m H => m = n - i ∧ i ≤ n ∧ Pv i H, ⟨n, by simp, Nat.zero_le _, h0⟩, fun i m H z => ?_⟩
  obtain ⟨rfl, hi, p⟩ := z
  by_cases hlt : i < n
  · exact .inr ⟨wk.goes i H hlt (hG i H hi p), Pv (i + 1), fun H' p' => ⟨n - (i + 1), by omega, rfl, hlt, p'⟩, fun x H' y => hs i x H H' hlt p (wk.yields i H x H' hlt (hG i H hi p) y)⟩
  · obtain rfl : i = n := by omega
    exact .inl ⟨wk.stops H (hG i H hi p), hd H p⟩
/-! ### several dicts under a lock -/
def lockN : Nat → TE → TE
  | 0, t => t
  | n + 1, t => tLockE (lockN n t)
theorem pe_lockN {X : Cx} {e : Expr} {t : TE} (h : PE X e t) : ∀ n, PE X e (lockN n t)
  | 0 => h
  | n + 1 => pe_lock (pe_lockN h n)
/-- the dicts ds are locked -/
def lockH (od : Addr → Obj) (ds : List Addr) (H : Hp) : Hp := fun b => if b ∈ ds then (H b).map (HO.frz (od b)) else H b
/-- .. unlocked again -/
def freeH (ds : List Addr) (H H' : Hp) : Hp := fun b => if b ∈ ds then H b else H' b
theorem lockN_read {t : TE} {σ : L2.St} : ∀ {ds : List Addr} {H : Hp} {Q : VK}, ds.Nodup → (∀ d ∈ ds, ∃ kvs, H d = some (.dK kvs)) →
    (∀ od, t σ (lockH od ds H) fun v H' => (∀ d ∈ ds, H' d = lockH od ds H d) ∧ Q v (freeH ds H H')) → lockN ds.length t σ H Q
  | [], H, Q, _, _, h => by
    have e : lockH (fun _ => { cls := .none, data := .fields #[] }) [] H = H := by
      funext b
      unfold lockH
      rw [if_neg (by simp)]
    have q := h fun _ => { cls := .none, data := .fields #[] }
    rw [e] at q
    have e2 : (fun v H' => (∀ d ∈ ([] : List Addr), H' d = H d) ∧ Q v (freeH [] H H')) = Q := by
      funext v H'
      have e3 : freeH [] H H' = H' := by
        funext b
        unfold freeH
        rw [if_neg (by simp)]
      rw [e3]
      exact propext ⟨fun z => z.2, fun z => ⟨fun d hd => (nomatch hd), z⟩⟩
    rw [e2] at q
    exact q
  | d :: ds, H, Q, nd, hk, h => by
    obtain ⟨nd1, nd2⟩ := List.nodup_cons.mp nd
    obtain ⟨kvs, hd⟩ := hk d List.mem_cons_self
    refine ⟨d, _, hd, trivial, fun o0 => lockN_read nd2 (fun x hx => ?_) fun od' => ?_⟩
    · obtain ⟨k2, e⟩ := hk x (List.mem_cons_of_mem _ hx)
      exact ⟨k2, by rw [upd_ne (fun z => nd1 (by rw [← z]; exact hx))]; exact e⟩
    · have hL : lockH od' ds (upd H d (.frz o0 (.dK kvs))) = lockH (fun b => if b = d then o0 else od' b) (d :: ds) H := by
        funext b
        unfold lockH
        by_cases c : b = d
        · subst c
          rw [if_neg nd1, if_pos List.mem_cons_self, upd_same, hd]
          show some (HO.frz o0 (.dK kvs)) = some (HO.frz (if b = b then o0 else od' b) (.dK kvs))
          rw [if_pos rfl]
        · have e : (if b = d then o0 else od' b) = od' b := if_neg c
          show _ = if b ∈ d :: ds then Option.map (HO.frz (if b = d then o0 else od' b)) (H b) else H b
          rw [upd_ne c, e]
          by_cases c2 : b ∈ ds
          · rw [if_pos c2, if_pos (List.mem_cons_of_mem _ c2)]
          · rw [if_neg c2, if_neg (fun z => (List.mem_cons.mp z).elim c c2)]
      have q := h fun b => if b = d then o0 else od' b
      rw [← hL] at q
      have e2 : (fun v H' => (∀ x ∈ d :: ds, H' x = lockH od' ds (upd H d (.frz o0 (.dK kvs))) x) ∧ Q v (freeH (d :: ds) H H')) =
          fun v H' => (∀ x ∈ ds, H' x = lockH od' ds (upd H d (.frz o0 (.dK kvs))) x) ∧ (freeH ds (upd H d (.frz o0 (.dK kvs))) H' d = some (.frz o0 (.dK kvs)) ∧ Q v (upd (freeH ds (upd H d (.frz o0 (.dK kvs))) H') d (.dK kvs))) := by
        funext v H'
        have f1 : freeH ds (upd H d (.frz o0 (.dK kvs))) H' d = H' d := if_neg nd1
        have f2 : upd (freeH ds (upd H d (.frz o0 (.dK kvs))) H') d (.dK kvs) = freeH (d :: ds) H H' := by
          funext b
          by_cases c : b = d
          · subst c
            rw [upd_same]
            unfold freeH
            rw [if_pos List.mem_cons_self, hd]
          · rw [upd_ne c]
            unfold freeH
            by_cases c2 : b ∈ ds
            · rw [if_pos c2, if_pos (List.mem_cons_of_mem _ c2), upd_ne c]
            · rw [if_neg c2, if_neg (fun z => (List.mem_cons.mp z).elim c c2)]
        have f3 : lockH od' ds (upd H d (.frz o0 (.dK kvs))) d = some (.frz o0 (.dK kvs)) := by
          unfold lockH
          rw [if_neg nd1, upd_same]
        rw [f1, f2]
        exact propext ⟨fun z => ⟨fun x hx => z.1 x (List.mem_cons_of_mem _ hx), (z.1 d List.mem_cons_self).trans f3, z.2⟩,
          fun z => ⟨fun x hx => (List.mem_cons.mp hx).elim (fun e => by rw [e, f3]; exact z.2.1) (z.1 x), z.2.2⟩⟩
      rw [e2] at q
      exact q
end TxS
/-! ## P9 -/
set_option Elab.async false
set_option linter.all false
set_option maxRecDepth 100000
set_option maxHeartbeats 4000000
namespace Sl
open PySem PySem.Spec PyProof.Rows L2 TxS
abbrev sCollect : Stmt := inClass (top 23) 2
abbrev Rw := List (Str × Mv)
inductive RowsAt (H : Hp) : List Addr → List Rw → Prop
  | nil : RowsAt H [] []
  | cons {d : Addr} {r : Rw} {ds : List Addr} {rows : List Rw} : RowAt H d r → RowsAt H ds rows → RowsAt H (d :: ds) (r :: rows)
theorem RowAt.same {H H' : Hp} {d : Addr} {r : Rw} (h : RowAt H d r) (e : H' d = H d) (t : ∀ t xs, H t = some (.tup xs) → H' t = some (.tup xs)) : RowAt H' d r := by
  obtain ⟨es, a, b⟩ := h
  exact ⟨es, e.trans a, b.ext t⟩
theorem RowsAt.ext {H H' : Hp} (x : Ext H H') : ∀ {ds : List Addr} {rows : List Rw}, RowsAt H ds rows → RowsAt H' ds rows
  | _, _, .nil => .nil
  | _, _, .cons ⟨es, a, b⟩ h => .cons ⟨es, x _ _ a, b.ext fun t xs e => x _ _ e⟩ (h.ext x)
theorem RowsAt.len {H : Hp} : ∀ {ds : List Addr} {rows : List Rw}, RowsAt H ds rows → ds.length = rows.length
  | _, _, .nil => rfl
  | _, _, .cons _ h => congrArg (· + 1) h.len
theorem RowsAt.at_ {H : Hp} : ∀ {ds : List Addr} {rows : List Rw} {i : Nat} {d : Addr}, RowsAt H ds rows → ds[i]? = some d → ∃ r, rows[i]? = some r ∧ RowAt H d r
  | _, _, 0, _, .cons (r := r) h _, q => by cases q; exact ⟨r, rfl, h⟩
  | _, _, i + 1, _, .cons _ h, q => h.at_ (i := i) q
  | _, _, 0, _, .nil, q => by cases q
  | _, _, i + 1, _, .nil, q => by cases q
def keysOf (rows : List Rw) : List Str := rows.flatMap fun r => r.map (·.1)
def toldsOf (rows : List Rw) : List Str := rows.flatMap fun r => r.filterMap fun e => e.2.2
theorem len_le : ∀ {l A : List Str}, l.Nodup → (∀ k ∈ l, k ∈ A) → l.length ≤ A.length
  | [], _, _, _ => Nat.zero_le _
  | x :: l, A, nd, h => by
    obtain ⟨nx, nd'⟩ := List.nodup_cons.mp nd
    have p := (List.perm_cons_erase (h x List.mem_cons_self)).length_eq
    have q := len_le (l := l) (A := A.erase x) nd' fun k hk => (List.mem_erase_of_ne (fun z => nx (by rw [← z]; exact hk))).mpr (h k (List.mem_cons_of_mem _ hk))
    rw [List.length_cons] at p ⊢
    omega
/-- a list that gathers: each once, of what is in S -/
def Gath (l : List Str) (S : List Str) : Prop := l.Nodup ∧ ∀ z, z ∈ l ↔ z ∈ S
theorem Gath.put {l S : List Str} {k : Str} (g : Gath l S) : Gath (if k ∈ l then l else k :: l) (S ++ [k]) := by
  by_cases c : k ∈ l
  · rw [if_pos c]
    refine ⟨g.1, fun z => ?_⟩
    rw [List.mem_append, g.2 z, List.mem_singleton]
    exact ⟨.inl, fun h => h.elim id fun e => by rw [e]; exact (g.2 k).mp c⟩
  · rw [if_neg c]
    refine ⟨List.nodup_cons.mpr ⟨c, g.1⟩, fun z => ?_⟩
    rw [List.mem_append, List.mem_cons, g.2 z, List.mem_singleton]
    exact Or.comm
theorem Gath.room {l S A : List Str} (g : Gath l S) (h : ∀ z ∈ S, z ∈ A) (hA : A.length < 64) : l.length < 64 ∧ l.length + 1 < scanBound := by
  have q := len_le g.1 fun k hk => h k ((g.2 k).mp hk)
  unfold scanBound
  exact ⟨by omega, by omega⟩
def tellsAll (r : Rw) : List Str := r.filterMap fun e => e.2.2
section
variable {P : Program} {w : World} {K : PySem.W.Frag} {mg : Str → Option Value} {base : Heap}
/-- the walk over all keys of all rows: state in slot 3, sign in slot 2 -/
theorem read_keys {s0 s1 s2 s3 s4 s5 : Option V} {H : Hp} {Q : VK} {ts : TE} {L : Addr} {ds : List Addr} {rows : List Rw} {A : List Str} (hts : ∀ (H0 : Hp) (Q : VK), H0 L = some (.lst (ds.map V.ref)) → (∀ b o, H b = some o → b ∉ ds → H0 b = some o) → Q (.ref L) H0 → ts [s0, s1, s2, s3, s4, s5] H0 Q)
    (hL : H L = some (.lst (ds.map V.ref))) (nd : ds.Nodup) (hr : RowsAt H ds rows) (hA : ∀ z ∈ keysOf rows, z ∈ A) (h64 : A.length < 64)
    (q : ∀ (H' : Hp) (D : Addr) (l : List Str), Ext H H' → H D = none → H' D = some (SetSO P w D l) → Gath l (keysOf rows) → Q (.ref D) H') :
    lockN ds.length (tSc2 P w (iList K ts) (gName 3) tYes (iKeys (tVar 3)) (gName 2) tYes (tVar 2) [2, 3] [2]) [s0, s1, s2, s3, s4, s5] H Q := by
  refine lockN_read nd (fun d hd => ?_) fun od => ?_
  · obtain ⟨i, hi, e⟩ := List.mem_iff_getElem.mp hd
    obtain ⟨r, _, es, a, _⟩ := hr.at_ (i := i) (d := d) (by rw [List.getElem?_eq_getElem hi, e])
    exact ⟨_, a⟩
  · have hLd : L ∉ ds := fun hm => by
      obtain ⟨i, hi, e⟩ := List.mem_iff_getElem.mp hm
      obtain ⟨r, _, es, a, _⟩ := hr.at_ (i := i) (d := L) (by rw [List.getElem?_eq_getElem hi, e])
      rw [hL] at a
      cases a
    have out : ∀ b o, H b = some o → b ∉ ds → lockH od ds H b = some o := fun b o e n => by
      unfold lockH
      rw [if_neg n]
      exact e
    have hL0 := out L _ hL hLd
    refine hts _ _ hL0 out ⟨L, rfl, ⟨_, SqL.of hL0⟩, fun D hD => ?_⟩
    have hDd : D ∉ ds := fun hm => by
      obtain ⟨i, hi, e⟩ := List.mem_iff_getElem.mp hm
      obtain ⟨r, _, es, a, _⟩ := hr.at_ (i := i) (d := D) (by rw [List.getElem?_eq_getElem hi, e])
      unfold lockH at hD
      rw [if_pos hm, a] at hD
      cases hD
    have hDH : H D = none := by
      unfold lockH at hD
      rw [if_neg hDd] at hD
      exact hD
    refine sc2_out (walk_list (xs := ds.map V.ref)) (fun i H' => Ext (lockH od ds H) H' ∧ ∃ l, H' D = some (SetSO P w D l) ∧ Gath l (keysOf (rows.take i))) ⟨Ext.new hD, [], upd_same, List.nodup_nil, fun z => by simp [keysOf]⟩ (fun i H' _ h => SqL.of (h.1 _ _ hL0)) ?_ ?_
    · rintro i x H1 H2 hi ⟨h1, l, h2, h3⟩ ⟨rfl, hx⟩
      obtain ⟨d, hd, rfl⟩ := at_map hx
      obtain ⟨r, hri, es, he1, he2⟩ := hr.at_ hd
      have hdm := List.mem_of_getElem? hd
      have hdl : lockH od ds H d = some (.frz (od d) (.dK (kvsOf es))) := by
        unfold lockH
        rw [if_pos hdm, he1]
        rfl
      refine ⟨rfl, _, rfl, d, od d, rfl, .inl ⟨kvsOf es, h1 _ _ hdl, ?_⟩⟩
      have ek := he2.keys
      refine sc2_in walk_keys (fun j H' => Ext (lockH od ds H) H' ∧ ∃ l, H' D = some (SetSO P w D l) ∧ Gath l (keysOf (rows.take i) ++ (r.map (·.1)).take j)) ⟨h1, l, h2, by rw [List.take_zero, List.append_nil]; exact h3⟩ (fun j H' _ h => h.1 _ _ hdl) ?_ ?_
      · rintro j x H3 H4 hj ⟨g1, l', g2, g3⟩ ⟨rfl, k, v, hk, rfl⟩
        unfold kvsOf at hk
        rw [List.getElem?_map] at hk
        cases e : es[j]? with
        | none =>
          rw [e] at hk
          cases hk
        | some e0 =>
          rw [e] at hk
          have hk := Option.some.inj hk
          obtain ⟨rfl, rfl⟩ := Prod.mk.inj hk
          have hz : (r.map (·.1))[j]? = some e0.1 := by
            rw [← ek, List.getElem?_map, e]
            rfl
          have sub : ∀ z ∈ keysOf (rows.take i) ++ (r.map (·.1)).take j, z ∈ A := fun z hz => hA z (by
            unfold keysOf at hz ⊢
            rcases List.mem_append.mp hz with c | c
            · obtain ⟨r0, hr0, hz0⟩ := List.mem_flatMap.mp c
              exact List.mem_flatMap.mpr ⟨r0, List.mem_of_mem_take hr0, hz0⟩
            · exact List.mem_flatMap.mpr ⟨r, List.mem_of_getElem? hri, List.mem_of_mem_take c⟩)
          refine ⟨rfl, _, rfl, e0.1, l', rfl, g2, (g3.room sub h64).2, fun b o eb => by rw [upd_ne (ne_of_none eb hD)]; exact g1 b o eb, _, upd_same, ?_⟩
          rw [take_more hz, ← List.append_assoc]
          exact g3.put
      · rintro H3 ⟨g1, l', g2, g3⟩
        refine ⟨g1, l', g2, ?_⟩
        have e1 : (kvsOf es).length = (r.map (·.1)).length := by
          unfold kvsOf
          rw [List.length_map, List.length_map, he2.len]
        rw [e1, List.take_length] at g3
        have e2 : keysOf (rows.take (i + 1)) = keysOf (rows.take i) ++ r.map (·.1) := by
          unfold keysOf
          rw [take_more hri, List.flatMap_append]
          simp
        rw [e2]
        exact g3
    · rintro H' ⟨h1, l, h2, h3⟩
      rw [List.length_map, hr.len, List.take_length] at h3
      refine ⟨fun d hd => ?_, q _ D l (fun b o e => ?_) hDH ?_ h3⟩
      · obtain ⟨i, hi, e⟩ := List.mem_iff_getElem.mp hd
        obtain ⟨r, _, es, a, _⟩ := hr.at_ (i := i) (d := d) (by rw [List.getElem?_eq_getElem hi, e])
        have k : lockH od ds H d = some (.frz (od d) (.dK (kvsOf es))) := by
          unfold lockH
          rw [if_pos hd, a]
          rfl
        rw [k]
        exact h1 _ _ k
      · unfold freeH
        by_cases c : b ∈ ds
        · rw [if_pos c]
          exact e
        · rw [if_neg c]
          exact h1 _ _ (out _ _ e c)
      · unfold freeH
        rw [if_neg hDd]
        exact h2
def rNotN : R2 := fun x y H Q => y = .non ∧ Q (.bl (!decide (x = .non))) H
/-- the walk over all that the moves tell: state in slot 3, the next state in slot 4, told in slot 1 -/
theorem read_tolds {s0 s1 s2 s3 s4 s5 : Option V} {H : Hp} {Q : VK} {ts : TE} {L : Addr} {ds : List Addr} {rows : List Rw} {A : List Str} (hts : ∀ (H0 : Hp) (Q : VK), H0 L = some (.lst (ds.map V.ref)) → (∀ b o, H b = some o → b ∉ ds → H0 b = some o) → Q (.ref L) H0 → ts [s0, s1, s2, s3, s4, s5] H0 Q)
    (hL : H L = some (.lst (ds.map V.ref))) (nd : ds.Nodup) (hr : RowsAt H ds rows) (hA : ∀ z ∈ toldsOf rows, z ∈ A) (h64 : A.length < 64)
    (q : ∀ (H' : Hp) (D : Addr) (l : List Str), Ext H H' → H D = none → H' D = some (SetSO P w D l) → Gath l (toldsOf rows) → Q (.ref D) H') :
    lockN ds.length (tSc2 P w (iList K ts) (gName 3) tYes (iVals (tVar 3)) (gTup K 2 (gCons (gName 4) (gCons (gName 1) gNil))) (tTest (tOp rNotN (tVar 1) (tC .non))) (tVar 1) [1, 3, 4] [1, 4]) [s0, s1, s2, s3, s4, s5] H Q := by
  refine lockN_read nd (fun d hd => ?_) fun od => ?_
  · obtain ⟨i, hi, e⟩ := List.mem_iff_getElem.mp hd
    obtain ⟨r, _, es, a, _⟩ := hr.at_ (i := i) (d := d) (by rw [List.getElem?_eq_getElem hi, e])
    exact ⟨_, a⟩
  · have hLd : L ∉ ds := fun hm => by
      obtain ⟨i, hi, e⟩ := List.mem_iff_getElem.mp hm
      obtain ⟨r, _, es, a, _⟩ := hr.at_ (i := i) (d := L) (by rw [List.getElem?_eq_getElem hi, e])
      rw [hL] at a
      cases a
    have out : ∀ b o, H b = some o → b ∉ ds → lockH od ds H b = some o := fun b o e n => by
      unfold lockH
      rw [if_neg n]
      exact e
    have hL0 := out L _ hL hLd
    refine hts _ _ hL0 out ⟨L, rfl, ⟨_, SqL.of hL0⟩, fun D hD => ?_⟩
    have hDd : D ∉ ds := fun hm => by
      obtain ⟨i, hi, e⟩ := List.mem_iff_getElem.mp hm
      obtain ⟨r, _, es, a, _⟩ := hr.at_ (i := i) (d := D) (by rw [List.getElem?_eq_getElem hi, e])
      unfold lockH at hD
      rw [if_pos hm, a] at hD
      cases hD
    have hDH : H D = none := by
      unfold lockH at hD
      rw [if_neg hDd] at hD
      exact hD
    refine sc2_out (walk_list (xs := ds.map V.ref)) (fun i H' => Ext (lockH od ds H) H' ∧ ∃ l, H' D = some (SetSO P w D l) ∧ Gath l (toldsOf (rows.take i))) ⟨Ext.new hD, [], upd_same, List.nodup_nil, fun z => by simp [toldsOf]⟩ (fun i H' _ h => SqL.of (h.1 _ _ hL0)) ?_ ?_
    · rintro i x H1 H2 hi ⟨h1, l, h2, h3⟩ ⟨rfl, hx⟩
      obtain ⟨d, hd, rfl⟩ := at_map hx
      obtain ⟨r, hri, es, he1, he2⟩ := hr.at_ hd
      have hdm := List.mem_of_getElem? hd
      have hdl : lockH od ds H d = some (.frz (od d) (.dK (kvsOf es))) := by
        unfold lockH
        rw [if_pos hdm, he1]
        rfl
      refine ⟨rfl, _, rfl, d, od d, kvsOf es, rfl, h1 _ _ hdl, ?_⟩
      have ek := he2.keys
      refine sc2_in walk_values (fun j H' => Ext (lockH od ds H) H' ∧ ∃ l, H' D = some (SetSO P w D l) ∧ Gath l (toldsOf (rows.take i) ++ tellsAll (r.take j))) ⟨h1, l, h2, by rw [List.take_zero]; show Gath l (_ ++ []); rw [List.append_nil]; exact h3⟩ (fun j H' _ h => h.1 _ _ hdl) ?_ ?_
      · rintro j x H3 H4 hj ⟨g1, l', g2, g3⟩ ⟨rfl, k, hk⟩
        unfold kvsOf at hk
        rw [List.getElem?_map] at hk
        cases e : es[j]? with
        | none =>
          rw [e] at hk
          cases hk
        | some e0 =>
          rw [e] at hk
          have hk := Option.some.inj hk
          obtain ⟨rfl, rfl⟩ := Prod.mk.inj hk
          obtain ⟨m, hm, mt⟩ := he2.at_ e
          have mt : H e0.2 = some (.tup [.int m.1, toldV m.2]) := mt
          have ndt : e0.2 ∉ ds := fun hmem => by
            obtain ⟨i', hi', e'⟩ := List.mem_iff_getElem.mp hmem
            obtain ⟨r', _, es', a', _⟩ := hr.at_ (i := i') (d := e0.2) (by rw [List.getElem?_eq_getElem hi', e'])
            rw [mt] at a'
            cases a'
          have mt4 := g1 _ _ (out _ _ mt ndt)
          have e2 : tellsAll (r.take (j + 1)) = tellsAll (r.take j) ++ m.2.toList := by
            unfold tellsAll
            rw [take_more hm, List.filterMap_append]
            obtain ⟨mg, mo⟩ := m
            cases mo <;> rfl
          refine ⟨e0.2, _, rfl, SqT.of mt4, rfl, _, _, rfl, _, _, rfl, rfl, rfl, ?_⟩
          obtain ⟨mg, mo⟩ := m
          cases mo with
          | none =>
            refine ⟨_, rfl, rfl, false, rfl, ?_⟩
            refine ⟨g1, l', g2, ?_⟩
            rw [e2]
            show Gath l' (_ ++ (_ ++ []))
            rw [List.append_nil]
            exact g3
          | some z0 =>
            have sub : ∀ z ∈ toldsOf (rows.take i) ++ tellsAll (r.take j), z ∈ A := fun z hz => hA z (by
              unfold toldsOf at hz ⊢
              rcases List.mem_append.mp hz with c | c
              · obtain ⟨r0, hr0, hz0⟩ := List.mem_flatMap.mp c
                exact List.mem_flatMap.mpr ⟨r0, List.mem_of_mem_take hr0, hz0⟩
              · refine List.mem_flatMap.mpr ⟨r, List.mem_of_getElem? hri, ?_⟩
                obtain ⟨y, hy, hz0⟩ := List.mem_filterMap.mp c
                exact List.mem_filterMap.mpr ⟨y, List.mem_of_mem_take hy, hz0⟩)
            refine ⟨_, rfl, rfl, true, rfl, ?_⟩
            refine ⟨_, rfl, z0, l', rfl, g2, (g3.room sub h64).2, fun b o eb => by rw [upd_ne (ne_of_none eb hD)]; exact g1 b o eb, _, upd_same, ?_⟩
            rw [e2, ← List.append_assoc]
            exact g3.put
      · rintro H3 ⟨g1, l', g2, g3⟩
        refine ⟨g1, l', g2, ?_⟩
        have e1 : (kvsOf es).length = r.length := by
          unfold kvsOf
          rw [List.length_map, he2.len]
        rw [e1, List.take_length] at g3
        have e2 : toldsOf (rows.take (i + 1)) = toldsOf (rows.take i) ++ tellsAll r := by
          unfold toldsOf tellsAll
          rw [take_more hri, List.flatMap_append]
          simp
        rw [e2]
        exact g3
    · rintro H' ⟨h1, l, h2, h3⟩
      rw [List.length_map, hr.len, List.take_length] at h3
      refine ⟨fun d hd => ?_, q _ D l (fun b o e => ?_) hDH ?_ h3⟩
      · obtain ⟨i, hi, e⟩ := List.mem_iff_getElem.mp hd
        obtain ⟨r, _, es, a, _⟩ := hr.at_ (i := i) (d := d) (by rw [List.getElem?_eq_getElem hi, e])
        have k : lockH od ds H d = some (.frz (od d) (.dK (kvsOf es))) := by
          unfold lockH
          rw [if_pos hd, a]
          rfl
        rw [k]
        exact h1 _ _ k
      · unfold freeH
        by_cases c : b ∈ ds
        · rw [if_pos c]
          exact e
        · rw [if_neg c]
          exact h1 _ _ (out _ _ e c)
      · unfold freeH
        rw [if_neg hDd]
        exact h2
end
end Sl
/-! ## P10 -/
set_option Elab.async false
set_option linter.all false
set_option maxRecDepth 100000
set_option maxHeartbeats 4000000
namespace Sl
open PySem PySem.Spec PyProof.Rows L2 TxS
/-- what the walk asks of the class Reader as the top has made it -/
structure RdC (K : PySem.W.Frag) (C : Addr) : Prop where
  cl : Cls K C
  nS : NoAttr K C "_states"
  nE : NoAttr K C "_ends"
  nB : NoAttr K C "_start"
  nP : NoAttr K C "_page_signs"
  nT : NoAttr K C "_text_signs"
  nM : NoAttr K C "_marks"
def spCollect (C : Addr) : Sp := fun vs H Q _ => ∃ (p dx L : Addr) (fs : List (Str × V)) (ds : List Addr) (rows : List Rw) (A B : List Str), vs = [.ref p] ∧ H p = some (.ins C dx fs) ∧ fs.length < 900 ∧ fs.lookup ("_states" : Str) = some (.ref L) ∧ H L = some (.lst (ds.map V.ref)) ∧ ds.Nodup ∧ RowsAt H ds rows ∧
  (∀ z ∈ keysOf rows, z ∈ A) ∧ A.length < 64 ∧ (∀ z ∈ toldsOf rows, z ∈ B) ∧ B.length < 64 ∧ (∀ z ∈ keysOf rows, z.length ≤ 8) ∧ (∀ z ∈ toldsOf rows, z.length ≤ 8) ∧
  ∀ (H' : Hp) (M : Addr) (ys ts : List Str), Keep p H H' → H M = none → Gath ys (keysOf rows) → sortedS ys = true → Gath ts (toldsOf rows) → sortedS ts = true → H' M = some (.lst ((ts.filter markS).map V.str)) →
    H' p = some (.ins C dx (putF "_marks" (.ref M) (putF "_text_signs" (.str (Txt.join "" (ts.filter signS))) (putF "_page_signs" (.str (Txt.join "" ys)) fs)))) → Q .non H'
theorem Gath.perm {l ys S : List Str} (g : Gath l S) (p : ys.Perm l) : Gath ys S := ⟨p.nodup_iff.mpr g.1, fun z => p.mem_iff.trans (g.2 z)⟩
theorem Gath.le {l S : List Str} (g : Gath l S) {n : Nat} (h : ∀ z ∈ S, z.length ≤ n) : ∀ z ∈ l, z.length ≤ n := fun z hz => h z ((g.2 z).mp hz)
theorem sum_le : ∀ {l : List Str}, (∀ z ∈ l, z.length ≤ 8) → (l.map (·.length)).sum ≤ 8 * l.length
  | [], _ => Nat.zero_le _
  | z :: l, h => by
    have q := sum_le (l := l) fun y hy => h y (List.mem_cons_of_mem _ hy)
    have k := h z List.mem_cons_self
    rw [List.map_cons, List.sum_cons, List.length_cons]
    omega
theorem putF_len (f : Str) (v : V) : ∀ fs : List (Str × V), (putF f v fs).length ≤ fs.length + 1
  | [] => Nat.le_refl _
  | (g, y) :: fs => by
    have q := putF_len f v fs
    unfold putF
    split
    · rw [List.length_cons, List.length_cons]
      omega
    · rw [List.length_cons, List.length_cons]
      omega
theorem RowsAt.keep {H H' : Hp} {a : Addr} (k : Keep a H H') (n1 : ∀ kvs, H a ≠ some (.dK kvs)) (n2 : ∀ xs, H a ≠ some (.tup xs)) : ∀ {ds : List Addr} {rows : List Rw}, RowsAt H ds rows → RowsAt H' ds rows
  | _, _, .nil => .nil
  | _, _, .cons ⟨es, e, b⟩ h => .cons ⟨es, k _ _ e (fun z => n1 _ (by rw [← z]; exact e)), b.ext fun t xs e => k _ _ e (fun z => n2 _ (by rw [← z]; exact e))⟩ (h.keep k n1 n2)
theorem RowsAt.mem {H : Hp} {ds : List Addr} {rows : List Rw} (h : RowsAt H ds rows) {d : Addr} (hd : d ∈ ds) : ∃ kvs, H d = some (.dK kvs) := by
  obtain ⟨i, hi, e⟩ := List.mem_iff_getElem.mp hd
  obtain ⟨r, _, es, a, _⟩ := h.at_ (i := i) (d := d) (by rw [List.getElem?_eq_getElem hi, e])
  exact ⟨_, a⟩
theorem join_size {ys : List Str} {n : Nat} (h : ∀ z ∈ ys, z.length ≤ 8) (hn : ys.length < 64) : (ys.map (·.length)).sum + ys.length * n ≤ 16777216 → True := fun _ => trivial
theorem join_le {ys : List Str} (h : ∀ z ∈ ys, z.length ≤ 8) (hn : ys.length < 64) : (ys.map (·.length)).sum + ys.length * ("" : Str).length ≤ 16777216 := by
  have e : ("" : Str).length = 0 := by decide
  have q := sum_le h
  rw [e]
  omega
section
variable {P : Program} {w : World} {K : PySem.W.Frag} {mg : Str → Option Value} {base : Heap}
theorem scCollect : FnScope ["self", "told", "sign", "state", "_", "name"] ["self"] (defScope sCollect) := ⟨rfl, rfl, rfl, by decide +kernel, rfl, by decide +kernel, by decide +kernel⟩
theorem ok_collect {f C fS fM : Addr} {fd fdS fdM : FuncData} (F : Fun K "_collect_names" "Reader._collect_names" sCollect f fd) (T : RdC K C) (aS : At K mg "is_sign" fS fdS ["value"] []) (gS : FnOk P w K mg base CX0 2 fS fdS ["value"] (spText signS))
    (aM : At K mg "is_mark" fM fdM ["value"] []) (gM : FnOk P w K mg base CX0 3 fM fdM ["value"] (spText markS)) (zs : mg "sorted" = none) :
    FnOk P w K mg base CX0 4 f fd ["self"] (spCollect C) := by
  refine F.ok scCollect (fun vs H Q E h => ?_) (fun cdv A0 outer s H vs Q E hr h => ?_)
  · obtain ⟨p, dx, L, fs, ds, rows, A, B, rfl, _⟩ := h
    rfl
  · obtain ⟨p, dx, L, fs, ds, rows, A, B, rfl, hp, hfs, hst, hL, nd, hrw, hA, hA64, hB, hB64, k8, t8, q⟩ := h
    refine ⟨_, pss_cons (ps_fld (pv 0) (pe_join pe_str (pe_callB (cr_sortedTx rfl) (by rfl) zs (by decide +kernel) (pa_cons (pe_lockN (pe_sc2 (own := [("sign", 2), ("state", 3)]) (vs1 := [2]) (g := gName 3) (g1 := gName 2) (tt := tYes) (tt1 := tYes) rfl scCollect.nd (pi_list (pe_fld (pv 0) rfl))
          (blkOk_by (N := ["self", "told", "sign", "state", "_", "name"]) (sc := defScope sCollect) (by decide +kernel)) (by decide) (fun _ _ _ _ _ => pg_name (i := 3) scCollect.nd rfl (Or.inl rfl)) (fun _ _ _ _ _ => pts_nil) (fun _ _ _ _ _ => pi_keys (pv 3))
          (fun _ _ _ _ _ => pg_name (i := 2) scCollect.nd rfl (Or.inl rfl)) (fun _ _ _ _ _ => pts_nil) (fun _ _ _ _ _ => pv 2)) ds.length) pa_nil))) rfl)
      (pss_cons (ps_set (i := 1) scCollect.nd rfl (Or.inl rfl) (pe_callB (cr_sortedTx rfl) (by rfl) zs (by decide +kernel) (pa_cons (pe_lockN (pe_sc2 (own := [("told", 1), ("state", 3), ("_", 4)]) (vs1 := [1, 4]) (g := gName 3) (g1 := gTup K 2 (gCons (gName 4) (gCons (gName 1) gNil))) (tt := tYes) (tt1 := tTest (tOp rNotN (tVar 1) (tC .non))) rfl scCollect.nd (pi_list (pe_fld (pv 0) rfl))
          (blkOk_by (N := ["self", "told", "sign", "state", "_", "name"]) (sc := defScope sCollect) (by decide +kernel)) (by decide) (fun _ _ _ _ _ => pg_name (i := 3) scCollect.nd rfl (Or.inl rfl)) (fun _ _ _ _ _ => pts_nil) (fun _ _ _ _ _ => pi_values (pv 3))
          (fun _ _ _ _ _ => pg_tup rfl (pgs_cons (pg_name (i := 4) scCollect.nd rfl (Or.inl rfl)) (pgs_cons (pg_name (i := 1) scCollect.nd rfl (Or.inl rfl)) pgs_nil))) (fun _ _ _ _ _ => pts_one (pt_cmpR op_notN (pv 1) pe_non (nomark _))) (fun _ _ _ _ _ => pv 1)) ds.length) pa_nil)))
      (pss_cons (ps_fld (pv 0) (pe_join pe_str (pe_lc (own := [("name", 5)]) (g := gName 5) (tt := tTest (tCall (spText signS) [] (fun _ _ _ => False) (tCons (tVar 5) tNil))) rfl scCollect.nd (pi_list (pv 1)) (blkOk_by (N := ["self", "told", "sign", "state", "_", "name"]) (sc := defScope sCollect) (by decide +kernel))
          (fun _ _ _ _ _ => pg_name (i := 5) scCollect.nd rfl (Or.inl rfl)) (fun _ _ _ _ _ => pts_one (pt_val (pe_call gS (hr.mono (by decide)) (by rfl) aS.g aS.kp aS.b .nil pass0 (pa_cons (pv 5) pa_nil)))) (fun _ _ _ _ _ => pv 5))) rfl)
      (pss_one (ps_fld (pv 0) (pe_lc (own := [("name", 5)]) (g := gName 5) (tt := tTest (tCall (spText markS) [] (fun _ _ _ => False) (tCons (tVar 5) tNil))) rfl scCollect.nd (pi_list (pv 1)) (blkOk_by (N := ["self", "told", "sign", "state", "_", "name"]) (sc := defScope sCollect) (by decide +kernel))
          (fun _ _ _ _ _ => pg_name (i := 5) scCollect.nd rfl (Or.inl rfl)) (fun _ _ _ _ _ => pts_one (pt_val (pe_call gM hr (by rfl) aM.g aM.kp aM.b .nil pass0 (pa_cons (pv 5) pa_nil)))) (fun _ _ _ _ _ => pv 5)) rfl)))), ?_⟩
    have npd : p ∉ ds := fun hm => by
      obtain ⟨kvs, e⟩ := hrw.mem hm
      rw [hp] at e
      cases e
    have npL : L ≠ p := ne_of hL hp (by intro z; cases z)
    have hu := hu_of hr
    -- self._page_signs
    refine ⟨⟨_, rfl⟩, read_keys (fun H0 Q0 h1 h2 q0 => ⟨_, rfl, p, C, dx, _, _, rfl, h2 _ _ hp npd, T.cl, T.nS, hst, q0⟩) hL nd hrw hA hA64 fun H1 D l x1 _ hD g1 => ?_⟩
    refine ⟨D, l, rfl, hD, (g1.room hA hA64).1, fun ys L1 pm1 sr1 nL1 => ?_⟩
    have gy := g1.perm pm1
    have ly : ys.length < 64 := (gy.room hA hA64).1
    refine ⟨_, L1, ys, rfl, rfl, .inl (SqL.of upd_same), join_le (gy.le k8) ly, ?_⟩
    have p1 : (upd H1 L1 (.lst (ys.map V.str))) p = some (.ins C dx fs) := (x1.trans (Ext.new nL1)) _ _ hp
    refine ⟨_, rfl, p, C, dx, fs, rfl, p1, T.cl, T.nP, by omega, ?_⟩
    have kA : Keep p H (upd (upd H1 L1 (.lst (ys.map V.str))) p (.ins C dx (putF "_page_signs" (.str (Txt.join "" ys)) fs))) := fun b o e n => by
      rw [upd_ne n]
      exact (x1.trans (Ext.new nL1)) _ _ e
    have pA : (upd (upd H1 L1 (.lst (ys.map V.str))) p (.ins C dx (putF "_page_signs" (.str (Txt.join "" ys)) fs))) p = some (.ins C dx (putF "_page_signs" (.str (Txt.join "" ys)) fs)) := upd_same
    generalize upd (upd H1 L1 (.lst (ys.map V.str))) p (.ins C dx (putF "_page_signs" (.str (Txt.join "" ys)) fs)) = HA at kA pA ⊢
    have rwA := hrw.keep kA (fun kvs e => by rw [hp] at e; cases e) (fun xs e => by rw [hp] at e; cases e)
    have stA : (putF "_page_signs" (.str (Txt.join "" ys)) fs).lookup ("_states" : Str) = some (.ref L) := by
      rw [lookup_putF, if_neg (by decide +kernel)]
      exact hst
    have LA := kA _ _ hL npL
    -- told
    refine read_tolds (fun H0 Q0 h1 h2 q0 => ⟨_, rfl, p, C, dx, _, _, rfl, h2 _ _ pA npd, T.cl, T.nS, stA, q0⟩) LA nd rwA hB hB64 fun H2 D2 l2 x2 _ hD2 g2 => ?_
    refine ⟨D2, l2, rfl, hD2, (g2.room hB hB64).1, fun ts Lt pm2 sr2 nL2 => ?_⟩
    have gt := g2.perm pm2
    have lt : ts.length < 64 := (gt.room hB hB64).1
    have x3 : Ext HA (upd H2 Lt (.lst (ts.map V.str))) := x2.trans (Ext.new nL2)
    have tL : (upd H2 Lt (.lst (ts.map V.str))) Lt = some (.lst (ts.map V.str)) := upd_same
    generalize upd H2 Lt (.lst (ts.map V.str)) = H3 at x3 tL ⊢
    -- a list of the told names that pass a test
    have pick : ∀ (t : Str → Bool) (H4 : Hp) (σ : L2.St) (Q0 : VK), σ = [some (.ref p), some (.ref Lt), none, none, none, none] → H4 Lt = some (.lst (ts.map V.str)) → (∀ (H5 : Hp) (D5 : Addr), Ext H4 H5 → H4 D5 = none → H5 D5 = some (.lst ((ts.filter t).map V.str)) → Q0 (.ref D5) H5) →
        tLc (iList K (tVar 1)) (gName 5) (tTest (tCall (spText t) [] (fun _ _ _ => False) (tCons (tVar 5) tNil))) (tVar 5) [5] σ H4 Q0 := by
      rintro t H4 σ Q0 rfl h4 q0
      refine ⟨_, rfl, Lt, rfl, ⟨_, SqL.of h4⟩, fun D5 nD5 => ?_⟩
      refine lc_it (walk_list (xs := ts.map V.str)) (fun i H5 => Ext H4 H5 ∧ H5 D5 = some (.lst (((ts.take i).filter t).map V.str))) ⟨Ext.new nD5, upd_same⟩ (fun i H5 _ h => SqL.of (h.1 _ _ h4)) ?_ ?_
      · rintro i x H5 H6 hi ⟨h1, h2⟩ ⟨rfl, hx⟩
        obtain ⟨z, hz, rfl⟩ := at_map hx
        have z8 := gt.le t8 z (List.mem_of_getElem? hz)
        refine ⟨rfl, _, rfl, z, rfl, by omega, fun H7 e7 => ⟨_, rfl, ?_⟩⟩
        rw [take_more hz, List.filter_append]
        have x7 : Ext H4 H7 := h1.trans e7
        have l7 := e7 _ _ h2
        have li : ((ts.take i).filter t).length ≤ ts.length := Nat.le_trans (List.length_filter_le _ _) (by rw [List.length_take]; omega)
        cases ct : t z with
        | false =>
          have e1 : List.filter t [z] = [] := by rw [List.filter_cons_of_neg (by rw [ct]; exact Bool.false_ne_true)]; rfl
          rw [e1, List.append_nil]
          exact ⟨x7, l7⟩
        | true =>
          have e1 : List.filter t [z] = [z] := by rw [List.filter_cons_of_pos ct]; rfl
          rw [e1, List.map_append]
          refine ⟨_, rfl, _, l7, by rw [List.length_map]; exact small_list (by omega), fun b o e => by rw [upd_ne (ne_of_none e nD5)]; exact x7 _ _ e, upd_same⟩
      · rintro H5 ⟨h1, h2⟩
        rw [List.length_map, List.take_length] at h2
        exact q0 H5 D5 h1 nD5 h2
    -- self._text_signs
    refine ⟨⟨_, rfl⟩, pick signS H3 _ _ rfl tL fun H4 D4 x4 nD4 l4 => ?_⟩
    have lf : (ts.filter signS).length ≤ ts.length := List.length_filter_le _ _
    refine ⟨_, D4, ts.filter signS, rfl, rfl, .inl (SqL.of l4), join_le (fun z hz => gt.le t8 z (List.mem_filter.mp hz).1) (by omega), ?_⟩
    have fA := putF_len "_page_signs" (.str (Txt.join "" ys)) fs
    refine ⟨_, rfl, p, C, dx, _, rfl, x4 _ _ (x3 _ _ pA), T.cl, T.nT, by omega, ?_⟩
    have kB : Keep p H (upd H4 p (.ins C dx (putF "_text_signs" (.str (Txt.join "" (ts.filter signS))) (putF "_page_signs" (.str (Txt.join "" ys)) fs)))) := fun b o e n => by
      rw [upd_ne n]
      exact x4 _ _ (x3 _ _ (kA b o e n))
    have pB : (upd H4 p (.ins C dx (putF "_text_signs" (.str (Txt.join "" (ts.filter signS))) (putF "_page_signs" (.str (Txt.join "" ys)) fs)))) p = some (.ins C dx (putF "_text_signs" (.str (Txt.join "" (ts.filter signS))) (putF "_page_signs" (.str (Txt.join "" ys)) fs))) := upd_same
    have tL4 : (upd H4 p (.ins C dx (putF "_text_signs" (.str (Txt.join "" (ts.filter signS))) (putF "_page_signs" (.str (Txt.join "" ys)) fs)))) Lt = some (.lst (ts.map V.str)) := by
      rw [upd_ne (ne_of tL (x3 _ _ pA) (by intro z; cases z))]
      exact x4 _ _ tL
    have nn : ∀ b, (upd H4 p (.ins C dx (putF "_text_signs" (.str (Txt.join "" (ts.filter signS))) (putF "_page_signs" (.str (Txt.join "" ys)) fs)))) b = none → H b = none := fun b hb => by
      cases e : H b with
      | none => rfl
      | some o =>
        by_cases c : b = p
        · rw [c, pB] at hb
          cases hb
        · rw [kB b o e c] at hb
          cases hb
    have fB := putF_len "_text_signs" (.str (Txt.join "" (ts.filter signS))) (putF "_page_signs" (.str (Txt.join "" ys)) fs)
    generalize upd H4 p (.ins C dx (putF "_text_signs" (.str (Txt.join "" (ts.filter signS))) (putF "_page_signs" (.str (Txt.join "" ys)) fs))) = HB at kB pB tL4 nn ⊢
    -- self._marks
    show sFld K (tVar 0) (tLc (iList K (tVar 1)) (gName 5) (tTest (tCall (spText markS) [] (fun _ _ _ => False) (tCons (tVar 5) tNil))) (tVar 5) [5]) "_marks" { nx := fun _ H' => Q .non H', rt := Q } [some (V.ref p), some (V.ref Lt), none, none, none, none] HB
    unfold sFld
    refine pick markS HB _ _ rfl tL4 fun H5 D5 x5 nD5 l5 => ?_
    refine ⟨_, rfl, p, C, dx, _, rfl, x5 _ _ pB, T.cl, T.nM, by omega, ?_⟩
    refine q _ D5 ys ts (fun b o e n => ?_) (nn _ nD5) gy sr1 gt sr2 ?_ upd_same
    · rw [upd_ne n]
      exact x5 _ _ (kB b o e n)
    · rw [upd_ne (ne_of l5 (x5 _ _ pB) (by intro z; cases z))]
      exact l5
end
end Sl
/-! ## P11 -/
set_option Elab.async false
set_option linter.all false
set_option maxRecDepth 100000
set_option maxHeartbeats 4000000
namespace Sl
open PySem PySem.Spec PyProof.Rows L2 TxS
abbrev sLimits : Stmt := inClass (top 23) 3
abbrev sInit : Stmt := inClass (top 23) 1
def spLimits (C : Addr) : Sp := fun vs H Q _ => ∃ (p dx M : Addr) (fs : List (Str × V)) (a b : Str) (ms : List V), vs = [.ref p] ∧ H p = some (.ins C dx fs) ∧ fs.lookup ("_page_signs" : Str) = some (.str a) ∧ fs.lookup ("_text_signs" : Str) = some (.str b) ∧ fs.lookup ("_marks" : Str) = some (.ref M) ∧
  H M = some (.lst ms) ∧ a.length ≤ 6 ∧ b.length ≤ 4 ∧ ms.length ≤ 6 ∧ Q .non H
section
variable {P : Program} {w : World} {K : PySem.W.Frag} {mg : Str → Option Value} {base : Heap}
theorem scLimits : FnScope ["self"] ["self"] (defScope sLimits) := ⟨rfl, rfl, rfl, by decide +kernel, rfl, by decide +kernel, by decide +kernel⟩
theorem ok_limits {f C : Addr} {fd : FuncData} {t1 t2 t3 : Tok} (F : Fun K "_check_limits" "Reader._check_limits" sLimits f fd) (T : RdC K C) (zn : mg "len" = none) (m1 : mg "MAX_PAGE_SIGNS" = some (.int 6 t1)) (m2 : mg "MAX_TEXT_SIGNS" = some (.int 4 t2)) (m3 : mg "MAX_MARKS" = some (.int 6 t3)) :
    FnOk P w K mg base CX0 1 f fd ["self"] (spLimits C) := by
  refine F.ok scLimits (fun vs H Q E h => ?_) (fun cdv A0 outer s H vs Q E hr h => ?_)
  · obtain ⟨p, dx, M, fs, a, b, ms, rfl, _⟩ := h
    rfl
  · obtain ⟨p, dx, M, fs, a, b, ms, rfl, hp, ha, hb, hm, hM, la, lb, lm, q⟩ := h
    refine ⟨_, pss_cons (ps_if (pt_cmpR op_gt (pe_callB call_len_str (by rfl) zn PySem.boot_len (pa_cons (pe_fld (pv 0) rfl) pa_nil)) (pe_glob (v := .int 6) rfl m1 ⟨_, rfl⟩) (nomark _)) (pss_one ps_never) pss_nil)
      (pss_cons (ps_if (pt_cmpR op_gt (pe_callB call_len_str (by rfl) zn PySem.boot_len (pa_cons (pe_fld (pv 0) rfl) pa_nil)) (pe_glob (v := .int 4) rfl m2 ⟨_, rfl⟩) (nomark _)) (pss_one ps_never) pss_nil)
      (pss_one (ps_if (pt_cmpR op_gt (pe_callB call_len_seq (by rfl) zn PySem.boot_len (pa_cons (pe_fld (pv 0) rfl) pa_nil)) (pe_glob (v := .int 6) rfl m3 ⟨_, rfl⟩) (nomark _)) (pss_one ps_never) pss_nil))), ?_⟩
    refine ⟨_, rfl, p, C, dx, _, _, rfl, hp, T.cl, T.nP, ha, a, rfl, small_size (by omega), _, _, rfl, rfl, _, rfl, ?_⟩
    rw [decide_eq_false (by omega)]
    refine iteF ?_
    refine ⟨_, rfl, p, C, dx, _, _, rfl, hp, T.cl, T.nT, hb, b, rfl, small_size (by omega), _, _, rfl, rfl, _, rfl, ?_⟩
    rw [decide_eq_false (by omega)]
    refine iteF ?_
    refine ⟨_, rfl, p, C, dx, _, _, rfl, hp, T.cl, T.nM, hm, M, ms, rfl, .inl (SqL.of hM), _, _, rfl, rfl, _, rfl, ?_⟩
    rw [decide_eq_false (by omega)]
    refine iteF ?_
    exact q
/-! ### a reader -/
/-- a reader stands at p: its rows, its ends, its start -/
structure ReaderAt (C : Addr) (H : Hp) (p : Addr) (rows : List Rw) (ends : List Int) (b : Int) : Prop where
  ex : ∃ dx fs L ds Te, H p = some (.ins C dx fs) ∧ fs.lookup ("_states" : Str) = some (.ref L) ∧ H L = some (.lst (ds.map V.ref)) ∧ RowsAt H ds rows ∧ fs.lookup ("_ends" : Str) = some (.ref Te) ∧ H Te = some (.tup (ends.map V.int)) ∧
    fs.lookup ("_start" : Str) = some (.int b) ∧ ∀ f, f ∉ (["_states", "_ends", "_start", "_page_signs", "_text_signs", "_marks"] : List Str) → fs.lookup f = none
inductive Perms : List Rw → List Rw → Prop
  | nil : Perms [] []
  | cons {r r' : Rw} {rs rs' : List Rw} : r.Perm r' → Perms rs rs' → Perms (r :: rs) (r' :: rs')
theorem scInit : FnScope ["self", "states", "ends", "start", "index", "state"] ["self", "states", "ends", "start"] (defScope sInit) := ⟨rfl, rfl, rfl, by decide +kernel, rfl, by decide +kernel, by decide +kernel⟩
end
end Sl
/-! ## B2 -/
set_option Elab.async false
set_option linter.all false
set_option maxRecDepth 100000
set_option maxHeartbeats 4000000
/-! a list or a tuple alike: walked, measured, asked for its kind, its ints as a set -/
namespace Sl
open PySem PySem.Spec PyProof.Rows L2
/-- a list (true) or a tuple (false) of these -/
def SqK (K : PySem.W.Frag) (k : Bool) (H : Hp) (a : Addr) (xs : List V) : Prop := match k with
  | true => SqL K H a xs
  | false => SqT K H a xs
def ItK (K : PySem.W.Frag) (k : Bool) (a : Addr) : It := match k with
  | true => Itl K a
  | false => Itt K a
theorem SqK.or {K : PySem.W.Frag} {k : Bool} {H : Hp} {a : Addr} {xs : List V} (h : SqK K k H a xs) : SqL K H a xs ∨ SqT K H a xs := by
  cases k
  · exact .inr h
  · exact .inl h
theorem SqK.l {K : PySem.W.Frag} {H : Hp} {a : Addr} {xs : List V} (h : H a = some (.lst xs)) : SqK K true H a xs := SqL.of h
theorem SqK.t {K : PySem.W.Frag} {H : Hp} {a : Addr} {xs : List V} (h : H a = some (.tup xs)) : SqK K false H a xs := SqT.of h
theorem rd_ext {H H' : Hp} {a : Addr} {o : HO} (x : Ext H H') (h : Rd H a o) : Rd H' a o := by
  rcases h with h | ⟨ob, h⟩
  · exact .inl (x _ _ h)
  · exact .inr ⟨ob, x _ _ h⟩
theorem SqK.ext {K : PySem.W.Frag} {k : Bool} {H H' : Hp} {a : Addr} {xs : List V} (x : Ext H H') (h : SqK K k H a xs) : SqK K k H' a xs := by
  cases k
  · exact h.elim (fun h => .inl (rd_ext x h)) .inr
  · exact h.elim (fun h => .inl (rd_ext x h)) .inr
theorem SqK.keep {K : PySem.W.Frag} {k : Bool} {H H' : Hp} {a p : Addr} {xs : List V} (x : Keep p H H') (n : a ≠ p) (h : SqK K k H a xs) : SqK K k H' a xs := by
  have r : ∀ {o}, Rd H a o → Rd H' a o := fun {o} h => by
    rcases h with h | ⟨ob, h⟩
    · exact .inl (x _ _ h n)
    · exact .inr ⟨ob, x _ _ h n⟩
  cases k
  · exact h.elim (fun h => .inl (r h)) .inr
  · exact h.elim (fun h => .inl (r h)) .inr
theorem walk_seq {K : PySem.W.Frag} {k : Bool} {a : Addr} {xs : List V} : Walk (ItK K k a) xs.length (fun H => SqK K k H a xs) (YAt xs) := by
  cases k
  · exact walk_tup
  · exact walk_list
def iSeq (K : PySem.W.Frag) (te : TE) : TI := fun σ H R => te σ H fun x H1 => ∃ (k : Bool) (a : Addr), x = .ref a ∧ (∃ xs, SqK K k H1 a xs) ∧ R (ItK K k a) H1
theorem pi_seq {X : Cx} {tg e : Expr} {te : TE} (he : PE X e te) : PI X tg e (iSeq X.K te) := by
  refine ⟨fun pins s σ H R I h => thn (he.run pins s σ H _ I h) fun v s1 r => ?_⟩
  obtain ⟨x, H1, J, rv, k, a, rfl, ⟨xs, hs⟩, q⟩ := r
  cases rv
  have nw : ∀ b : Addr, b ∈ [s1.heap.objs.size] → b = s1.heap.objs.size := fun b hb => List.mem_singleton.mp hb
  cases k with
  | true =>
    obtain ⟨us, rs, pl, z⟩ := J.list hs
    refine wpAny_pyIter_list pl.isList ⟨s1.heap.objs.size, [s1.heap.objs.size], _, _, H1, rfl, J.kept (t' := s1.toks) fun b o g => Heap.get?_push_of_some _ g, turn_list a _, ⟨_, Heap.get?_push_size _ rfl, rfl, rfl⟩, fun b hb => ?_, q⟩
    rw [nw b hb]
    exact J.fpOk (Nat.le_refl _) (J.hok.fresh (Nat.le_refl _))
  | false =>
    obtain ⟨us, rs, pl, z⟩ := J.tuple hs
    refine wpAny_pyIter_tuple (show s1.heap.IsTuple a us.toArray from pl) ⟨s1.heap.objs.size, [s1.heap.objs.size], _, _, H1, rfl, J.kept (t' := s1.toks) fun b o g => Heap.get?_push_of_some _ g, turn_tuple a _, ⟨_, Heap.get?_push_size _ rfl, rfl, rfl⟩, fun b hb => ?_, q⟩
    rw [nw b hb]
    exact J.fpOk (Nat.le_refl _) (J.hok.fresh (Nat.le_refl _))
/-- its kind, for isinstance -/
theorem SqK.kind {K : PySem.W.Frag} {k : Bool} {H : Hp} {a : Addr} {xs : List V} (h : SqK K k H a xs) : Is K H (.ref a) (if k then .lst else .tup) := by
  cases k with
  | false =>
    rcases h with (h | ⟨o, h⟩) | ⟨o, its, n, e, c, _⟩
    · exact .base (.tup h)
    · exact .fTuple h
    · exact .kTuple e c
  | true =>
    rcases h with (h | ⟨o, h⟩) | ⟨o, its, n, e, c, _⟩
    · exact .base (.lst h)
    · exact .base (.frz h)
    · exact .kList e c
theorem seq_any {K : PySem.W.Frag} (k : Bool) : PySem.W.kitAny K (.type (if k then Kd.lst else Kd.tup).nm) [.type "list", .type "tuple"] = some true := by
  cases k
  · first | rfl | decide +kernel
  · first | rfl | decide +kernel
/-! ### len(set(..)) of different ints -/
theorem setR_count {w : World} {h : Heap} {a : Addr} {ns : List Int} {c : Nat} (nd : ns.Nodup) (R : SetR w h a (fun j => decide (j ∈ ns)) c) : c = ns.length := by
  obtain ⟨o, es, ep, t, _, _, _, _, ndk, mem, _, _, sz, _⟩ := R
  have p : (es.toList.map keyOf).Perm ns := perm_of_mem ndk nd fun k => by
    rw [← mem k]
    exact decide_eq_true_iff
  have e := p.length_eq
  rw [List.length_map, Array.length_toList] at e
  omega
where
  perm_of_mem : ∀ {l m : List Int}, l.Nodup → m.Nodup → (∀ k, k ∈ l ↔ k ∈ m) → l.Perm m
    | [], [], _, _, _ => .nil
    | [], y :: m, _, _, h => absurd ((h y).mpr List.mem_cons_self) List.not_mem_nil
    | x :: l, m, nl, nm, h => by
      obtain ⟨n1, n2⟩ := List.nodup_cons.mp nl
      have hx := (h x).mp List.mem_cons_self
      have p := List.perm_cons_erase hx
      refine (List.Perm.cons x (perm_of_mem n2 (nm.erase x) fun k => ?_)).trans p.symm
      rw [nm.mem_erase_iff]
      constructor
      · exact fun hk => ⟨fun e => n1 (by rw [← e]; exact hk), (h k).mp (List.mem_cons_of_mem _ hk)⟩
      · rintro ⟨ne, hk⟩
        rcases List.mem_cons.mp ((h k).mpr hk) with e | hk
        · exact absurd e ne
        · exact hk
def tLenSeqI (K : PySem.W.Frag) (ta : TE) : TE := fun σ H Q => ta σ H fun x H1 => ∃ (k : Bool) (a : Addr) (ns : List Int), x = .ref a ∧ SqK K k H1 a (ns.map V.int) ∧ ns.Nodup ∧ ns.length ≤ 1000 ∧ Q (.int (ns.length : Nat)) H1
theorem pe_lenSeqI {X : Cx} {a : Expr} {ta : TE} {p p2 q pos : Pos} (hg : Gl X "len") (hm : X.mg "len" = none) (hg2 : Gl X "set") (hm2 : X.mg "set" = none) (ha : PE X a ta) (hc : X.calm = true := by rfl)
    (na : starEach [a] X.env = (false, eval a X.env) :: starEach [] X.env := by rfl) : PE X (.Call (.Name "len" p) [.Call (.Name "set" p2) [a] [] q] [] pos) (tLenSeqI X.K ta) := by
  refine ⟨fun pins s σ H Q I h => Call_ (ld_blt I hg hm boot_len (callWith_builtin1 (args_cons (Call_ (ld_blt I hg2 hm2 boot_set (callWith_type1 (args_cons (thn (ha.run pins s σ H _ I h) fun v s1 r => args_nil ?_) na) na rfl))) rfl) rfl rfl))⟩
  obtain ⟨x, H1, J, rv, k, b, ns, rfl, hs, nd, sz, c⟩ := r
  cases rv
  cases k with
  | true =>
    obtain ⟨us, rs, pl, z⟩ := J.list hs
    have e : us.toArray.size = ns.length := by rw [List.size_toArray, ← rs.length, List.length_map]
    refine call_set_list (J.ok.hd hc) pl.isList (by simpa using RZ.intsAre_vals rs) (by rw [e]; unfold scanBound; omega) fun h' tk hS hk => args_nil ?_
    rw [e, RZ.firstMet_nodup nd ns.length (Nat.le_refl _), List.take_length] at hS
    obtain ⟨o, es, ep, t, ho, ex, hd, _, _, _, hf, hn⟩ := hS
    have J2 : Inv X pins σ H1 { s1 with heap := h', toks := tk } := J.kept fun d u g => hk d u (Heap.lt_size g) g
    exact call_len_set ho ex hd hf (by rw [hn]; omega) ⟨.int ns.length, H1, J2.tok _, ⟨_, by rw [hn]⟩, c⟩
  | false =>
    obtain ⟨us, rs, pl, z⟩ := J.tuple hs
    refine call_set_tupI ns (J.ok.hd hc) (show s1.heap.IsTuple b us.toArray from pl) (by simpa using RZ.intsAre_vals rs) (by unfold scanBound; omega) fun h' tk cn R le hk => args_nil ?_
    have cnt := setR_count nd R
    obtain ⟨o, es, ep, t, ho, ex, hd, _, _, _, _, hf, hn, _⟩ := R
    have J2 : Inv X pins σ H1 { s1 with heap := h', toks := tk } := J.kept hk
    exact call_len_set ho ex hd hf (by rw [hn]; omega) ⟨.int ns.length, H1, J2.tok _, ⟨_, by rw [hn, cnt]⟩, c⟩
end Sl
/-! ## B3 -/
set_option Elab.async false
set_option linter.all false
set_option maxRecDepth 100000
set_option maxHeartbeats 4000000
/-! enumerate of a list or a tuple -/
namespace PySem
open Sem (wp)
open AutoSeq1 (wpAny_loadPart')
theorem enum_newT (l : Addr) (items : Array Value) (n : Nat) (dct : Option Addr) (sl : Array (Option Value)) :
    Meets (Builtin.«enumerate.__new__» ⟨[.type "enumerate", .ref l], []⟩) (fun _ R s => s.heap.get? l = some { cls := .type "tuple", dict := dct, data := .seq items n, slots := sl } ∧
      R (.ok (.ret (.ref (s.heap.push { cls := .type "tuple_iterator", data := .fields #[.ref l, .int 0 0] }).objs.size)))
        { s with heap := (s.heap.push { cls := .type "tuple_iterator", data := .fields #[.ref l, .int 0 0] }).push { cls := .type "enumerate", data := .fields #[.none, .bool false, .ref s.heap.objs.size, rawInt 0, .none, .none] } }) :=
  .of_wp fun prog w A R s q => by
    obtain ⟨hp, g, d, tk, os⟩ := s
    obtain ⟨hl, h⟩ := q
    have hsub := sub_enumerate
    have hT : Heap.IsTuple (Shared.heap ⟨hp, g, d, tk, os⟩) l items := ⟨_, hl, rfl, n, rfl⟩
    wp_walk using wpAny_loadPart' hl
    refine wpAny_stack_any fun st => wpAny_pure ?_
    split
    · rename_i c _ _ _ _ _
      cases (c == Value.type "enumerate")
      · wp_walk using wpAny_loadPart' hl, wpAny_pyIter_tuple hT
        exact ⟨_, rfl, h⟩
      · wp_walk using wpAny_loadPart' hl, wpAny_pyIter_tuple hT
        exact ⟨_, rfl, h⟩
    · wp_walk using wpAny_loadPart' hl, wpAny_pyIter_tuple hT
      exact ⟨_, rfl, h⟩
section
variable {prog : Program} {w : World} {A : Around} {E : Value → Shared → Prop} {s : Shared}
theorem call_enumT {l : Addr} {items : Array Value} {Q : Value → Shared → Prop} (hL : s.heap.IsTuple l items)
    (h : ∀ h', IsEnum h' (s.heap.objs.size + 1) s.heap.objs.size 0 .none → h'.IsTupleIter s.heap.objs.size l 0 → h'.objs.size = s.heap.objs.size + 2 → (∀ b o, s.heap.get? b = some o → h'.get? b = some o) → Q (.ref (s.heap.objs.size + 1)) { s with heap := h' }) :
    wpAny (model prog w) A (call (.type "enumerate") [.ref l]) Q E s := by
  obtain ⟨⟨c, dct, dt, sl⟩, hl, hc, n, hd⟩ := hL
  cases (show c = .type "tuple" from hc)
  cases (show dt = .seq items n from hd)
  refine callType_new F.called_enumerate (by decide) (F.typeCall_enumerate_1 _) (F.newCall_enumerate_1 _) (fun obj => F.args_object_init_2 obj _) F.entry_enumerate_new (enum_newT l items n dct sl) ⟨hl, ?_⟩
  have z : (s.heap.push { cls := .type "tuple_iterator", data := .fields #[.ref l, .int 0 0] }).objs.size = s.heap.objs.size + 1 := Heap.size_push ..
  show _ ∧ _
  rw [z]
  have he : IsEnum ((s.heap.push { cls := .type "tuple_iterator", data := .fields #[.ref l, .int 0 0] }).push { cls := .type "enumerate", data := .fields #[.none, .bool false, .ref s.heap.objs.size, rawInt 0, .none, .none] }) (s.heap.objs.size + 1) s.heap.objs.size 0 .none := by
    have q := Heap.get?_push_size (s.heap.push { cls := .type "tuple_iterator", data := .fields #[.ref l, .int 0 0] }) (o := { cls := .type "enumerate", data := .fields #[.none, .bool false, .ref s.heap.objs.size, rawInt 0, .none, .none] }) rfl
    rw [z] at q
    exact q
  exact ⟨⟨_, he, rfl⟩, h _ he ⟨_, Heap.get?_push_of_some _ (Heap.get?_push_size _ rfl), rfl, rfl⟩ (by rw [Heap.size_push, z]) fun b o x => Heap.get?_push_of_some _ (Heap.get?_push_of_some _ x)⟩
end
end PySem
namespace Sl
open PySem PySem.Spec PyProof.Rows L2
def Iett (K : PySem.W.Frag) (a : Addr) : It :=
  ⟨fun i H => ∃ (xs : List V) (x : V), SqT K H a xs ∧ xs[i]? = some x, fun i H v H' => ∃ T x, v = .ref T ∧ H T = none ∧ H' = upd H T (.tup [.int (i : Nat), x]) ∧ ∀ xs, SqT K H a xs → xs[i]? = some x, fun i H => ∃ xs : List V, SqT K H a xs ∧ xs.length ≤ i⟩
theorem turn_enumT {P : Program} {w : World} {K : PySem.W.Frag} {elts : List Expr} {kk : Nat} {tpos : Pos} (a e it : Addr) :
    Turn P w K (.Tuple elts kk tpos) (Iett K a) [e, it] e (fun i h => (∃ old, IsEnum h e it ((i : Nat) : Int) old) ∧ h.IsTupleIter it a i ∧ e ≠ it) where
  mem := by simp
  obj := fun i h st b hb => by
    obtain ⟨⟨old, he⟩, ⟨o, ho, hc, hd⟩, _⟩ := st
    rcases (show b = e ∨ b = it by simpa using hb) with rfl | rfl
    · exact ⟨_, he, fun v q => nomatch q⟩
    · exact ⟨o, ho, fun v q => by rw [hd] at q; cases q⟩
  keep := fun i h h' st k => by
    obtain ⟨⟨old, he⟩, ⟨o, ho, r⟩, ne⟩ := st
    exact ⟨⟨old, k e (by simp) _ he⟩, ⟨o, k it (by simp) _ ho, r⟩, ne⟩
  item := by
    intro X eP ew eK hc i pins s σ H E I fr st gg
    subst eP ew eK
    obtain ⟨⟨old, he⟩, hit, ne⟩ := st
    obtain ⟨xs, x, hq, hx⟩ := gg
    obtain ⟨us, rv, tp, z⟩ := I.tuple hq
    obtain ⟨u, hu, ru⟩ := rv.get hx
    have tp : s.heap.IsTuple a us.toArray := tp
    have el : e < s.heap.objs.size := Heap.lt_size he
    have il : it < s.heap.objs.size := by
      obtain ⟨_, q, _⟩ := hit
      exact Heap.lt_size q
    have hh : X.A.in1.handled = none := I.ok.hd hc
    have nai : a ≠ it := fun q => by
      obtain ⟨o1, e1, c1, _⟩ := hit
      obtain ⟨o2, e2, c2, _⟩ := tp
      rw [q, e1] at e2
      cases e2
      rw [c1] at c2
      exact absurd c2 (by decide)
    have nea : e ≠ a := fun q => by
      obtain ⟨o2, e2, c2, _⟩ := tp
      have he' : s.heap.get? e = _ := he
      rw [q, e2] at he'
      cases he'
      exact absurd (show Value.type "enumerate" = Value.type "tuple" from c2) (by decide)
    have D := Draws.tuple (prog := X.prog) (w := X.w) hh it a nai us.toArray
    have iz : i < us.toArray.size := by
      have k1 := (List.getElem?_eq_some_iff.mp hx).1
      have k2 := rv.length
      rw [List.size_toArray]
      omega
    refine wpAny_pyNext_enum_itemD D he ⟨hit, tp⟩ iz ne (by simp [ne, nea]) fun v h' tk hv ho hs hT sz hk => ?_
    have ev : v = u := by
      have k : us.toArray[i]? = some v := hv
      rw [List.getElem?_toArray, hu] at k
      exact (Option.some.inj k).symm
    subst ev
    refine ⟨_, rfl, wpAny_letOwnedTupleGo_enum (s := { s with heap := h', toks := tk + 1 }) ho fun h'' he' sb => ?_⟩
    have hT2 : h''.get? s.heap.objs.size = some { cls := .type "tuple", data := .seq #[.int i tk, v] } := (sb.2 _ (Nat.ne_of_gt el)).trans hT
    have new : ObjOk X.prog X.w (upd H s.heap.objs.size (.tup [.int (i : Nat), x])) h'' s.heap.objs.size (.tup [.int (i : Nat), x]) := ⟨by show 2 ≤ sizeLine; decide, [.int i tk, v], .cons ⟨_, rfl⟩ (.cons ru .nil), ⟨_, hT2, rfl, _, rfl⟩⟩
    have J : Inv X pins σ (upd H s.heap.objs.size (.tup [.int (i : Nat), x])) { s with heap := h'', toks := tk + 1 } :=
      I.turnedNew (ch := [e, it]) (fun b ob nb q => (sb.2 b (fun w => nb (by simp [w]))).trans (hk b ob (fun w => nb (by simp [w])) (fun w => nb (by simp [w])) q)) fr (Nat.le_refl _) new
    refine ⟨.ref s.heap.objs.size, _, J, rfl, ⟨_, x, rfl, I.hok.fresh (Nat.le_refl _), rfl, fun ys hy => by rw [I.tuple_inj hy hq]; exact hx⟩, ⟨⟨v, ?_⟩, ?_, ne⟩, fun b hb => ?_⟩
    · rw [show ((i + 1 : Nat) : Int) = (i : Int) + 1 by omega]
      exact he'
    · obtain ⟨o, g, r⟩ := hs.1
      exact ⟨o, (sb.2 it (Ne.symm ne)).trans g, r⟩
    · have lt : b < s.heap.objs.size := by
        rcases (show b = e ∨ b = it by simpa using hb) with rfl | rfl
        · exact el
        · exact il
      rw [upd_ne (Nat.ne_of_lt lt)]
      exact (fr b hb).1
  done := by
    intro X eP ew eK hc i pins s σ H E I fr st gg
    subst eP ew eK
    obtain ⟨⟨old, he⟩, hit, ne⟩ := st
    obtain ⟨xs, hq, hx⟩ := gg
    obtain ⟨us, rv, tp, z⟩ := I.tuple hq
    have tp : s.heap.IsTuple a us.toArray := tp
    obtain ⟨f0, f1, f2, f3, f4, f5⟩ := fr it (by simp)
    have hh : X.A.in1.in1.handled = none := I.ok.hd hc
    have ln := rv.length
    have hT : s.TypeIs (.ref e) "enumerate" := ⟨_, he, rfl⟩
    unfold pyNext
    refine wpAny_bind (wpAny_attempt (wpAny_callSpecial?_slot (name := Str.ofString "__next__") hT F.slot_enumerate_next (wpAny_call_entry F.slot_enumerate_next hT F.entry_enumerate_next ?_ (F.args_enumerate_next_1 _))))
    show wpAny _ _ (field (.ref e) 2 >>= _) _ _ _
    refine wpAny_bind (wpAny_field he rfl (x := .ref it) rfl (wpAny_bind (wpAny_nextOf_tuple_end hh hit tp (by simp; omega) fun h' y eb hy => ?_)))
    obtain ⟨o, ho, hc⟩ := hy
    exact wpAny_bind (wpAny_isInstance (T := "StopIteration") (b := true) ⟨o, ho, hc⟩ isSubtype_stop (wpAny_pure ⟨rfl, I.turned (t' := s.toks) (fun b o hb q => eb b o hb q) f0 f1 f3 f4 f5⟩))
  self := fun A i s Q E st h => let ⟨⟨_, he⟩, _⟩ := st; wpAny_pyIter_enum he h
def ItE (K : PySem.W.Frag) (k : Bool) (a : Addr) : It := match k with
  | true => Ite K a
  | false => Iett K a
theorem walk_enumT {K : PySem.W.Frag} {a : Addr} {xs : List V} : Walk (Iett K a) xs.length (fun H => SqT K H a xs) (YPair (fun i => some (.int (i : Nat))) (fun i => xs[i]?)) := by
  refine ⟨fun i _ hi q => ⟨xs, xs[i], q, by simp [hi]⟩, fun _ q => ⟨xs, q, Nat.le_refl _⟩, fun i H v H' _ q y => ?_⟩
  obtain ⟨T, x, h1, h2, h3, h4⟩ := y
  exact ⟨T, .int (i : Nat), x, h1, h2, h3, rfl, h4 xs q⟩
theorem walk_enumK {K : PySem.W.Frag} {k : Bool} {a : Addr} {xs : List V} : Walk (ItE K k a) xs.length (fun H => SqK K k H a xs) (YPair (fun i => some (.int (i : Nat))) (fun i => xs[i]?)) := by
  cases k
  · exact walk_enumT
  · exact walk_enum
def iEnumK (K : PySem.W.Frag) (ta : TA) : TI := fun σ H R => ta σ H fun vs H1 => ∃ (k : Bool) (a : Addr) (xs : List V), vs = [.ref a] ∧ SqK K k H1 a xs ∧ R (ItE K k a) H1
theorem pi_enumK {X : Cx} {e : Expr} {ta : TA} {p pos tpos : Pos} {elts : List Expr} {kk : Nat} (hg : Gl X "enumerate") (hm : X.mg "enumerate" = none) (ha : PA X [e] ta) (hs : starEach [e] X.env = [(false, eval e X.env)] := by rfl) :
    PI X (.Tuple elts kk tpos) (.Call (.Name "enumerate" p) [e] [] pos) (iEnumK X.K ta) := by
  refine ⟨fun pins s σ H R I h => Call_ (ld_blt I hg hm boot_enumerate (callWith_type1 (thn (ha.run pos pins s σ H _ I h) fun us s1 r => ?_) hs rfl))⟩
  obtain ⟨vs, H1, J, rv, k, a, xs, rfl, hq, q⟩ := r
  cases rv with
  | cons r rr =>
    cases rr
    cases r
    have ge : ∀ b : Addr, b ∈ [s1.heap.objs.size + 1, s1.heap.objs.size] → s1.heap.objs.size ≤ b := fun b hb => by
      rcases (show b = s1.heap.objs.size + 1 ∨ b = s1.heap.objs.size by simpa using hb) with z | z
      · rw [z]
        exact Nat.le_add_right _ _
      · rw [z]
        exact Nat.le_refl _
    cases k with
    | true =>
      obtain ⟨its, rs, pl, z⟩ := J.list hq
      refine call_enumerate_list pl.isList fun h' he hit sz hk => wpAny_pyIter_enum he ⟨s1.heap.objs.size + 1, [s1.heap.objs.size + 1, s1.heap.objs.size], _, _, H1, rfl, J.kept (t' := s1.toks) hk, turn_enum a (s1.heap.objs.size + 1) s1.heap.objs.size, ⟨⟨.none, he⟩, hit, Nat.succ_ne_self _⟩, fun b hb => ?_, q⟩
      exact J.fpOk (ge b hb) (J.hok.fresh (ge b hb))
    | false =>
      obtain ⟨its, rs, pl, z⟩ := J.tuple hq
      refine call_enumT (show s1.heap.IsTuple a its.toArray from pl) fun h' he hit sz hk => wpAny_pyIter_enum he ⟨s1.heap.objs.size + 1, [s1.heap.objs.size + 1, s1.heap.objs.size], _, _, H1, rfl, J.kept (t' := s1.toks) hk, turn_enumT a (s1.heap.objs.size + 1) s1.heap.objs.size, ⟨⟨.none, he⟩, hit, Nat.succ_ne_self _⟩, fun b hb => ?_, q⟩
      exact J.fpOk (ge b hb) (J.hok.fresh (ge b hb))
end Sl
/-! ## B4 -/
set_option Elab.async false
set_option linter.all false
set_option maxRecDepth 100000
set_option maxHeartbeats 4000000
/-! sorted of a tuple of ints; has_length and are_states of a list or a tuple -/
namespace PyProof.Rows
open PySem PySem.W PySem.Calls
section
variable {prog : Program} {w : World} {A : Around} {E : Value → Shared → Prop} {s : Shared}
theorem collect_tupK {a : Addr} {us : List Value} {Q : List Value → Shared → Prop} (ht : s.heap.IsTuple a us.toArray)
    (h : Q us { s with heap := (s.heap.push (seqObj "list" #[] 0)).update s.heap.objs.size (Obj.mapSeq (· ++ us.toArray)) }) (z : us.length ≤ sizeLine) : wpAny (model prog w) A (collect (.ref a)) Q E s := by
  obtain ⟨o, ho, hc, n, hd⟩ := id ht
  unfold collect
  refine wpAny_bind (wpAny_runValue (codeAny_builtin entry_proto_collect' ?_))
  show wpAny _ _ (do again (.builtin "list.__iadd__" ⟨[← newList [], .ref a], []⟩)) _ _ s
  refine wpAny_bind (wpAny_newList (wpAny_pure ⟨Code.quiet_builtin _ (by decide +kernel), codeAny_builtin entry_list_iadd' ?_⟩))
  show wpAny _ _ (Builtin.List.listExtendWith (.ref s.heap.objs.size) (.ref a) (.ref s.heap.objs.size)) _ _ { s with heap := s.heap.push (seqObj "list" #[] 0) }
  unfold Builtin.List.listExtendWith
  have ho1 : (s.heap.push (seqObj "list" #[] 0)).get? a = some o := Heap.get?_push_of_some _ ho
  refine wpAny_bind (wpAny_typeOf (T := "tuple") ⟨o, ho1, hc⟩ ?_)
  rw [if_pos (by rw [show (Value.type "tuple" == Value.type "tuple") = true by rfl]; simp)]
  refine wpAny_bind (listItems_at ho1 hd (wpAny_bind (listItems_at (xs := #[]) (n := 0) (Heap.get?_push_size _ rfl) rfl ?_)))
  rw [if_neg (by simp)]
  refine wpAny_bind (listUpdate_at (xs := #[]) (n := 0) (Heap.get?_push_size _ rfl) rfl ?_ (Nat.zero_le _) (by show (#[] ++ us.toArray).size ≤ sizeLine + 1; simp only [Array.size_append, List.size_toArray, List.length_nil]; omega))
  refine wpAny_pure ?_
  show wpAny (model prog w) A (do
      let o ← load s.heap.objs.size
      match o.data with
      | .seq xs _ => pure xs.toList
      | _ => unsupported "internal:collect") Q E { s with heap := (s.heap.push (seqObj "list" #[] 0)).update s.heap.objs.size (Obj.mapSeq (· ++ us.toArray)) }
  refine wpAny_bind (wpAny_load (get?_update_seq (Heap.get?_push_size _ rfl) _) ?_)
  show wpAny _ _ (pure ((#[] : Array Value) ++ us.toArray).toList) Q E _
  rw [show ((#[] : Array Value) ++ us.toArray).toList = us by simp]
  exact wpAny_pure h
theorem sorted_tupK {a : Addr} {us : List Value} {ns : List Int} {Q : Value → Shared → Prop} (ht : s.heap.IsTuple a us.toArray) (hI : IntsAre us ns) (h64 : us.length < 64)
    (h : ∀ (out : Array Value) (ms : List Int), IntsAre out.toList ms → ms.Perm ns → ms.Pairwise (· ≤ ·) → Q (.ref (s.heap.objs.size + 1)) { s with heap := sortedAll s.heap us out }) :
    wpAny (model prog w) A (call (.builtin "sorted") [.ref a]) Q E s := by
  refine Calls.call_function_entry kind_sorted plain_sorted entry_sorted (args_sorted1 _) ?_
  unfold Builtin.«sorted»
  refine wpAny_bind (m := checkCount "sorted" 1 1 _) (wpAny_pure (wpAny_bind (collect_tupK ht (wpAny_bind (wpAny_newList ?_)) (by rw [sizeLine_eq]; omega))))
  have z : ((s.heap.push (seqObj "list" #[] 0)).update s.heap.objs.size (Obj.mapSeq (· ++ us.toArray))).objs.size = s.heap.objs.size + 1 := by rw [Heap.size_update, size_push']
  have at_ : (((s.heap.push (seqObj "list" #[] 0)).update s.heap.objs.size (Obj.mapSeq (· ++ us.toArray))).push (seqObj "list" us.toArray 0)).get? (s.heap.objs.size + 1) = some (seqObj "list" us.toArray 0) := by
    rw [← z]
    exact Heap.get?_push_size _ rfl
  show wpAny _ _ _ _ _ { s with heap := ((s.heap.push (seqObj "list" #[] 0)).update s.heap.objs.size (Obj.mapSeq (· ++ us.toArray))).push (seqObj "list" us.toArray 0) }
  rw [z]
  exact wpAny_bind (wpAny_holding (wpAny_call_entry slot_list_sort ⟨_, at_, rfl⟩ entry_list_sort (list_sort_tree at_ hI h64 fun out ms a1 a2 a3 => ⟨_, rfl, wpAny_pure ⟨_, rfl, h out ms a1 a2 a3⟩⟩) (args_list_sort _)))
end
end PyProof.Rows
namespace Sl
open PySem PySem.Spec PyProof.Rows L2
def rSortedK (K : PySem.W.Frag) : List V → Hp → VK → Prop := fun vs H Q => ∃ (k : Bool) (a : Addr) (ns : List Int), vs = [V.ref a] ∧ SqK K k H a (ns.map V.int) ∧ ns.length < 64 ∧
  ∀ (ms : List Int) (p : Addr), ms.Perm ns → ms.Pairwise (· ≤ ·) → H p = none → Q (.ref p) (upd H p (.lst (ms.map V.int)))
theorem cr_sortedK {X : Cx} : CallR X (.builtin "sorted") (rSortedK X.K) := by
  intro pins s σ H vs us Q I r h
  obtain ⟨k, a, ns, rfl, hs, h64, q⟩ := h
  cases k with
  | true => exact cr_sorted pins s σ H _ us Q I r ⟨a, ns, rfl, hs, h64, q⟩
  | false =>
    obtain ⟨its, rv, tp, _⟩ := I.tuple hs
    rw [Vals.ref1 r]
    have hi := rv.ints
    refine sorted_tupK (show s.heap.IsTuple a its.toArray from tp) hi (by rw [hi.length]; exact h64) fun out ms h1 h2 h3 => ?_
    obtain ⟨ep, e⟩ := sortedAll_at s.heap its out
    exact ⟨.ref _, upd H (s.heap.objs.size + 1) (.lst (ms.map V.int)), I.laid (t' := s.toks) (fun _ _ => sortedAll_old) (Nat.le_succ _) ⟨by rw [List.length_map, h2.length_eq]; exact small64 h64, out.toList, ep, vals_of_ints h1, e⟩, rfl, q ms _ h2 h3 (I.hok.fresh (Nat.le_succ _))⟩
def spHasLenK (K : PySem.W.Frag) : Sp := fun vs H Q _ => ∃ (k : Bool) (a : Addr) (xs : List V) (m n : Int), vs = [.ref a, .int m, .int n] ∧ SqK K k H a xs ∧ ∀ H', Ext H H' → Q (.bl (decide (m ≤ xs.length) && decide ((xs.length : Int) ≤ n))) H'
def spAreStatesK (K : PySem.W.Frag) : Sp := fun vs H Q _ => ∃ (k : Bool) (a : Addr) (ns : List Int) (n : Int), vs = [.ref a, .int n] ∧ SqK K k H a (ns.map V.int) ∧ ns.length < 64 ∧ ns.Nodup ∧ (∀ i ∈ ns, 0 ≤ i ∧ i < n) ∧ ∀ H', Ext H H' → Q (.bl true) H'
section
variable {P : Program} {w : World} {K : PySem.W.Frag} {mg : Str → Option Value} {base : Heap}
theorem ok_haslenK {f : Addr} {fd : FuncData} (F : Fun K "has_length" "has_length" sHasLen f fd) (zz : mg "isinstance" = none) (zl : mg "list" = none) (zt : mg "tuple" = none) (zn : mg "len" = none) :
    FnOk P w K mg base CX0 1 f fd ["value", "least", "most"] (spHasLenK K) := by
  refine F.ok scHasLen (fun vs H Q E h => ?_) (fun cdv A outer s H vs Q E hr h => ?_)
  · obtain ⟨k, a, xs, m, n, rfl, _⟩ := h
    rfl
  · obtain ⟨k, a, xs, m, n, rfl, ha, q⟩ := h
    refine ⟨_, pss_one (ps_ret (pe_and (pe_callB call_isiT (by rfl) zz (by decide +kernel) (pa_cons (pv 0) (pa_cons (pe_tup (pa_cons (pe_bltn (by rfl) zl (by decide +kernel) (rel_ty "list")) (pa_cons (pe_bltn (by rfl) zt (by decide +kernel) (rel_ty "tuple")) pa_nil))) pa_nil)))
      (pe_one (pe_chain op_le op_le (pv 1) (pe_callB call_len_seq (by rfl) zn PySem.boot_len (pa_cons (pv 0) pa_nil)) (pv 2))))), ?_⟩
    refine ⟨_, rfl, (by show 2 ≤ sizeLine; decide), fun p hp => ?_⟩
    have x1 : Ext H (upd H p (.tup [.ty "list", .ty "tuple"])) := Ext.new hp
    have hs := ha.ext x1
    refine ⟨_, p, _, _, _, true, rfl, upd_same, .cons (.ty _) (.cons (.ty _) .nil), hs.kind, seq_any k, true, rfl, _, rfl, _, rfl, _, _, rfl, hs.or, _, _, rfl, rfl, _, rfl, ?_⟩
    have q' := q _ x1
    by_cases c : m ≤ xs.length
    · simp only [c, decide_true, Bool.true_and, if_true] at q' ⊢
      exact ⟨_, rfl, _, _, rfl, rfl, q'⟩
    · simp only [c, decide_false, Bool.false_and, Bool.false_eq_true, if_false] at q' ⊢
      exact q'
theorem ok_arestatesK {f fB : Addr} {fd fdB : FuncData} (F : Fun K "are_states" "are_states" sAreStates f fd) (aB : At K mg "is_below" fB fdB ["value", "limit"] []) (gB : FnOk P w K mg base CX0 2 fB fdB ["value", "limit"] (spBelow K))
    (zz : mg "isinstance" = none) (zl : mg "list" = none) (zt : mg "tuple" = none) (zn : mg "len" = none) (za : mg "all" = none) (zs : mg "set" = none) :
    FnOk P w K mg base CX0 3 f fd ["value", "many"] (spAreStatesK K) := by
  refine F.ok scAreStates (fun vs H Q E h => ?_) (fun cdv A outer s H vs Q E hr h => ?_)
  · obtain ⟨k, a, ns, n, rfl, _⟩ := h
    rfl
  · obtain ⟨k, a, ns, n, rfl, ha, hl, nd, hns, q⟩ := h
    refine ⟨_, pss_cons (ps_if (pt_not (pt_val (pe_callB call_isiT (by rfl) zz (by decide +kernel) (pa_cons (pv 0) (pa_cons (pe_tup (pa_cons (pe_bltn (by rfl) zl (by decide +kernel) (rel_ty "list")) (pa_cons (pe_bltn (by rfl) zt (by decide +kernel) (rel_ty "tuple")) pa_nil))) pa_nil))))) (pss_one (ps_ret pe_bl)) pss_nil)
      (pss_cons (ps_if (pt_not (pt_val (pe_callB (cr_all rfl) (by rfl) za (by decide +kernel) (pa_cons (pe_lc (own := [("state", 2)]) (g := gName 2) (tt := tYes) rfl scAreStates.nd (pi_seq (pv 0)) (blkOk_by (N := ["value", "many", "state"]) (sc := defScope sAreStates) (by decide +kernel))
          (fun _ _ _ _ _ => pg_name (i := 2) scAreStates.nd rfl (Or.inl rfl)) (fun _ _ _ _ _ => pts_nil) (fun _ _ _ _ _ => pe_call gB hr (by rfl) aB.g aB.kp aB.b .nil pass0 (pa_cons (pv 2) (pa_cons (pv 1) pa_nil)))) pa_nil)))) (pss_one (ps_ret pe_bl)) pss_nil)
      (pss_one (ps_ret (pe_cmpR op_eq (pe_lenSeqI (by rfl) zn (by rfl) zs (pv 0)) (pe_callB call_len_seq (by rfl) zn PySem.boot_len (pa_cons (pv 0) pa_nil)) (nomark _))))), ?_⟩
    refine ⟨_, rfl, (by show 2 ≤ sizeLine; decide), fun p hp => ?_⟩
    have x1 : Ext H (upd H p (.tup [.ty "list", .ty "tuple"])) := Ext.new hp
    refine ⟨_, p, _, _, _, true, rfl, upd_same, .cons (.ty _) (.cons (.ty _) .nil), (ha.ext x1).kind, seq_any k, true, rfl, iteF ?_⟩
    generalize upd H p (.tup [.ty "list", .ty "tuple"]) = H1 at x1
    refine ⟨_, rfl, k, a, rfl, ⟨_, ha.ext x1⟩, fun D hD => ?_⟩
    refine lc_it (walk_seq (xs := ns.map V.int)) (fun i H' => Ext H H' ∧ H' D = some (.lst ((List.replicate i true).map V.bl))) ⟨x1.trans (Ext.new hD), upd_same⟩ (fun i H' _ h => ha.ext h.1) ?_ ?_
    · rintro i x H2 H' hi ⟨h1, h2⟩ ⟨rfl, hx⟩
      obtain ⟨z, hz, rfl⟩ := at_map hx
      have hil : i < ns.length := (List.getElem?_eq_some_iff.mp hz).1
      have hb := hns z (List.mem_of_getElem? hz)
      refine ⟨rfl, _, rfl, _, rfl, .int z, n, rfl, .inl ⟨z, rfl⟩, ?_⟩
      rw [show below (.int z) n = true by unfold below; simp [hb.1, hb.2]]
      refine ⟨_, h2, by rw [List.length_map, List.length_replicate]; exact small1000 (by omega), fun b o e => by rw [upd_ne (ne_of_none (x1 _ _ e) hD)]; exact h1 b o e, ?_⟩
      rw [upd_same, List.replicate_succ', List.map_append]
      rfl
    · rintro H' ⟨h1, h2⟩
      refine ⟨D, List.replicate (ns.map V.int).length true, rfl, SqL.of h2, true, by simp, iteF ?_⟩
      refine ⟨_, rfl, k, a, ns, rfl, ha.ext h1, nd, (by omega), _, rfl, a, _, rfl, (ha.ext h1).or, ?_⟩
      have e : decide (V.int (ns.length : Nat) = V.int ((ns.map V.int).length : Nat)) = true := by
        rw [List.length_map]
        simp
      have q' := q _ h1
      rw [← e] at q'
      exact ⟨rfl, q'⟩
end
end Sl
/-! ## P12 -/
set_option Elab.async false
set_option linter.all false
set_option maxRecDepth 100000
set_option maxHeartbeats 4000000
namespace Sl
open PySem PySem.Spec PyProof.Rows L2 TxS
/-- the rows again, each by ascending keys -/
inductive Ascs : List Rw → List Rw → Prop
  | nil : Ascs [] []
  | cons {r r' : Rw} {rs rs' : List Rw} : r.Perm r' → sortedS (r'.map (·.1)) = true → Ascs rs rs' → Ascs (r :: rs) (r' :: rs')
theorem Ascs.perms : ∀ {a b : List Rw}, Ascs a b → Perms a b
  | _, _, .nil => .nil
  | _, _, .cons p _ h => .cons p h.perms
theorem Ascs.snoc {r r' : Rw} (p : r.Perm r') (s : sortedS (r'.map (·.1)) = true) : ∀ {a b : List Rw}, Ascs a b → Ascs (a ++ [r]) (b ++ [r'])
  | _, _, .nil => .cons p s .nil
  | _, _, .cons q t h => .cons q t (h.snoc p s)
/-- a reader stands at p: its rows by ascending signs, its ends ascending, its start, its names -/
structure ReaderX (C : Addr) (H : Hp) (p : Addr) (rows : List Rw) (ends : List Int) (b : Int) (ys ts : List Str) : Prop where
  ex : ∃ dx fs L ds Te M, H p = some (.ins C dx fs) ∧ fs.lookup ("_states" : Str) = some (.ref L) ∧ H L = some (.lst (ds.map V.ref)) ∧ RowsAt H ds rows ∧ fs.lookup ("_ends" : Str) = some (.ref Te) ∧ H Te = some (.tup (ends.map V.int)) ∧
    fs.lookup ("_start" : Str) = some (.int b) ∧ fs.lookup ("_page_signs" : Str) = some (.str (Txt.join "" ys)) ∧ fs.lookup ("_text_signs" : Str) = some (.str (Txt.join "" (ts.filter signS))) ∧ fs.lookup ("_marks" : Str) = some (.ref M) ∧ H M = some (.lst ((ts.filter markS).map V.str)) ∧ ds.Nodup ∧
    ∀ f, f ∉ (["_states", "_ends", "_start", "_page_signs", "_text_signs", "_marks"] : List Str) → fs.lookup f = none
theorem ReaderX.plain {C : Addr} {H : Hp} {p : Addr} {rows : List Rw} {ends : List Int} {b : Int} {ys ts : List Str} (h : ReaderX C H p rows ends b ys ts) : ReaderAt C H p rows ends b := by
  obtain ⟨dx, fs, L, ds, Te, M, a1, a2, a3, a4, a5, a6, a7, _, _, _, _, _, a8⟩ := h.ex
  exact ⟨dx, fs, L, ds, Te, a1, a2, a3, a4, a5, a6, a7, a8⟩
/-- a list or tuple stays where an instance changes -/
theorem SqK.keepI {K : PySem.W.Frag} {k : Bool} {H H' : Hp} {a p C dx : Addr} {fs : List (Str × V)} {xs : List V} (x : Keep p H H') (hp : H p = some (.ins C dx fs)) (h : SqK K k H a xs) : SqK K k H' a xs := by
  have r : ∀ {o : HO}, (∀ C dx fs, o ≠ .ins C dx fs) → Rd H a o → Rd H' a o := fun {o} no h => by
    rcases h with h | ⟨ob, h⟩
    · exact .inl (x _ _ h fun e => by rw [e, hp] at h; cases h; exact no _ _ _ rfl)
    · exact .inr ⟨ob, x _ _ h fun e => by rw [e, hp] at h; cases h⟩
  cases k
  · exact h.elim (fun h => .inl (r (fun _ _ _ z => by cases z) h)) .inr
  · exact h.elim (fun h => .inl (r (fun _ _ _ z => by cases z) h)) .inr
/-- the reader at p, in H', has parts of its own that were not there in H -/
def NewR (C : Addr) (H H' : Hp) (p : Addr) : Prop := ∃ (dx : Addr) (fs : List (Str × V)) (L : Addr) (ds : List Addr) (Te M : Addr), H' p = some (.ins C dx fs) ∧ fs.lookup ("_states" : Str) = some (.ref L) ∧ H' L = some (.lst (ds.map V.ref)) ∧ fs.lookup ("_ends" : Str) = some (.ref Te) ∧ fs.lookup ("_marks" : Str) = some (.ref M) ∧
  H L = none ∧ H Te = none ∧ H M = none ∧ ∀ d ∈ ds, H d = none
theorem Keep.none' {p a : Addr} {H H' : Hp} {o : HO} (k : Keep p H H') (hp : H' p = some o) (n : H' a = none) : H a = none := by
  cases e : H a with
  | none => rfl
  | some u =>
    by_cases c : a = p
    · rw [c, hp] at n
      cases n
    · rw [k _ _ e c] at n
      cases n
/-- what Reader(..) asks of its arguments, and what it makes of them -/
def spInit (K : PySem.W.Frag) (C : Addr) : Sp := fun vs H Q _ => ∃ (ks ke : Bool) (p dx S En : Addr) (ds : List Addr) (rows : List Rw) (ns : List Int) (b : Int) (A B : List Str), vs = [.ref p, .ref S, .ref En, .int b] ∧ H p = some (.ins C dx []) ∧ SqK K ks H S (ds.map V.ref) ∧ RowsAt H ds rows ∧
  1 ≤ rows.length ∧ rows.length ≤ 12 ∧ (∀ r ∈ rows, okRow rows.length r ∧ (r.map (·.1)).Nodup ∧ r.length < 64) ∧ SqK K ke H En (ns.map V.int) ∧ ns.length < 64 ∧ ns.Nodup ∧ (∀ i ∈ ns, 0 ≤ i ∧ i < rows.length) ∧ 0 ≤ b ∧ b < rows.length ∧
  (∀ z ∈ keysOf rows, z ∈ A) ∧ A.length ≤ 6 ∧ (∀ z ∈ toldsOf rows, z ∈ B) ∧ B.length < 64 ∧ (B.filter signS).length ≤ 4 ∧ (B.filter markS).length ≤ 6 ∧
  ∀ (H' : Hp) (rows' : List Rw) (ns' : List Int) (ys ts : List Str), Keep p H H' → Ascs rows rows' → ns'.Perm ns → ns'.Pairwise (· ≤ ·) → Gath ys (keysOf rows) → sortedS ys = true → Gath ts (toldsOf rows) → sortedS ts = true → ReaderX C H' p rows' ns' b ys ts → NewR C H H' p → Q .non H'
theorem Perms.len : ∀ {a b : List Rw}, Perms a b → a.length = b.length
  | _, _, .nil => rfl
  | _, _, .cons _ h => congrArg (· + 1) h.len
theorem Perms.snoc {r r' : Rw} (p : r.Perm r') : ∀ {a b : List Rw}, Perms a b → Perms (a ++ [r]) (b ++ [r'])
  | _, _, .nil => .cons p .nil
  | _, _, .cons q h => .cons q (h.snoc p)
theorem Perms.keys : ∀ {a b : List Rw}, Perms a b → ∀ z, z ∈ keysOf b ↔ z ∈ keysOf a
  | _, _, .nil, _ => Iff.rfl
  | _, _, .cons (r := r) (r' := r') q h, z => by
    unfold keysOf
    rw [List.flatMap_cons, List.flatMap_cons, List.mem_append, List.mem_append]
    exact or_congr ((q.map (·.1)).mem_iff).symm (h.keys z)
theorem Perms.tolds : ∀ {a b : List Rw}, Perms a b → ∀ z, z ∈ toldsOf b ↔ z ∈ toldsOf a
  | _, _, .nil, _ => Iff.rfl
  | _, _, .cons (r := r) (r' := r') q h, z => by
    unfold toldsOf
    rw [List.flatMap_cons, List.flatMap_cons, List.mem_append, List.mem_append]
    exact or_congr ((q.filterMap _).mem_iff).symm (h.tolds z)
theorem RowsAt.snoc {H : Hp} {d : Addr} {r : Rw} (h : RowAt H d r) : ∀ {ds : List Addr} {rows : List Rw}, RowsAt H ds rows → RowsAt H (ds ++ [d]) (rows ++ [r])
  | _, _, .nil => .cons h .nil
  | _, _, .cons q k => .cons q (k.snoc h)
theorem tolds_name {n : Int} {rows : List Rw} (h : ∀ r ∈ rows, okRow n r) : ∀ z ∈ toldsOf rows, z.length ≤ 8 := fun z hz => by
  unfold toldsOf at hz
  obtain ⟨r, hr, h2⟩ := List.mem_flatMap.mp hz
  obtain ⟨e, he, h3⟩ := List.mem_filterMap.mp h2
  exact ((h r hr e he).2.2 z h3).2
theorem keys_name {n : Int} {rows : List Rw} (h : ∀ r ∈ rows, okRow n r) : ∀ z ∈ keysOf rows, z.length = 1 := fun z hz => by
  unfold keysOf at hz
  obtain ⟨r, hr, h2⟩ := List.mem_flatMap.mp hz
  obtain ⟨e, he, rfl⟩ := List.mem_map.mp h2
  exact (h r hr e he).1.2
open PySem.W TL in
theorem join_len : ∀ {ys : List Str}, (∀ z ∈ ys, z.length = 1) → (Txt.join "" ys).length = ys.length := fun {ys} h => by
  have e : ∀ l : List (List Nat), (joinL [] l).length = (l.map List.length).sum := by
    intro l
    induction l with
    | nil => rfl
    | cons x l ih =>
      cases l with
      | nil =>
        show x.length = x.length + 0
        omega
      | cons y r =>
        show (x ++ ([] ++ joinL [] (y :: r))).length = _
        rw [List.nil_append, List.length_append, ih]
        rfl
  have k : tl (Str.join ("" : Str) ys) = joinL (tl ("" : Str)) (ys.map tl) := tl_join "" ys
  have z : tl ("" : Str) = [] := rfl
  rw [join_eq]
  show (tl (Str.join ("" : Str) ys)).length = ys.length
  rw [k, z, e, List.map_map]
  have q : ∀ l : List Str, (∀ x ∈ l, x.length = 1) → (l.map (List.length ∘ tl)).sum = l.length := by
    intro l
    induction l with
    | nil => intro _; rfl
    | cons x l ih =>
      intro hh
      have h1 : (tl x).length = 1 := hh x List.mem_cons_self
      rw [List.map_cons, List.sum_cons, List.length_cons, ih fun y hy => hh y (List.mem_cons_of_mem _ hy)]
      show (tl x).length + _ = _
      omega
  exact q ys h
section
variable {P : Program} {w : World} {K : PySem.W.Frag} {mg : Str → Option Value} {base : Heap}
theorem ok_init {f C fH fR fA fB fC fN fL : Addr} {fd fdH fdR fdA fdB fdC fdN fdL : FuncData} {dvs : List V} {kws : List (Str × V)} (F : FunD K "__init__" "Reader.__init__" (defArgs sInit) (defBody sInit) (defScope sInit) dvs kws f fd) (T : RdC K C)
    (aH : At K mg "has_length" fH fdH ["value", "least", "most"] []) (gH : FnOk P w K mg base CX0 1 fH fdH ["value", "least", "most"] (spHasLenK K))
    (aR : At K mg "_is_reader_state" fR fdR ["value", "many"] []) (gR : FnOk P w K mg base CX0 4 fR fdR ["value", "many"] spIsRow)
    (aA : At K mg "are_states" fA fdA ["value", "many"] []) (gA : FnOk P w K mg base CX0 3 fA fdA ["value", "many"] (spAreStatesK K))
    (aB : At K mg "is_below" fB fdB ["value", "limit"] []) (gB : FnOk P w K mg base CX0 2 fB fdB ["value", "limit"] (spBelow K))
    (aC : At K mg "_copied_state" fC fdC ["state"] []) (gC : FnOk P w K mg base CX0 1 fC fdC ["state"] spCopied)
    (mN : Meth K C "_collect_names" fN) (bN : Binds K fdN ["self"] []) (gN : FnOk P w K mg base CX0 4 fN fdN ["self"] (spCollect C))
    (mL : Meth K C "_check_limits" fL) (bL : Binds K fdL ["self"] []) (gL : FnOk P w K mg base CX0 1 fL fdL ["self"] (spLimits C))
    {u12 : Value} (c12 : Con K C "MAX_STATES" (.int 12) u12) (zn : mg "len" = none) (ze : mg "enumerate" = none) (zt : mg "tuple" = none) (zs : mg "sorted" = none) :
    FnOk P w K mg base CX0 5 f fd ["self", "states", "ends", "start"] (spInit K C) := by
  refine F.ok scInit (fun vs H Q E h => ?_) (fun cdv A0 outer s H vs Q E hr h => ?_)
  · obtain ⟨ks, ke, p, dx, S, En, ds, rows, ns, b, A, B, rfl, _⟩ := h
    rfl
  · obtain ⟨ks, ke, p, dx, S, En, ds, rows, ns, b, A, B, rfl, hp, hS, hrw, r1, r12, hok, hE, nl, nnd, nin, b0, bn, hA, lA, hB, lB, fB1, fB2, q⟩ := h
    refine ⟨_, PSs.nox (pss_cons (ps_if (pt_not (pt_val (pe_call gH (hr.mono (by decide)) (by rfl) aH.g aH.kp aH.b .nil pass0 (pa_cons (pv 1) (pa_cons pe_int (pa_cons (pe_con (pv 0) rfl) pa_nil)))))) (pss_one ps_never) pss_nil)
      (pss_cons (ps_for PassesOwn.never rfl (pi_enumK (by rfl) ze (pa_cons (pv 1) pa_nil)) (pg_tup rfl (pgs_cons (pg_name (i := 4) scInit.nd rfl (.inl rfl)) (pgs_cons (pg_name (i := 5) scInit.nd rfl (.inl rfl)) pgs_nil)))
        (pss_one (ps_if (pt_not (pt_val (pe_call gR hr (by rfl) aR.g aR.kp aR.b .nil pass0 (pa_cons (pv 5) (pa_cons (pe_callB call_len_seq (by rfl) zn PySem.boot_len (pa_cons (pv 1) pa_nil)) pa_nil))))) (pss_one ps_never) pss_nil)))
      (pss_cons (ps_if (pt_not (pt_val (pe_call gA (hr.mono (by decide)) (by rfl) aA.g aA.kp aA.b .nil pass0 (pa_cons (pv 2) (pa_cons (pe_callB call_len_seq (by rfl) zn PySem.boot_len (pa_cons (pv 1) pa_nil)) pa_nil))))) (pss_one ps_never) pss_nil)
      (pss_cons (ps_if (pt_not (pt_val (pe_call gB (hr.mono (by decide)) (by rfl) aB.g aB.kp aB.b .nil pass0 (pa_cons (pv 3) (pa_cons (pe_callB call_len_seq (by rfl) zn PySem.boot_len (pa_cons (pv 1) pa_nil)) pa_nil))))) (pss_one ps_never) pss_nil)
      (pss_cons (ps_fld (pv 0) (pe_lc (own := [("state", 5)]) (g := gName 5) (tt := tYes) rfl scInit.nd (pi_seq (pv 1)) (blkOk_by (N := ["self", "states", "ends", "start", "index", "state"]) (sc := defScope sInit) (by decide +kernel))
          (fun _ _ _ _ _ => pg_name (i := 5) scInit.nd rfl (Or.inl rfl)) (fun _ _ _ _ _ => pts_nil) (fun _ _ _ _ _ => pe_call gC (hr.mono (by decide)) (by rfl) aC.g aC.kp aC.b .nil pass0 (pa_cons (pv 5) pa_nil))) rfl)
      (pss_cons (ps_fld (pv 0) (pe_callTy call_tuple_of (by rfl) zt (by decide +kernel) (pa_cons (pe_callB cr_sortedK (by rfl) zs (by decide +kernel) (pa_cons (pv 2) pa_nil)) pa_nil)) rfl)
      (pss_cons (ps_fld (pv 0) (pv 3) rfl)
      (pss_cons (ps_expr (pe_meth0 (pv 0) T.cl mN gN hr bN .nil pass0))
      (pss_one (ps_expr (pe_meth0 (pv 0) T.cl mL gL (hr.mono (by decide)) bL .nil pass0))))))))))), ?_⟩
    have lds : (ds.map V.ref).length = rows.length := by rw [List.length_map, hrw.len]
    -- has_length
    refine ⟨_, rfl, _, rfl, p, C, dx, _, _, _, rfl, hp, T.cl, c12, rfl, ks, S, _, 1, 12, rfl, hS, fun H1 x1 => ?_⟩
    rw [lds, decide_eq_true (by omega), decide_eq_true (by omega)]
    refine ⟨true, rfl, iteF ?_⟩
    -- each state
    refine ⟨_, rfl, ks, S, _, rfl, hS.ext x1, ?_⟩
    refine for_it (walk_enumK (xs := ds.map V.ref)) (fun i σ H2 => ∃ v4 v5, σ = [some (.ref p), some (.ref S), some (.ref En), some (.int b), v4, v5] ∧ Ext H H2) ⟨none, none, rfl, x1⟩ (fun i σ H2 _ ⟨_, _, _, x2⟩ => hS.ext x2) ?_ ?_
    · rintro i x σ H2 H3 hi ⟨v4, v5, rfl, x2⟩ ⟨T1, x3, y3, rfl, nT, rfl, e1, e2⟩
      obtain ⟨d, hd, rfl⟩ := at_map e2
      obtain ⟨r, hri, ra⟩ := hrw.at_ hd
      cases e1
      have x3 := x2.trans (Ext.new nT (o := .tup [.int (i : Nat), .ref d]))
      obtain ⟨o1, o2, o3⟩ := hok r (List.mem_of_getElem? hri)
      refine ⟨T1, _, rfl, SqT.of upd_same, rfl, _, _, rfl, _, _, rfl, rfl, ?_⟩
      refine ⟨_, rfl, _, rfl, S, _, rfl, (hS.ext x3).or, d, r, _, rfl, ?_, ?_, by omega, fun H4 x4 => ⟨true, rfl, iteF ⟨_, _, rfl, x3.trans x4⟩⟩⟩
      · obtain ⟨es, a1, a2⟩ := ra
        exact ⟨es, x3 _ _ a1, a2.ext fun t xs e => x3 _ _ e⟩
      · rw [lds]
        exact o1
    rintro σ H2 ⟨v4, v5, rfl, x2⟩
    -- are_states, is_below
    refine ⟨_, rfl, _, rfl, S, _, rfl, (hS.ext x2).or, ke, En, ns, _, rfl, hE.ext x2, nl, nnd, (by rw [lds]; exact nin), fun H3 x3 => ⟨true, rfl, iteF ?_⟩⟩
    have x3 := x2.trans x3
    refine ⟨_, rfl, _, rfl, S, _, rfl, (hS.ext x3).or, .int b, _, rfl, .inl ⟨b, rfl⟩, ?_⟩
    have eb : below (.int b) ((ds.map V.ref).length : Nat) = true := by
      rw [lds]
      unfold below
      simp [b0, bn]
    rw [eb]
    refine ⟨true, rfl, iteF ?_⟩
    -- self._states
    refine ⟨_, rfl, ks, S, rfl, ⟨_, hS.ext x3⟩, fun D nD => ?_⟩
    have x4 := x3.trans (Ext.new nD (o := .lst []))
    refine lc_it (walk_seq (xs := ds.map V.ref)) (fun i H4 => Ext H H4 ∧ ∃ ds' rows', H4 D = some (.lst (ds'.map V.ref)) ∧ RowsAt H4 ds' rows' ∧ Ascs (rows.take i) rows' ∧ ds'.Nodup ∧ (∀ d ∈ ds', H d = none)) ⟨x4, [], [], upd_same, .nil, .nil, List.nodup_nil, fun d h => by cases h⟩ (fun i H4 _ h => hS.ext h.1) ?_ ?_
    · rintro i x H4 H5 hi ⟨x5, ds', rows', l5, w5, p5, nd5, f5⟩ ⟨rfl, hx⟩
      obtain ⟨d, hd, rfl⟩ := at_map hx
      obtain ⟨r, hri, es, a1, a2⟩ := hrw.at_ hd
      obtain ⟨o1, o2, o3⟩ := hok r (List.mem_of_getElem? hri)
      have hil : i < rows.length := (List.getElem?_eq_some_iff.mp hri).1
      refine ⟨rfl, _, rfl, d, r, rfl, ⟨es, x5 _ _ a1, a2.ext fun t xs e => x5 _ _ e⟩, o2, o3, fun H6 p6 r' x6 n6 ra pm srt => ?_⟩
      have nDp : p6 ≠ D := fun z => by
        rw [z, l5] at n6
        cases n6
      have lw : ds'.length = rows'.length := w5.len
      have lp : rows'.length ≤ i := by
        rw [← p5.perms.len, List.length_take]
        omega
      have keepD : ∀ b o, H5 b = some o → b ≠ D → upd H6 D (.lst (ds'.map V.ref ++ [V.ref p6])) b = some o := fun b o e n => by
        rw [upd_ne n]
        exact x6 _ _ e
      refine ⟨_, x6 _ _ l5, by rw [List.length_map]; exact small_list (by omega), fun b o e => by rw [upd_ne (ne_of_none e (x3.free nD))]; exact x6 _ _ (x5 _ _ e), ds' ++ [p6], rows' ++ [r'], by rw [upd_same, List.map_append]; rfl, ?_, ?_, ?_, ?_⟩
      · refine RowsAt.snoc ?_ ?_
        · refine ra.same (upd_ne nDp) fun t xs e => ?_
          rw [upd_ne (ne_of e (x6 _ _ l5) (by intro z; cases z))]
          exact e
        · have w6 := w5.ext x6
          have kk : Keep D H6 (upd H6 D (.lst (ds'.map V.ref ++ [V.ref p6]))) := Keep.at_
          have l6 := x6 _ _ l5
          exact w6.keep kk (fun kvs e => by rw [l6] at e; cases e) (fun xs e => by rw [l6] at e; cases e)
      · rw [take_more hri]
        exact p5.snoc pm.symm srt
      · refine List.nodup_append.mpr ⟨nd5, by simp, fun a ha b hb e => ?_⟩
        rw [List.mem_singleton.mp hb] at e
        obtain ⟨kvs, ek⟩ := w5.mem ha
        rw [e, n6] at ek
        cases ek
      · intro d' hd'
        rcases List.mem_append.mp hd' with c | c
        · exact f5 d' c
        · rw [List.mem_singleton.mp c]
          exact x5.free n6
    rintro H4 ⟨x5, ds', rows', l5, w5, p5, nd5, f5⟩
    rw [lds, List.take_length] at p5
    refine ⟨_, rfl, p, C, dx, [], rfl, x5 _ _ hp, T.cl, T.nS, by decide, ?_⟩
    have k5 : Keep p H (upd H4 p (.ins C dx (putF "_states" (.ref D) []))) := fun b o e n => by
      rw [upd_ne n]
      exact x5 _ _ e
    have i5 : (upd H4 p (.ins C dx (putF "_states" (.ref D) []))) p = some (.ins C dx (putF "_states" (.ref D) [])) := upd_same
    have nDp : D ≠ p := ne_of l5 (x5 _ _ hp) (by intro z; cases z)
    have l6 : (upd H4 p (.ins C dx (putF "_states" (.ref D) []))) D = some (.lst (ds'.map V.ref)) := by
      rw [upd_ne nDp]
      exact l5
    have hp4 := x5 _ _ hp
    have w6 : RowsAt (upd H4 p (.ins C dx (putF "_states" (.ref D) []))) ds' rows' := w5.keep Keep.at_ (fun kvs e => by rw [hp4] at e; cases e) (fun xs e => by rw [hp4] at e; cases e)
    have hE5 := hE.keepI k5 hp
    generalize upd H4 p (.ins C dx (putF "_states" (.ref D) [])) = H5 at k5 i5 l6 w6 hE5 ⊢
    -- self._ends
    refine ⟨_, rfl, ke, En, ns, rfl, hE5, nl, fun ns' pa pm rising na => ⟨pa, _, rfl, .inl ⟨SqL.of upd_same, fun Te nTe => ?_⟩⟩⟩
    have x6 : Ext H5 (upd (upd H5 pa (.lst (ns'.map V.int))) Te (.tup (ns'.map V.int))) := (Ext.new na).trans (Ext.new nTe)
    have t6 : (upd (upd H5 pa (.lst (ns'.map V.int))) Te (.tup (ns'.map V.int))) Te = some (.tup (ns'.map V.int)) := upd_same
    generalize upd (upd H5 pa (.lst (ns'.map V.int))) Te (.tup (ns'.map V.int)) = H6 at x6 t6 ⊢
    have i6 := x6 _ _ i5
    refine ⟨_, rfl, p, C, dx, _, rfl, i6, T.cl, T.nE, Nat.lt_of_le_of_lt (putF_len _ _ _) (by decide), ?_⟩
    have k7 : Keep p H (upd H6 p (.ins C dx (putF "_ends" (.ref Te) (putF "_states" (.ref D) [])))) := fun b o e n => by
      rw [upd_ne n]
      exact x6 _ _ (k5 b o e n)
    have i7 : (upd H6 p (.ins C dx (putF "_ends" (.ref Te) (putF "_states" (.ref D) [])))) p = some (.ins C dx (putF "_ends" (.ref Te) (putF "_states" (.ref D) []))) := upd_same
    have l7 : (upd H6 p (.ins C dx (putF "_ends" (.ref Te) (putF "_states" (.ref D) [])))) D = some (.lst (ds'.map V.ref)) := by
      rw [upd_ne nDp]
      exact x6 _ _ l6
    have t7 : (upd H6 p (.ins C dx (putF "_ends" (.ref Te) (putF "_states" (.ref D) [])))) Te = some (.tup (ns'.map V.int)) := by
      rw [upd_ne (ne_of t6 i6 (by intro z; cases z))]
      exact t6
    have w7 : RowsAt (upd H6 p (.ins C dx (putF "_ends" (.ref Te) (putF "_states" (.ref D) [])))) ds' rows' := (w6.ext x6).keep Keep.at_ (fun kvs e => by rw [i6] at e; cases e) (fun xs e => by rw [i6] at e; cases e)
    generalize upd H6 p (.ins C dx (putF "_ends" (.ref Te) (putF "_states" (.ref D) []))) = H7 at k7 i7 l7 t7 w7 ⊢
    -- self._start
    have f2 : (putF "_ends" (V.ref Te) (putF "_states" (V.ref D) [])).length ≤ 2 := Nat.le_trans (putF_len _ _ _) (Nat.succ_le_succ (putF_len _ _ _))
    refine ⟨_, rfl, _, rfl, p, C, dx, _, rfl, i7, T.cl, T.nB, by omega, ?_⟩
    have k8 : Keep p H (upd H7 p (.ins C dx (putF "_start" (.int b) (putF "_ends" (.ref Te) (putF "_states" (.ref D) []))))) := fun b' o e n => by
      rw [upd_ne n]
      exact k7 b' o e n
    have i8 : (upd H7 p (.ins C dx (putF "_start" (.int b) (putF "_ends" (.ref Te) (putF "_states" (.ref D) []))))) p = some (.ins C dx (putF "_start" (.int b) (putF "_ends" (.ref Te) (putF "_states" (.ref D) [])))) := upd_same
    have l8 : (upd H7 p (.ins C dx (putF "_start" (.int b) (putF "_ends" (.ref Te) (putF "_states" (.ref D) []))))) D = some (.lst (ds'.map V.ref)) := by
      rw [upd_ne nDp]
      exact l7
    have t8 : (upd H7 p (.ins C dx (putF "_start" (.int b) (putF "_ends" (.ref Te) (putF "_states" (.ref D) []))))) Te = some (.tup (ns'.map V.int)) := by
      rw [upd_ne (ne_of t7 i7 (by intro z; cases z))]
      exact t7
    have w8 : RowsAt (upd H7 p (.ins C dx (putF "_start" (.int b) (putF "_ends" (.ref Te) (putF "_states" (.ref D) []))))) ds' rows' := w7.keep Keep.at_ (fun kvs e => by rw [i7] at e; cases e) (fun xs e => by rw [i7] at e; cases e)
    have f3 : (putF "_start" (V.int b) (putF "_ends" (V.ref Te) (putF "_states" (V.ref D) []))).length ≤ 3 := Nat.le_trans (putF_len _ _ _) (Nat.succ_le_succ f2)
    have look : ∀ f : Str, (putF "_start" (V.int b) (putF "_ends" (V.ref Te) (putF "_states" (V.ref D) []))).lookup f = if f = "_start" then some (V.int b) else if f = "_ends" then some (V.ref Te) else if f = "_states" then some (V.ref D) else none := fun f => by
      rw [lookup_putF, lookup_putF, lookup_putF]
      rfl
    generalize putF "_start" (V.int b) (putF "_ends" (V.ref Te) (putF "_states" (V.ref D) [])) = f3s at i8 f3 look l8 t8 w8 k8 ⊢
    generalize upd H7 p (.ins C dx f3s) = H8 at k8 i8 l8 t8 w8 ⊢
    -- self._collect_names()
    have okall : ∀ r ∈ rows, okRow rows.length r := fun r h => (hok r h).1
    have kn := p5.perms.keys
    have tn := p5.perms.tolds
    have key1 : ∀ z ∈ keysOf rows', z.length = 1 := fun z hz => keys_name okall z ((kn z).mp hz)
    have told8 : ∀ z ∈ toldsOf rows', z.length ≤ 8 := fun z hz => tolds_name okall z ((tn z).mp hz)
    refine ⟨_, rfl, p, dx, f3s, rfl, i8, ?_, p, dx, D, f3s, ds', rows', A, B, rfl, i8, by omega, ?_, l8, nd5, w8, fun z hz => hA z ((kn z).mp hz), by omega, fun z hz => hB z ((tn z).mp hz), lB, fun z hz => by rw [key1 z hz]; decide, told8, fun H9 M ys ts k9 nM gy sy gt st hM i9 => ?_⟩
    · rw [look]
      rfl
    · rw [look]
      rfl
    -- self._check_limits()
    have fl : ∀ f : Str, (putF "_marks" (V.ref M) (putF "_text_signs" (V.str (Txt.join "" (ts.filter signS))) (putF "_page_signs" (V.str (Txt.join "" ys)) f3s))).lookup f = if f = "_marks" then some (V.ref M) else if f = "_text_signs" then some (V.str (Txt.join "" (ts.filter signS))) else if f = "_page_signs" then some (V.str (Txt.join "" ys)) else f3s.lookup f := fun f => by
      rw [lookup_putF, lookup_putF, lookup_putF]
    generalize putF "_marks" (V.ref M) (putF "_text_signs" (V.str (Txt.join "" (ts.filter signS))) (putF "_page_signs" (V.str (Txt.join "" ys)) f3s)) = f6 at i9 fl
    have sub1 : (ts.filter signS).length ≤ 4 := Nat.le_trans (len_le (gt.1.filter _) fun z hz => List.mem_filter.mpr ⟨hB z ((tn z).mp ((gt.2 z).mp (List.mem_filter.mp hz).1)), (List.mem_filter.mp hz).2⟩) fB1
    have sub2 : (ts.filter markS).length ≤ 6 := Nat.le_trans (len_le (gt.1.filter _) fun z hz => List.mem_filter.mpr ⟨hB z ((tn z).mp ((gt.2 z).mp (List.mem_filter.mp hz).1)), (List.mem_filter.mp hz).2⟩) fB2
    have sub3 : ys.length ≤ 6 := Nat.le_trans (len_le gy.1 fun z hz => hA z ((kn z).mp ((gy.2 z).mp hz))) lA
    refine ⟨_, rfl, p, dx, f6, rfl, i9, ?_, p, dx, M, f6, _, _, _, rfl, i9, (by rw [fl]; rfl), (by rw [fl]; rfl), (by rw [fl]; rfl), hM, ?_, ?_, by rw [List.length_map]; exact sub2, ?_⟩
    · rw [fl, look]
      rfl
    · rw [join_len fun z hz => key1 z ((gy.2 z).mp hz)]
      exact sub3
    · rw [join_len fun z hz => ?_]
      · exact sub1
      · have q1 := (List.mem_filter.mp hz).2
        unfold signS at q1
        rw [Bool.and_eq_true, decide_eq_true_eq] at q1
        exact q1.2
    have gy' : Gath ys (keysOf rows) := ⟨gy.1, fun z => (gy.2 z).trans (kn z)⟩
    have gt' : Gath ts (toldsOf rows) := ⟨gt.1, fun z => (gt.2 z).trans (tn z)⟩
    refine q H9 rows' ns' ys ts (k8.trans k9) p5 pm rising gy' sy gt' st (ReaderX.mk ⟨dx, f6, D, ds', Te, M, i9, (by rw [fl, look]; rfl), k9 _ _ l8 nDp, w8.keep k9 (fun kvs e => by rw [i8] at e; cases e) (fun xs e => by rw [i8] at e; cases e), (by rw [fl, look]; rfl), k9 _ _ t8 (ne_of t8 i8 (by intro z; cases z)), (by rw [fl, look]; rfl), (by rw [fl]; rfl), (by rw [fl]; rfl), (by rw [fl]; rfl), hM, nd5, fun f hf => ?_⟩) ?_
    · rw [fl, look]
      simp only [List.mem_cons, List.not_mem_nil, or_false, not_or] at hf
      obtain ⟨a1, a2, a3, a4, a5, a6⟩ := hf
      rw [if_neg a6, if_neg a5, if_neg a4, if_neg a3, if_neg a2, if_neg a1]
    · exact ⟨dx, f6, D, ds', Te, M, i9, (by rw [fl, look]; rfl), k9 _ _ l8 nDp, (by rw [fl, look]; rfl), (by rw [fl]; rfl), x3.free nD, k5.none' i5 ((Ext.new na).free nTe), k8.none' i8 nM, f5⟩
end
end Sl
/-! ## P13 -/
set_option Elab.async false
set_option linter.all false
set_option maxRecDepth 100000
set_option maxHeartbeats 4000000
namespace Sl
open PySem PySem.Spec PyProof.Rows L2 TxS
abbrev sCheckState : Stmt := top 7
abbrev sStart : Stmt := inClass (top 23) 5
abbrev sEnds : Stmt := inClass (top 23) 6
abbrev sMove : Stmt := inClass (top 23) 7
abbrev sWalk : Stmt := top 999
abbrev sRow : Stmt := top 999
abbrev sLast : Stmt := top 999
def spCheckState : Sp := fun vs H Q _ => ∃ (i n : Int), vs = [.int i, .int n] ∧ 0 ≤ i ∧ i < n ∧ Q .non H
/-- the move of a state by a sign -/
def mvOf (rows : List Rw) (q : Int) (z : Str) : Option Mv := (rows.getD q.toNat []).lookup z
/-- what a reader's rows are like -/
def okRows (n : Int) (rows : List Rw) : Prop := (rows.length : Int) = n ∧ ∀ r ∈ rows, okRow n r ∧ (r.map (·.1)).Nodup
/-- an optional move as a value -/
def MvV (H : Hp) (v : V) : Option Mv → Prop
  | none => v = .non
  | some m => ∃ t, v = .ref t ∧ MvAt H t m
def spMove (C : Addr) : Sp := fun vs H Q _ => ∃ (p : Addr) (q : Int) (z : Str) (rows : List Rw) (ends : List Int) (b n : Int), vs = [.ref p, .int q, .str z] ∧ ReaderAt C H p rows ends b ∧ okRows n rows ∧ 0 ≤ q ∧ q < n ∧ ∀ v, MvV H v (mvOf rows q z) → Q v H
/-- the moves along signs -/
def walkL (rows : List Rw) : Int → List Str → List Mv
  | _, [] => []
  | q, z :: r => match mvOf rows q z with
    | none => []
    | some m => m :: walkL rows m.1 r
def signsOf (z : Str) : List Str := z.cps.toList.map fun c => ⟨#[c]⟩
inductive MvsAt (H : Hp) : List Addr → List Mv → Prop
  | nil : MvsAt H [] []
  | cons {t : Addr} {m : Mv} {ts : List Addr} {ms : List Mv} : MvAt H t m → MvsAt H ts ms → MvsAt H (t :: ts) (m :: ms)
theorem MvsAt.ext {H H' : Hp} (x : ∀ t xs, H t = some (.tup xs) → H' t = some (.tup xs)) : ∀ {ts : List Addr} {ms : List Mv}, MvsAt H ts ms → MvsAt H' ts ms
  | _, _, .nil => .nil
  | _, _, .cons a h => .cons (x _ _ a) (h.ext x)
theorem MvsAt.snoc {H : Hp} {t : Addr} {m : Mv} (a : MvAt H t m) : ∀ {ts : List Addr} {ms : List Mv}, MvsAt H ts ms → MvsAt H (ts ++ [t]) (ms ++ [m])
  | _, _, .nil => .cons a .nil
  | _, _, .cons b h => .cons b (h.snoc a)
theorem MvsAt.len {H : Hp} : ∀ {ts : List Addr} {ms : List Mv}, MvsAt H ts ms → ts.length = ms.length
  | _, _, .nil => rfl
  | _, _, .cons _ h => congrArg (· + 1) h.len
theorem MvsAt.at_ {H : Hp} : ∀ {ts : List Addr} {ms : List Mv} {i : Nat} {t : Addr}, MvsAt H ts ms → ts[i]? = some t → ∃ m, ms[i]? = some m ∧ MvAt H t m
  | _, _, 0, _, .cons (m := m) h _, q => by cases q; exact ⟨m, rfl, h⟩
  | _, _, i + 1, _, .cons _ h, q => h.at_ (i := i) q
  | _, _, 0, _, .nil, q => by cases q
  | _, _, i + 1, _, .nil, q => by cases q
theorem ReaderAt.ext {C : Addr} {H H' : Hp} {p : Addr} {rows : List Rw} {ends : List Int} {b : Int} (x : Ext H H') (h : ReaderAt C H p rows ends b) : ReaderAt C H' p rows ends b := by
  obtain ⟨dx, fs, L, ds, Te, a1, a2, a3, a4, a5, a6, a7, a8⟩ := h.ex
  exact ⟨dx, fs, L, ds, Te, x _ _ a1, a2, x _ _ a3, a4.ext x, a5, x _ _ a6, a7, a8⟩
theorem lookup_mem : ∀ {r : Rw} {z : Str} {m : Mv}, (r.map (·.1)).Nodup → (z, m) ∈ r → r.lookup z = some m
  | e :: r, z, m, nd, h => by
    obtain ⟨n1, n2⟩ := List.nodup_cons.mp nd
    obtain ⟨y, k⟩ := e
    rw [List.lookup_cons]
    rcases List.mem_cons.mp h with c | c
    · cases c
      simp
    · have ne : (z == y) = false := by
        cases e : z == y with
        | false => rfl
        | true => exact absurd (List.mem_map.mpr ⟨_, c, beq_iff_eq.mp e⟩) n1
      rw [ne]
      exact lookup_mem n2 c
  | [], _, _, _, h => by cases h
theorem lookup_no : ∀ {r : Rw} {z : Str}, z ∉ r.map (·.1) → r.lookup z = none
  | [], _, _ => rfl
  | (y, k) :: r, z, h => by
    have ne : (z == y) = false := by
      cases e : z == y with
      | false => rfl
      | true => exact absurd (List.mem_map.mpr ⟨(y, k), List.mem_cons_self, (beq_iff_eq.mp e).symm⟩) h
    rw [List.lookup_cons, ne]
    exact lookup_no fun m => h (List.mem_cons_of_mem _ m)
theorem mvOf_ok {n : Int} {rows : List Rw} {q : Int} {z : Str} {m : Mv} (ok : okRows n rows) (h : mvOf rows q z = some m) : okMv n m := by
  unfold mvOf at h
  cases e : rows[q.toNat]? with
  | none =>
    rw [List.getD_eq_getElem?_getD, e] at h
    cases h
  | some r =>
    rw [List.getD_eq_getElem?_getD, e] at h
    have h : r.lookup z = some m := h
    have hr := (ok.2 r (List.mem_of_getElem? e)).1
    have mem : ∀ {l : Rw}, l.lookup z = some m → (z, m) ∈ l := by
      intro l
      induction l with
      | nil => intro k; cases k
      | cons y l ih =>
        obtain ⟨y1, y2⟩ := y
        intro k
        rw [List.lookup_cons] at k
        cases c : z == y1 with
        | true =>
          rw [c] at k
          cases k
          rw [beq_iff_eq.mp c]
          exact List.mem_cons_self
        | false =>
          rw [c] at k
          exact List.mem_cons_of_mem _ (ih k)
    exact (hr _ (mem h)).2
section
variable {P : Program} {w : World} {K : PySem.W.Frag} {mg : Str → Option Value} {base : Heap}
theorem scCheckState : FnScope ["value", "many"] ["value", "many"] (defScope sCheckState) := ⟨rfl, rfl, rfl, by decide +kernel, rfl, by decide +kernel, by decide +kernel⟩
theorem ok_checkstate {f fB : Addr} {fd fdB : FuncData} (F : Fun K "check_state" "check_state" sCheckState f fd) (aB : At K mg "is_below" fB fdB ["value", "limit"] []) (gB : FnOk P w K mg base CX0 2 fB fdB ["value", "limit"] (spBelow K)) :
    FnOk P w K mg base CX0 3 f fd ["value", "many"] spCheckState := by
  refine F.ok scCheckState (fun vs H Q E h => ?_) (fun cdv A0 outer s H vs Q E hr h => ?_)
  · obtain ⟨i, n, rfl, _⟩ := h
    rfl
  · obtain ⟨i, n, rfl, h0, h1, q⟩ := h
    refine ⟨_, pss_one (ps_if (pt_not (pt_val (pe_call gB hr (by rfl) aB.g aB.kp aB.b .nil pass0 (pa_cons (pv 0) (pa_cons (pv 1) pa_nil))))) (pss_one ps_never) pss_nil), ?_⟩
    refine ⟨_, rfl, _, rfl, .int i, n, rfl, .inl ⟨i, rfl⟩, ?_⟩
    have e : below (.int i) n = true := by
      unfold below
      simp [h0, h1]
    rw [e]
    exact ⟨true, rfl, iteF q⟩
theorem scMove : FnScope ["self", "state", "sign"] ["self", "state", "sign"] (defScope sMove) := ⟨rfl, rfl, rfl, by decide +kernel, rfl, by decide +kernel, by decide +kernel⟩
theorem ok_move {f C fS : Addr} {fd fdS : FuncData} (F : Fun K "move" "Reader.move" sMove f fd) (T : RdC K C) (aS : At K mg "check_state" fS fdS ["value", "many"] []) (gS : FnOk P w K mg base CX0 3 fS fdS ["value", "many"] spCheckState) (zn : mg "len" = none) :
    FnOk P w K mg base CX0 4 f fd ["self", "state", "sign"] (spMove C) := by
  refine F.ok scMove (fun vs H Q E h => ?_) (fun cdv A0 outer s H vs Q E hr h => ?_)
  · obtain ⟨p, q, z, rows, ends, b, n, rfl, _⟩ := h
    rfl
  · obtain ⟨p, q, z, rows, ends, b, n, rfl, RA, ok, q0, qn, k⟩ := h
    obtain ⟨dx, fs, L, ds, Te, hp, hst, hL, hrw, _⟩ := RA.ex
    have lr : (ds.map V.ref).length = rows.length := by rw [List.length_map, hrw.len]
    refine ⟨_, pss_cons (ps_expr (pe_call gS hr (by rfl) aS.g aS.kp aS.b .nil pass0 (pa_cons (pv 1) (pa_cons (pe_callB call_len_seq (by rfl) zn PySem.boot_len (pa_cons (pe_fld (pv 0) rfl) pa_nil)) pa_nil))))
      (pss_one (ps_ret (pe_dget1 (hu_of hr) (pe_ix ix_list (pe_fld (pv 0) rfl) (pv 1) (fun _ _ => rfl)) (pv 2) ⟨rfl, rfl, rfl, rfl⟩))), ?_⟩
    refine ⟨_, rfl, _, rfl, p, C, dx, _, _, rfl, hp, T.cl, T.nS, hst, L, _, rfl, .inl (SqL.of hL), q, _, rfl, q0, by rw [lr]; have := ok.1; omega, ?_⟩
    obtain ⟨j, ej⟩ : ∃ j : Nat, q = (j : Int) := ⟨q.toNat, by omega⟩
    subst ej
    have hq : j < rows.length := by have := ok.1; omega
    have hqd : j < ds.length := by rw [hrw.len]; exact hq
    obtain ⟨r, hr1, es, hd, he⟩ := hrw.at_ (i := j) (d := ds[j]) (List.getElem?_eq_getElem hqd)
    have hat : atI (ds.map V.ref) (j : Int) = some (.ref ds[j]) := atI_nat (by rw [List.getElem?_map, List.getElem?_eq_getElem hqd]; rfl)
    refine ⟨_, rfl, p, C, dx, _, _, rfl, hp, T.cl, T.nS, hst, _, rfl, L, _, _, _, rfl, rfl, SqL.of hL, hat, ds[j], rfl, .inl ⟨_, Rd.of hd⟩, _, rfl, _, DGet.k (k := Sum.inr z) hd, ?_⟩
    have ek := he.keys
    have hmem := List.mem_of_getElem? hr1
    have nd := (ok.2 r hmem).2
    have emv : mvOf rows (j : Int) z = r.lookup z := by
      unfold mvOf
      rw [Int.toNat_natCast, List.getD_eq_getElem?_getD, hr1]
      rfl
    by_cases c : z ∈ es.map (·.1)
    · obtain ⟨t, m, m1, m2, m3⟩ := he.mem c
      rw [val_at (by rw [ek]; exact nd) m1]
      refine k _ ?_
      rw [emv, lookup_mem nd m2]
      exact ⟨t, rfl, m3⟩
    · rw [val_no c]
      refine k _ ?_
      rw [emv, lookup_no (by rw [← ek]; exact c)]
      rfl
end
end Sl
/-! ## P15 -/
set_option Elab.async false
set_option linter.all false
set_option maxRecDepth 100000
set_option maxHeartbeats 4000000
namespace Sl
open PySem PySem.Spec PyProof.Rows L2 TxS
abbrev sLetters : Stmt := top 28
abbrev sMarks : Stmt := top 29
theorem Rng.keep {H H' : Hp} {a b : Addr} (r : Rng H a) (k : Keep b H H') (n : a ≠ b) : Rng H' a := by
  obtain ⟨x, y, h, q⟩ := r.ex
  exact ⟨x, y, k _ _ h n, q⟩
theorem Rng.ext {H H' : Hp} {a : Addr} (r : Rng H a) (k : Ext H H') : Rng H' a := by
  obtain ⟨x, y, h, q⟩ := r.ex
  exact ⟨x, y, k _ _ h, q⟩
theorem Keep.of {a : Addr} {H H' : Hp} (x : Ext H H') : Keep a H H' := fun b o e _ => x b o e
theorem Keep.free {a : Addr} {H H' : Hp} {p : Addr} {o : HO} (k : Keep a H H') (ha : H' a = some o) (n : H' p = none) : H p = none := by
  cases e : H p with
  | none => rfl
  | some u =>
    by_cases c : p = a
    · rw [c, ha] at n
      cases n
    · rw [k p u e c] at n
      cases n
theorem Rng.there {H : Hp} {a : Addr} (r : Rng H a) : ∃ o, H a = some o := by
  obtain ⟨x, y, h, q⟩ := r.ex
  exact ⟨_, h⟩
theorem Rng.lst {H : Hp} {a b : Addr} {xs : List V} (r : Rng H a) (h : H b = some (.lst xs)) (n : ∀ x y : Int, xs ≠ [.int x, .int y]) : b ≠ a := fun e => by
  obtain ⟨x, y, h2, q⟩ := r.ex
  rw [e, h2] at h
  exact n x y (by injection h with h; injection h with h; exact h.symm)
def spChoice : Sp := fun vs H Q _ => ∃ (a b : Addr) (xs : List V), vs = [.ref a, .ref b] ∧ Rng H a ∧ H b = some (.lst xs) ∧ b ≠ a ∧ 0 < xs.length ∧ xs.length ≤ 10000 ∧
  ∀ (i : Nat) (v : V) (H' : Hp), xs[i]? = some v → Rng H' a → Keep a H H' → Q v H'
def abc : Str := "abcdefghijklmnopqrstuvwxyz"
def abcL : List Str := signsOf abc
/-- different letters -/
def spLetters : Sp := fun vs H Q _ => ∃ (a : Addr) (n : Nat), vs = [.ref a, .int n] ∧ Rng H a ∧ n ≤ 26 ∧
  ∀ (H' : Hp) (L : Addr) (zs : List Str), Rng H' a → Keep a H H' → H L = none → H' L = some (.lst (zs.map V.str)) → zs.length = n → zs.Nodup → (∀ z ∈ zs, z ∈ abcL) → Q (.ref L) H'
def rLen (K : PySem.W.Frag) : List V → Hp → VK → Prop := fun xs H Q => ∃ p ys, xs = [V.ref p] ∧ (SqL K H p ys ∨ SqT K H p ys) ∧ Q (.int (ys.length : Nat)) H
theorem ix_nat {n j : Nat} (h : j < n) : ixN n (j : Int) = some j := by
  unfold ixN
  rw [if_pos (by omega), if_pos (by omega), Int.toNat_natCast]
theorem erase_map {α β : Type} (f : α → β) : ∀ (l : List α) (j : Nat), (l.map f).eraseIdx j = (l.eraseIdx j).map f
  | [], _ => rfl
  | _ :: _, 0 => rfl
  | x :: l, j + 1 => congrArg (f x :: ·) (erase_map f l j)
theorem pick_perm {α : Type} : ∀ (l : List α) (j : Nat) (h : j < l.length), (l[j] :: l.eraseIdx j).Perm l
  | [], _, h => by cases h
  | x :: l, 0, _ => List.Perm.refl _
  | x :: l, j + 1, h => (List.Perm.swap x _ _).trans ((pick_perm l j (Nat.lt_of_succ_lt_succ h)).cons x)
/-- list(a text): its signs -/
def rListStr : List V → Hp → VK → Prop := fun xs H Q => ∃ z : Str, xs = [.str z] ∧ z.length ≤ 10000 ∧ ∀ l, H l = none → Q (.ref l) (upd H l (.lst ((signsOf z).map V.str)))
theorem signs_vals {z : Str} {acc : Array Value} (h : ItemsOf (SignAt z) acc z.cps.size) : Vals ((signsOf z).map V.str) acc.toList := by
  have key : ∀ (cs : List Nat) (vs : List Value), vs.length = cs.length → (∀ (j : Nat) (v : Value), vs[j]? = some v → ∃ c u, cs[j]? = some c ∧ v = Value.str ⟨#[c]⟩ u) → Vals (cs.map fun c => V.str ⟨#[c]⟩) vs := by
    intro cs
    induction cs with
    | nil =>
      intro vs e _
      rw [List.eq_nil_of_length_eq_zero e]
      exact .nil
    | cons c cs ih =>
      intro vs e q
      cases vs with
      | nil => cases e
      | cons v vs =>
        obtain ⟨c', u, e1, e2⟩ := q 0 v rfl
        cases e1
        exact .cons ⟨u, e2⟩ (ih vs (by simpa using e) fun j v' hj => q (j + 1) v' hj)
  have k := key z.cps.toList acc.toList (by rw [Array.length_toList, Array.length_toList]; exact h.1) fun j v hj => by
    obtain ⟨c, u, e1, e2⟩ := h.2 j v (by rw [← Array.getElem?_toList]; exact hj)
    exact ⟨c, u, by rw [Array.getElem?_toList]; exact e1, e2⟩
  unfold signsOf
  rw [List.map_map]
  exact k
theorem cr_listStr {X : Cx} (hc : X.calm = true) : CallR X (.type "list") rListStr := by
  intro pins s σ H xs us Q I r h
  obtain ⟨z, rfl, hz, q⟩ := h
  obtain ⟨u, rfl, t, rfl⟩ := vals1 r
  have hz' : z.cps.size ≤ sizeLine := small_size hz
  refine PySem.call_list_str (I.ok.hd hc) z t (fun h' tk acc' c' k ho hi => ?_) hz'
  have hv := signs_vals hi
  have hl : ((signsOf z).map V.str).length ≤ sizeLine := by
    rw [Paired.length hv, Array.length_toList, hi.1]
    exact hz'
  exact ⟨.ref s.heap.objs.size, upd H s.heap.objs.size (.lst ((signsOf z).map V.str)), I.laid (t' := tk) k (Nat.le_refl _) ⟨hl, acc'.toList, c', hv, ho⟩, rfl, q _ (I.hok.fresh (Nat.le_refl _))⟩
section
variable {P : Program} {w : World} {K : PySem.W.Frag} {mg : Str → Option Value} {base : Heap}
theorem scChoice : FnScope ["_law_rng_here", "_law_some"] ["_law_rng_here", "_law_some"] (defScope sChoice) := ⟨rfl, rfl, rfl, by decide +kernel, rfl, by decide +kernel, by decide +kernel⟩
theorem ok_choice {f fD : Addr} {fd fdD : FuncData} (F : Fun K "_law_choice" "_law_choice" sChoice f fd) (aD : At K mg "_law_draw" fD fdD ["_law_rng_here", "_law_many"] []) (gD : FnOk P w K mg base CX0 1 fD fdD ["_law_rng_here", "_law_many"] spDraw) (zn : mg "len" = none) :
    FnOk P w K mg base CX0 2 f fd ["_law_rng_here", "_law_some"] spChoice := by
  refine F.ok scChoice (fun vs H Q E h => ?_) (fun cdv A0 outer s H vs Q E hr h => ?_)
  · obtain ⟨a, b, xs, rfl, _⟩ := h
    rfl
  · obtain ⟨a, b, xs, rfl, hR, hb, nab, h0, hl, k⟩ := h
    refine ⟨_, pss_one (ps_ret (pe_ix ix_list (pv 1) (pe_call gD hr (by rfl) aD.g aD.kp aD.b .nil pass0 (pa_cons (pv 0) (pa_cons (pe_callB call_len_seq (by rfl) zn PySem.boot_len (pa_cons (pv 1) pa_nil)) pa_nil))) (fun _ _ => rfl))), ?_⟩
    refine ⟨_, rfl, _, rfl, _, rfl, b, xs, rfl, .inl (SqL.of hb), a, _, rfl, hR, by omega, by omega, fun d H' d0 dn r' k' => ?_⟩
    obtain ⟨j, rfl⟩ : ∃ j : Nat, d = (j : Int) := ⟨d.toNat, by omega⟩
    have hj : j < xs.length := by omega
    exact ⟨b, xs, _, xs[j], rfl, rfl, SqL.of (k' _ _ hb nab), atI_nat (List.getElem?_eq_getElem hj), k j _ H' (List.getElem?_eq_getElem hj) r' k'⟩
theorem scLetters : FnScope ["_law_rng_here", "_law_many", "_law_left", "_law_k"] ["_law_rng_here", "_law_many"] (defScope sLetters) := ⟨rfl, rfl, rfl, by decide +kernel, rfl, by decide +kernel, by decide +kernel⟩
theorem ok_letters {f fD : Addr} {fd fdD : FuncData} (F : Fun K "_law_letters" "_law_letters" sLetters f fd) (aD : At K mg "_law_draw" fD fdD ["_law_rng_here", "_law_many"] []) (gD : FnOk P w K mg base CX0 1 fD fdD ["_law_rng_here", "_law_many"] spDraw) (zn : mg "len" = none) (zl : mg "list" = none) (zr : mg "range" = none) :
    FnOk P w K mg base CX0 2 f fd ["_law_rng_here", "_law_many"] spLetters := by
  refine F.ok scLetters (fun vs H Q E h => ?_) (fun cdv A0 outer s H vs Q E hr h => ?_)
  · obtain ⟨a, n, rfl, _⟩ := h
    rfl
  · obtain ⟨a, n, rfl, hR, hn, k⟩ := h
    refine ⟨_, pss_cons (ps_set (i := 2) scLetters.nd rfl (.inr rfl) (pe_callTy (cr_listStr rfl) (by rfl) zl (by decide +kernel) (pa_cons pe_str pa_nil)))
      (pss_one (ps_ret (pe_lc (own := [("_law_k", 3)]) (g := gName 3) (tt := tYes) (te := tBM K "list" rPopAt (tVar 2) (tCons (tCall spDraw [] (fun _ _ _ => False) (tCons (tVar 0) (tCons (tCB (rLen K) (tCons (tVar 2) tNil)) tNil))) tNil)) rfl scLetters.nd (pi_range1 rfl zr (pa_cons (pv 1) pa_nil)) (blkOk_by (N := ["_law_rng_here", "_law_many", "_law_left", "_law_k"]) (sc := defScope sLetters) (by decide +kernel))
          (fun _ _ _ _ _ => pg_name (i := 3) scLetters.nd rfl (Or.inl rfl)) (fun _ _ _ _ _ => pts_nil)
          (fun _ _ _ _ _ => by exact pe_bm PySem.F.plainAttrs_list PySem.F.slot_list_pop PySem.F.type_list_pop mt_popAt (pv 2) (pa_cons (pe_call gD hr (by rfl) aD.g aD.kp aD.b .nil pass0 (pa_cons (pv 0) (pa_cons (pe_callB call_len_seq (by rfl) zn PySem.boot_len (pa_cons (pv 2) pa_nil)) pa_nil))) pa_nil))))), ?_⟩
    have e26 : abcL.length = 26 := by decide +kernel
    have nd26 : abcL.Nodup := by decide +kernel
    refine ⟨abc, rfl, by decide, fun Lf nLf => ?_⟩
    have aLf : Lf ≠ a := fun e => by
      obtain ⟨o, h⟩ := hR.there
      rw [e, h] at nLf
      cases nLf
    refine ⟨_, rfl, n, rfl, by omega, by omega, fun D nD => ?_⟩
    have nLD : Lf ≠ D := ne_of_none upd_same nD
    have nD0 : H D = none := (Ext.new nLf).free nD
    have aD' : D ≠ a := fun e => by
      obtain ⟨o, h⟩ := hR.there
      rw [e, h] at nD0
      cases nD0
    refine lc_range (n := n) (fun i H' => ∃ left picked : List Str, H' Lf = some (.lst (left.map V.str)) ∧ H' D = some (.lst (picked.map V.str)) ∧ (picked ++ left).Perm abcL ∧ picked.length = i ∧ Rng H' a ∧ Keep a H H') ⟨abcL, [], by rw [upd_ne nLD]; exact upd_same, upd_same, List.Perm.refl _, rfl, hR.ext ((Ext.new nLf).trans (Ext.new nD)), Keep.of ((Ext.new nLf).trans (Ext.new nD))⟩ ?_ ?_
    · rintro i H1 hi ⟨left, picked, l1, l2, pm, lp, r1, k1⟩
      have ll : picked.length + left.length = 26 := by rw [← List.length_append, pm.length_eq, e26]
      refine ⟨rfl, _, rfl, .inl ⟨rfl, _, SqL.of l1⟩, _, rfl, _, rfl, Lf, _, rfl, .inl (SqL.of l1), a, _, rfl, r1, by rw [List.length_map]; omega, by rw [List.length_map]; omega, fun d H2 d0 dn r2 k2 => ?_⟩
      rw [List.length_map] at dn
      obtain ⟨j, rfl⟩ : ∃ j : Nat, d = (j : Int) := ⟨d.toNat, by omega⟩
      have hj : j < left.length := by omega
      have l1' := k2 _ _ l1 aLf
      refine ⟨Lf, _, _, j, .str left[j], rfl, rfl, l1', by omega, by omega, (ixN_seq (ix_nat (by rw [List.length_map]; exact hj))).1, by rw [List.getElem?_map, List.getElem?_eq_getElem hj]; rfl, ?_⟩
      have l2' : (upd H2 Lf (.lst ((left.map V.str).eraseIdx j))) D = some (.lst (picked.map V.str)) := by
        rw [upd_ne nLD.symm]
        exact k2 _ _ l2 aD'
      refine ⟨_, l2', by rw [List.length_map]; exact small_list (by omega), left.eraseIdx j, picked ++ [left[j]], ?_, ?_, ?_, ?_, ?_, ?_⟩
      · rw [upd_ne nLD, upd_same, erase_map]
      · rw [upd_same, List.map_append]
        rfl
      · refine List.Perm.trans ?_ pm
        rw [List.append_assoc]
        exact List.Perm.append_left _ (pick_perm left j hj)
      · rw [List.length_append, lp]
        rfl
      · obtain ⟨x, y, h, q⟩ := r2.ex
        exact ⟨x, y, by rw [upd_ne aD'.symm, upd_ne aLf.symm]; exact h, q⟩
      · intro b o e nb
        rw [upd_ne (ne_of_none e nD0), upd_ne (ne_of_none e nLf)]
        exact k2 _ _ (k1 b o e nb) nb
    · rintro H' ⟨left, picked, l1, l2, pm, lp, r1, k1⟩
      have ndp := (List.nodup_append.mp (pm.nodup_iff.mpr nd26)).1
      exact k H' D picked r1 k1 nD0 l2 lp ndp fun z hz => pm.mem_iff.mp (List.mem_append_left _ hz)
end
end Sl
/-! ## P16 -/
set_option Elab.async false
set_option linter.all false
set_option maxRecDepth 100000
set_option maxHeartbeats 4000000
namespace Sl
open PySem PySem.Spec PyProof.Rows L2 TxS
/-- marks that differ -/
def spMarks : Sp := fun vs H Q _ => ∃ (a : Addr) (n : Nat), vs = [.ref a, .int n] ∧ Rng H a ∧ n ≤ 6 ∧
  ∀ (H' : Hp) (L : Addr) (zs : List Str), Rng H' a → Keep a H H' → H L = none → H' L = some (.lst (zs.map V.str)) → zs.length = n → zs.Nodup → (∀ z ∈ zs, markS z = true ∧ z.length ≤ 8) → Q (.ref L) H'
theorem abc_at {j : Nat} (h : j < 26) : ∃ c, abc.cps.toList[j]? = some c ∧ lowC c = true := by
  have k : ∀ j : Fin 26, ∃ c, abc.cps.toList[j.val]? = some c ∧ lowC c = true := by
    intro j
    have q : (abc.cps.toList[j.val]?).all (fun c => lowC c) = true ∧ (abc.cps.toList[j.val]?).isSome = true := by
      revert j
      decide +kernel
    obtain ⟨q1, q2⟩ := q
    obtain ⟨c, hc⟩ := Option.isSome_iff_exists.mp q2
    rw [hc] at q1
    exact ⟨c, hc, q1⟩
  exact k ⟨j, h⟩
theorem word_of_all {z : Str} (h : ∀ c ∈ z.cps.toList, lowC c = true) : isWordS z = true := by
  unfold isWordS
  rw [List.all_eq_true]
  exact h
open TL in
/-- letters joined -/
theorem join_word : ∀ {ys : List Str}, (∀ y ∈ ys, ∃ c, y = ⟨#[c]⟩ ∧ lowC c = true) → isWordS (Txt.join "" ys) = true ∧ (Txt.join "" ys).length = ys.length := fun {ys} h => by
  refine ⟨?_, join_len fun y hy => by obtain ⟨c, rfl, _⟩ := h y hy; rfl⟩
  have e : ∀ l : List (List Nat), (joinL [] l) = l.flatten := by
    intro l
    induction l with
    | nil => rfl
    | cons x l ih =>
      cases l with
      | nil =>
        show x = (x :: []).flatten
        simp
      | cons y r =>
        show x ++ ([] ++ joinL [] (y :: r)) = _
        rw [List.nil_append, ih]
        rfl
  have k : tl (Str.join ("" : Str) ys) = joinL (tl ("" : Str)) (ys.map tl) := tl_join "" ys
  have z : tl ("" : Str) = [] := rfl
  rw [join_eq]
  refine word_of_all fun c hc => ?_
  have hc : c ∈ tl (Str.join ("" : Str) ys) := hc
  rw [k, z, e] at hc
  obtain ⟨l, hl, hcl⟩ := List.mem_flatten.mp hc
  obtain ⟨y, hy, rfl⟩ := List.mem_map.mp hl
  obtain ⟨c', rfl, hl'⟩ := h y hy
  have : c = c' := List.mem_singleton.mp hcl
  rw [this]
  exact hl'
def spare : List Str := abcL.map fun z => ("m" : Str) ++ z
theorem spare_ok : spare.length = 26 ∧ spare.Nodup ∧ ∀ z ∈ spare, markS z = true ∧ z.length ≤ 8 := by
  refine ⟨by decide +kernel, by decide +kernel, ?_⟩
  have h : (spare.all fun z => markS z && decide (z.length ≤ 8)) = true := by decide +kernel
  intro z hz
  have q := List.all_eq_true.mp h z hz
  rw [Bool.and_eq_true, decide_eq_true_eq] at q
  exact q
theorem mark_of {z : Str} (h : isWordS z = true) (h2 : 2 ≤ z.length) (h8 : z.length ≤ 8) : markS z = true := by
  unfold markS nameS
  rw [h, decide_eq_true (by omega : 1 ≤ z.length), decide_eq_true h8, decide_eq_true (by omega : 1 < z.length)]
  rfl
theorem inV_strs {z : Str} : ∀ {l : List Str}, inV (.str z) (l.map V.str) = decide (z ∈ l)
  | [] => rfl
  | y :: l => by
    have ih := inV_strs (z := z) (l := l)
    unfold inV at ih ⊢
    rw [List.map_cons, List.any_cons, ih]
    have e : eqV (.str y) (.str z) = decide (z = y) := by
      show (y == z) = _
      by_cases c : y = z
      · rw [c]
        simp
      · rw [decide_eq_false (fun k => c k.symm)]
        exact beq_eq_false_iff_ne.mpr c
    rw [e]
    by_cases c : z = y
    · subst c
      simp
    · rw [decide_eq_false c, Bool.false_or]
      exact decide_eq_decide.mpr ⟨fun h => List.mem_cons_of_mem _ h, fun h => (List.mem_cons.mp h).resolve_left c⟩
theorem flat_strs : ∀ (l : List Str), (l.map V.str).all flatV = true
  | [] => rfl
  | _ :: l => flat_strs l
section
variable {P : Program} {w : World} {K : PySem.W.Frag} {mg : Str → Option Value} {base : Heap}
theorem scMarks : FnScope ["_law_rng_here", "_law_many", "_law_found", "_law_k", "_law_size", "_law_mark", "_law_spare", "_law_turn", "_law_letter", "_law_one"] ["_law_rng_here", "_law_many"] (defScope sMarks) := ⟨rfl, rfl, rfl, by decide +kernel, rfl, by decide +kernel, by decide +kernel⟩
theorem ok_marks {f fD : Addr} {fd fdD : FuncData} (F : Fun K "_law_marks" "_law_marks" sMarks f fd) (aD : At K mg "_law_draw" fD fdD ["_law_rng_here", "_law_many"] []) (gD : FnOk P w K mg base CX0 1 fD fdD ["_law_rng_here", "_law_many"] spDraw) (zr : mg "range" = none) :
    FnOk P w K mg base CX0 2 f fd ["_law_rng_here", "_law_many"] spMarks := by
  refine F.ok scMarks (fun vs H Q E h => ?_) (fun cdv A0 outer s H vs Q E hr h => ?_)
  · obtain ⟨a, n, rfl, _⟩ := h
    rfl
  · obtain ⟨a, n, rfl, hR, hn, k⟩ := h
    refine ⟨_, pss_cons (ps_set (i := 2) scMarks.nd rfl (.inr rfl) (pe_lst pa_nil))
      (pss_cons (ps_for PassesOwn.never rfl (pi_range1 rfl zr (pa_cons (pv 1) pa_nil)) (pg_name (i := 3) scMarks.nd rfl (.inl rfl))
        (pss_cons (ps_set (i := 4) scMarks.nd rfl (.inl rfl) (pe_op op_add pe_int (pe_ix ix_list (pe_lst (pa_cons pe_int (pa_cons pe_int (pa_cons pe_int (pa_cons pe_int pa_nil))))) (pe_call gD hr (by rfl) aD.g aD.kp aD.b .nil pass0 (pa_cons (pv 0) (pa_cons pe_int pa_nil))) (fun _ _ => rfl))))
        (pss_cons (ps_set (i := 5) scMarks.nd rfl (.inl rfl) (pe_join pe_str (pe_lc (own := [("_law_turn", 7)]) (g := gName 7) (tt := tYes) (te := tOp rIxS (tC (.str abc)) (tCall spDraw [] (fun _ _ _ => False) (tCons (tVar 0) (tCons (tC (.int 26)) tNil)))) rfl scMarks.nd (pi_range1 rfl zr (pa_cons (pv 4) pa_nil)) (blkOk_by (N := ["_law_rng_here", "_law_many", "_law_found", "_law_k", "_law_size", "_law_mark", "_law_spare", "_law_turn", "_law_letter", "_law_one"]) (sc := defScope sMarks) (by decide +kernel))
            (fun _ _ _ _ _ => pg_name (i := 7) scMarks.nd rfl (Or.inl rfl)) (fun _ _ _ _ _ => pts_nil) (fun _ _ _ _ _ => pe_ix ix_str pe_str (pe_call gD hr (by rfl) aD.g aD.kp aD.b .nil pass0 (pa_cons (pv 0) (pa_cons pe_int pa_nil))) (fun _ _ => rfl)))))
        (pss_cons (ps_setLc (i := 6) (own := [("_law_letter", 8)]) (g := gName 8) (tt := tYes) (te := tOp (fun x y H Q => ∃ i j, x = .str i ∧ y = .str j ∧ i.length + j.length ≤ sizeLine ∧ Q (.str (i ++ j)) H) (tC (.str "m")) (tVar 8)) rfl scMarks.nd rfl rfl (sw_true rfl rfl rfl (by decide +kernel)) (pi_str pe_str) (blkOk_by (N := ["_law_rng_here", "_law_many", "_law_found", "_law_k", "_law_size", "_law_mark", "_law_spare", "_law_turn", "_law_letter", "_law_one"]) (sc := defScope sMarks) (by decide +kernel))
            (fun _ _ _ _ _ => pg_name (i := 8) scMarks.nd rfl (Or.inl rfl)) (fun _ _ _ _ _ => pts_nil) (fun _ _ _ _ _ => pe_op op_add_str pe_str (pv 8)))
        (pss_one (ps_expr (pe_bm PySem.F.plainAttrs_list PySem.F.slot_list_append PySem.F.type_list_append mt_append (pv 2) (pa_cons (pe_ix ix_list (pe_lc (own := [("_law_one", 9)]) (g := gName 9) (tt := tTest (tOp (rIn K true) (tVar 9) (tVar 2))) rfl scMarks.nd (pi_list (pe_op op_cat (pe_lst (pa_cons (pv 5) pa_nil)) (pv 6))) (blkOk_by (N := ["_law_rng_here", "_law_many", "_law_found", "_law_k", "_law_size", "_law_mark", "_law_spare", "_law_turn", "_law_letter", "_law_one"]) (sc := defScope sMarks) (by decide +kernel))
            (fun _ _ _ _ _ => pg_name (i := 9) scMarks.nd rfl (Or.inl rfl)) (fun _ _ _ _ _ => pts_one (pt_cmpR op_notIn_seq (pv 9) (pv 2) (by rfl))) (fun _ _ _ _ _ => pv 9)) pe_int (fun _ _ => rfl)) pa_nil))))))))
      (pss_one (ps_ret (pv 2)))), ?_⟩
    refine ⟨Nat.zero_le _, fun Lf nLf => ?_⟩
    have na : ∀ {H' : Hp} {p : Addr}, Rng H' a → H' p = none → p ≠ a := fun r n e => by
      obtain ⟨o, h⟩ := r.there
      rw [e, h] at n
      cases n
    have aLf := na hR nLf
    refine ⟨_, rfl, n, rfl, by omega, by omega, ?_⟩
    refine for_it (walk_range (lo := 0) (n := n)) (fun i σ H' => ∃ (found : List Str) (v3 v4 v5 v6 v7 v8 v9 : Option V), σ = [some (.ref a), some (.int n), some (.ref Lf), v3, v4, v5, v6, v7, v8, v9] ∧ H' Lf = some (.lst (found.map V.str)) ∧ found.length = i ∧ found.Nodup ∧ (∀ z ∈ found, markS z = true ∧ z.length ≤ 8) ∧ Rng H' a ∧ Keep a H H')
      ⟨[], none, none, none, none, none, none, none, rfl, upd_same, rfl, List.nodup_nil, fun z h => (nomatch h), hR.ext (Ext.new nLf), Keep.of (Ext.new nLf)⟩ (fun _ _ _ _ _ => trivial) ?_ ?_
    · rintro i x σ H1 H1' hi ⟨found, v3, v4, v5, v6, v7, v8, v9, rfl, l1, li, nd1, ok1, r1, k1⟩ ⟨rfl, rfl⟩
      -- _law_size
      refine ⟨by show 4 ≤ sizeLine; decide, fun l nl => ⟨_, rfl, a, 4, rfl, r1.ext (Ext.new nl), by decide, by decide, fun d H2 d0 dn r2 k2 => ?_⟩⟩
      obtain ⟨j, rfl⟩ : ∃ j : Nat, d = (j : Int) := ⟨d.toNat, by omega⟩
      obtain ⟨sz, hsz, hs1, hs2⟩ : ∃ sz : Nat, ([V.int 1, V.int 1, V.int 2, V.int 7])[j]? = some (V.int (sz : Nat)) ∧ 1 ≤ sz ∧ sz ≤ 7 := by
        have : j = 0 ∨ j = 1 ∨ j = 2 ∨ j = 3 := by omega
        rcases this with rfl | rfl | rfl | rfl
        · exact ⟨1, rfl, by decide, by decide⟩
        · exact ⟨1, rfl, by decide, by decide⟩
        · exact ⟨2, rfl, by decide, by decide⟩
        · exact ⟨7, rfl, by decide, by decide⟩
      have nla := na r1 nl
      refine ⟨l, _, _, .int (sz : Nat), rfl, rfl, SqL.of (k2 _ _ upd_same nla), atI_nat hsz, _, _, rfl, rfl, ?_⟩
      have l2 : H2 Lf = some (.lst (found.map V.str)) := k2 _ _ ((Ext.new nl) _ _ l1) aLf
      have k2' : Keep a H H2 := k1.trans ((Keep.of (Ext.new nl)).trans k2)
      clear k2
      -- _law_mark
      refine ⟨⟨_, rfl⟩, _, rfl, (1 + (sz : Int)), rfl, by omega, by omega, fun D nD => ?_⟩
      have nDa := na r2 nD
      refine lc_range (n := 1 + sz) (fun i H' => ∃ ys : List Str, H' D = some (.lst (ys.map V.str)) ∧ ys.length = i ∧ (∀ y ∈ ys, ∃ c, y = ⟨#[c]⟩ ∧ lowC c = true) ∧ Rng H' a ∧ Keep a H2 H') ⟨[], upd_same, rfl, fun y h => (nomatch h), r2.ext (Ext.new nD), Keep.of (Ext.new nD)⟩ ?_ ?_
      · rintro j' H3 hj' ⟨ys, d3, ly, oy, r3, k3⟩
        refine ⟨rfl, _, rfl, a, 26, rfl, r3, by decide, by decide, fun d' H4 e0 en r4 k4 => ?_⟩
        obtain ⟨m, rfl⟩ : ∃ m : Nat, d' = (m : Int) := ⟨d'.toNat, by omega⟩
        obtain ⟨c, hc, lc⟩ := abc_at (j := m) (by omega)
        refine ⟨abc, _, c, rfl, rfl, by decide, atI_nat hc, _, k4 _ _ d3 nDa, by rw [List.length_map]; exact small_list (by omega), ys ++ [⟨#[c]⟩], by rw [upd_same, List.map_append]; rfl, by rw [List.length_append, ly]; rfl, fun y hy => ?_, ?_, ?_⟩
        · rcases List.mem_append.mp hy with q | q
          · exact oy y q
          · exact ⟨c, List.mem_singleton.mp q, lc⟩
        · obtain ⟨x, y, h, q⟩ := r4.ex
          exact ⟨x, y, by rw [upd_ne nDa.symm]; exact h, q⟩
        · intro b o e nb
          rw [upd_ne (ne_of_none e nD)]
          exact k4 _ _ (k3 b o e nb) nb
      · rintro H3 ⟨ys, d3, ly, oy, r3, k3⟩
        obtain ⟨wd, wl⟩ := join_word oy
        have hj3 : (ys.map (·.length)).sum + ys.length * ("" : Str).length ≤ 16777216 := join_le (fun y hy => by obtain ⟨c, rfl, _⟩ := oy y hy; show 1 ≤ 8; decide) (by omega)
        refine ⟨_, D, ys, rfl, rfl, .inl (SqL.of d3), hj3, ?_⟩
        generalize Txt.join "" ys = mark at wd wl ⊢
        have l3 := k3 _ _ l2 aLf
        have k3' := k2'.trans k3
        -- _law_spare
        refine ⟨abc, rfl, fun D2 nD2 => ?_⟩
        have nD2a := na r3 nD2
        refine lc_it (walk_str (z := abc)) (fun i H' => H' D2 = some (.lst ((spare.take i).map V.str)) ∧ Ext H3 H') ⟨upd_same, Ext.new nD2⟩ (fun _ _ _ _ => trivial) ?_ ?_
        · rintro j' x H4 H4' hj' ⟨d4, x4⟩ ⟨rfl, c, hc, rfl⟩
          refine ⟨rfl, _, rfl, _, _, rfl, rfl, by show 1 + 1 ≤ sizeLine; decide, _, d4, ?_, ?_, fun b o e => ?_⟩
          · rw [List.length_map, List.length_take]
            exact small_list (by have := spare_ok.1; omega)
          · have e1 : spare[j']? = some (("m" : Str) ++ ⟨#[c]⟩) := by
              unfold spare abcL signsOf
              rw [List.getElem?_map, List.getElem?_map, Array.getElem?_toList, hc]
              rfl
            rw [upd_same, take_more e1, List.map_append]
            rfl
          · rw [upd_ne (ne_of_none e nD2)]
            exact x4 _ _ e
        · rintro H4 ⟨d4, x4⟩
          have e26 : spare.take abc.cps.size = spare := List.take_of_length_le (by rw [spare_ok.1]; decide)
          rw [e26] at d4
          have l4 := x4 _ _ l3
          have r4 := r3.ext x4
          -- the first that is new
          refine ⟨_, rfl, .inl ⟨rfl, _, SqL.of l4⟩, _, rfl, by show 1 ≤ sizeLine; decide, fun L1 nL1 => ?_⟩
          have d5 := (Ext.new nL1 (o := .lst [V.str mark])) _ _ d4
          refine ⟨_, rfl, _, _, _, _, rfl, rfl, upd_same, d5, by rw [List.length_map, spare_ok.1]; show 1 + 26 ≤ sizeLine; decide, fun L2' nL2 => ?_⟩
          have x5 : Ext H4 (upd (upd H4 L1 (.lst [V.str mark])) L2' (.lst ([V.str mark] ++ spare.map V.str))) := (Ext.new nL1).trans (Ext.new nL2)
          have d6 : (upd (upd H4 L1 (.lst [V.str mark])) L2' (.lst ([V.str mark] ++ spare.map V.str))) L2' = some (.lst ((mark :: spare).map V.str)) := upd_same
          generalize upd (upd H4 L1 (.lst [V.str mark])) L2' (.lst ([V.str mark] ++ spare.map V.str)) = H5 at x5 d6 ⊢
          refine ⟨L2', rfl, ⟨_, SqL.of d6⟩, fun D3 nD3 => ?_⟩
          have l5 := x5 _ _ l4
          refine lc_it (walk_list (xs := (mark :: spare).map V.str)) (fun i H' => H' D3 = some (.lst ((((mark :: spare).take i).filter fun z => !decide (z ∈ found)).map V.str)) ∧ Ext H5 H') ⟨upd_same, Ext.new nD3⟩ (fun i H' _ h => SqL.of (h.2 _ _ d6)) ?_ ?_
          · rintro j' x H6 H6' hj' ⟨d7, x7⟩ ⟨rfl, hx⟩
            obtain ⟨z, hz, rfl⟩ := at_map hx
            refine ⟨rfl, _, rfl, _, rfl, Lf, _, rfl, .inl (SqL.of (x7 _ _ l5)), rfl, flat_strs found, ?_⟩
            rw [inV_strs]
            refine ⟨_, rfl, ?_⟩
            rw [take_more hz, List.filter_append]
            have lt : (((mark :: spare).take j').filter fun z => !decide (z ∈ found)).length ≤ 27 := Nat.le_trans (List.length_filter_le _ _) (by rw [List.length_take, List.length_cons, spare_ok.1]; omega)
            by_cases c : z ∈ found
            · have e1 : List.filter (fun z => !decide (z ∈ found)) [z] = [] := by simp [c]
              rw [e1, List.append_nil, decide_eq_true c]
              exact ⟨d7, x7⟩
            · have e1 : List.filter (fun z => !decide (z ∈ found)) [z] = [z] := by simp [c]
              rw [e1, List.map_append, decide_eq_false c]
              refine ⟨_, rfl, _, d7, by rw [List.length_map]; exact small_list (by omega), upd_same, fun b o e => ?_⟩
              rw [upd_ne (ne_of_none e nD3)]
              exact x7 _ _ e
          · rintro H6 ⟨d7, x7⟩
            rw [List.length_map, List.take_length] at d7
            obtain ⟨one, rest, ef⟩ : ∃ one rest, ((mark :: spare).filter fun z => !decide (z ∈ found)) = one :: rest := by
              cases e : ((mark :: spare).filter fun z => !decide (z ∈ found)) with
              | cons one rest => exact ⟨one, rest, rfl⟩
              | nil =>
                have sub : ∀ z ∈ spare, z ∈ found := fun z hz => by
                  by_cases c : z ∈ found
                  · exact c
                  · have m : z ∈ (mark :: spare).filter fun z => !decide (z ∈ found) := List.mem_filter.mpr ⟨List.mem_cons_of_mem _ hz, by simp [c]⟩
                    rw [e] at m
                    cases m
                have := len_le spare_ok.2.1 sub
                have := spare_ok.1
                omega
            rw [ef] at d7
            have hm : one ∈ (mark :: spare).filter fun z => !decide (z ∈ found) := by rw [ef]; exact List.mem_cons_self
            obtain ⟨hm1, hm2⟩ := List.mem_filter.mp hm
            have hnew : one ∉ found := fun c => by
              rw [decide_eq_true c] at hm2
              cases hm2
            have okm : markS one = true ∧ one.length ≤ 8 := by
              rcases List.mem_cons.mp hm1 with rfl | c
              · exact ⟨mark_of wd (by omega) (by omega), by omega⟩
              · exact spare_ok.2.2 one c
            have l6 := x7 _ _ l5
            refine ⟨D3, _, 0, .str one, rfl, rfl, SqL.of d7, atI_nat (j := 0) rfl, Lf, _, _, rfl, rfl, l6, by rw [List.length_map]; exact small_list (by omega), ?_⟩
            have x8 : Ext H3 H6 := x4.trans (x5.trans x7)
            have r6 := r3.ext x8
            refine ⟨found ++ [one], _, _, _, _, _, _, _, rfl, by rw [upd_same, List.map_append]; rfl, by rw [List.length_append, li]; rfl, ?_, fun z hz => ?_, ?_, fun b o e nb => ?_⟩
            · exact List.nodup_append.mpr ⟨nd1, by simp, fun p hp q hq e => hnew (by rw [← List.mem_singleton.mp hq, ← e]; exact hp)⟩
            · rcases List.mem_append.mp hz with c | c
              · exact ok1 z c
              · rw [List.mem_singleton.mp c]
                exact okm
            · obtain ⟨x, y, h, q⟩ := r6.ex
              exact ⟨x, y, by rw [upd_ne aLf.symm]; exact h, q⟩
            · rw [upd_ne (ne_of_none e nLf)]
              exact x8 _ _ (k3' b o e nb)
    · rintro σ H1 ⟨found, v3, v4, v5, v6, v7, v8, v9, rfl, l1, li, nd1, ok1, r1, k1⟩
      exact ⟨_, rfl, k H1 Lf found r1 k1 nLf l1 li nd1 ok1⟩
end
end Sl
/-! ## P17 -/
set_option Elab.async false
set_option linter.all false
set_option maxRecDepth 100000
set_option maxHeartbeats 4000000
namespace Sl
open PySem PySem.Spec PyProof.Rows L2 TxS
abbrev sAnyFormat : Stmt := top 30
theorem RowsAt.keepN {H H' : Hp} {a : Addr} (k : Keep a H H') (n2 : ∀ xs, H a ≠ some (.tup xs)) : ∀ {ds : List Addr} {rows : List Rw}, a ∉ ds → RowsAt H ds rows → RowsAt H' ds rows
  | _, _, _, .nil => .nil
  | _, _, n1, .cons ⟨es, e, b⟩ h => .cons ⟨es, k _ _ e (fun z => n1 (by rw [← z]; exact List.mem_cons_self)), b.ext fun t xs e => k _ _ e (fun z => n2 _ (by rw [← z]; exact e))⟩ (h.keepN k n2 fun m => n1 (List.mem_cons_of_mem _ m))
theorem Rng.notup {H : Hp} {a : Addr} (r : Rng H a) : ∀ xs, H a ≠ some (.tup xs) := fun xs e => by
  obtain ⟨x, y, h, q⟩ := r.ex
  rw [h] at e
  cases e
theorem Rng.nodict {H : Hp} {a : Addr} (r : Rng H a) : ∀ kvs, H a ≠ some (.dK kvs) := fun kvs e => by
  obtain ⟨x, y, h, q⟩ := r.ex
  rw [h] at e
  cases e
theorem Rng.new {H : Hp} {a p : Addr} (r : Rng H a) (n : H p = none) : p ≠ a := fun e => by
  obtain ⟨o, h⟩ := r.there
  rw [e, h] at n
  cases n
theorem Rng.upd {H : Hp} {a p : Addr} {o : HO} (r : Rng H a) (n : p ≠ a) : Rng (upd H p o) a := by
  obtain ⟨x, y, h, q⟩ := r.ex
  exact ⟨x, y, by rw [upd_ne n.symm]; exact h, q⟩
/-- a row over these letters, its goals below n, its told names among these -/
def rowOver (paper names : List Str) (n : Int) (r : Rw) : Prop := (r.map (·.1)).Nodup ∧ ∀ e ∈ r, e.1 ∈ paper ∧ (0 ≤ e.2.1 ∧ e.2.1 < n) ∧ ∀ z, e.2.2 = some z → z ∈ names
structure okModel (cap : Nat) (paper names : List Str) (rows : List Rw) (ns : List Int) (b : Int) : Prop where
  lo : 1 ≤ rows.length
  hi : rows.length ≤ cap
  rw_ : ∀ r ∈ rows, rowOver paper names rows.length r
  nd : ns.Nodup
  len : ns.length ≤ cap
  inn : ∀ i ∈ ns, 0 ≤ i ∧ i < rows.length
  b0 : 0 ≤ b
  b1 : b < rows.length
structure ModelAt (H : Hp) (M L E : Addr) (ds : List Addr) (rows : List Rw) (ns : List Int) (b : Int) : Prop where
  h1 : H M = some (.tup [.ref L, .ref E, .int b])
  h2 : H L = some (.lst (ds.map V.ref))
  h3 : RowsAt H ds rows
  h4 : ds.Nodup
  h5 : H E = some (.lst (ns.map V.int))
theorem ModelAt.keep {H H' : Hp} {a M L E : Addr} {ds : List Addr} {rows : List Rw} {ns : List Int} {b : Int} (m : ModelAt H M L E ds rows ns b) (k : Keep a H H') (r : Rng H a) (n1 : L ≠ a) (n2 : E ≠ a) : ModelAt H' M L E ds rows ns b := by
  refine ⟨k _ _ m.h1 (fun e => r.notup _ (by rw [← e]; exact m.h1)), k _ _ m.h2 n1, m.h3.keepN k r.notup ?_, m.h4, k _ _ m.h5 n2⟩
  intro hm
  obtain ⟨kvs, e⟩ := m.h3.mem hm
  exact r.nodict _ e
/-- what a maker of models hands back -/
def spModelOut (cap : Nat) (a : Addr) (paper names : List Str) (H : Hp) (Q : VK) : Prop := ∀ (H' : Hp) (M L E : Addr) (ds : List Addr) (rows : List Rw) (ns : List Int) (b : Int), Rng H' a → Keep a H H' → H M = none → H L = none → H E = none → (∀ d ∈ ds, H d = none) →
  ModelAt H' M L E ds rows ns b → okModel cap paper names rows ns b → Q (.ref M) H'
/-- the lists of letters, told letters and marks that a maker gets -/
structure Lsts (H : Hp) (a Pa Te Ma : Addr) (paper tells marks : List Str) : Prop where
  p : H Pa = some (.lst (paper.map V.str))
  t : H Te = some (.lst (tells.map V.str))
  m : H Ma = some (.lst (marks.map V.str))
  pa : Pa ≠ a
  ta : Te ≠ a
  ma : Ma ≠ a
  nd : paper.Nodup
  lp : 1 ≤ paper.length
  lp2 : paper.length ≤ 6
  lt : 2 ≤ tells.length
  lt2 : tells.length ≤ 4
  lm : 2 ≤ marks.length
  lm2 : marks.length ≤ 6
theorem Lsts.keep {H H' : Hp} {a Pa Te Ma : Addr} {paper tells marks : List Str} (l : Lsts H a Pa Te Ma paper tells marks) (k : Keep a H H') : Lsts H' a Pa Te Ma paper tells marks :=
  ⟨k _ _ l.p l.pa, k _ _ l.t l.ta, k _ _ l.m l.ma, l.pa, l.ta, l.ma, l.nd, l.lp, l.lp2, l.lt, l.lt2, l.lm, l.lm2⟩
def spAnyFormat : Sp := fun vs H Q _ => ∃ (a Pa Te Ma : Addr) (cap : Nat) (paper tells marks : List Str), vs = [.ref a, .int cap, .ref Pa, .ref Te, .ref Ma] ∧ Rng H a ∧ 1 ≤ cap ∧ cap ≤ 12 ∧ Lsts H a Pa Te Ma paper tells marks ∧ spModelOut cap a paper (tells ++ marks) H Q
section
variable {P : Program} {w : World} {K : PySem.W.Frag} {mg : Str → Option Value} {base : Heap}
theorem scAnyFormat : FnScope ["_law_rng_here", "_law_cap", "_law_paper", "_law_tells", "_law_marks_here", "_law_many", "_law_rows", "_law_spot", "_law_line", "_law_letter", "_law_told", "_law_stops"] ["_law_rng_here", "_law_cap", "_law_paper", "_law_tells", "_law_marks_here"] (defScope sAnyFormat) := ⟨rfl, rfl, rfl, by decide +kernel, rfl, by decide +kernel, by decide +kernel⟩
theorem ok_anyformat {f fD fC : Addr} {fd fdD fdC : FuncData} (F : Fun K "_law_any_format" "_law_any_format" sAnyFormat f fd) (aD : At K mg "_law_draw" fD fdD ["_law_rng_here", "_law_many"] []) (gD : FnOk P w K mg base CX0 1 fD fdD ["_law_rng_here", "_law_many"] spDraw)
    (aC : At K mg "_law_choice" fC fdC ["_law_rng_here", "_law_some"] []) (gC : FnOk P w K mg base CX0 2 fC fdC ["_law_rng_here", "_law_some"] spChoice) (zr : mg "range" = none) :
    FnOk P w K mg base CX0 3 f fd ["_law_rng_here", "_law_cap", "_law_paper", "_law_tells", "_law_marks_here"] spAnyFormat := by
  refine F.ok scAnyFormat (fun vs H Q E h => ?_) (fun cdv A0 outer s H vs Q E hr h => ?_)
  · obtain ⟨a, Pa, Te, Ma, cap, paper, tells, marks, rfl, _⟩ := h
    rfl
  · obtain ⟨a, Pa, Te, Ma, cap, paper, tells, marks, rfl, hR, c1, c12, hl, k⟩ := h
    have hr1 : Room 1 _ := hr.mono (by decide)
    refine ⟨_, pss_cons (ps_set (i := 5) scAnyFormat.nd rfl (.inl rfl) (pe_op op_add pe_int (pe_call gD hr1 (by rfl) aD.g aD.kp aD.b .nil pass0 (pa_cons (pv 0) (pa_cons (pv 1) pa_nil)))))
      (pss_cons (ps_set (i := 6) scAnyFormat.nd rfl (.inl rfl) (pe_lst pa_nil))
      (pss_cons (ps_for PassesOwn.never rfl (pi_range1 rfl zr (pa_cons (pv 5) pa_nil)) (pg_name (i := 7) scAnyFormat.nd rfl (.inl rfl))
        (pss_cons (ps_set (i := 8) scAnyFormat.nd rfl (.inl rfl) pe_dnewK)
        (pss_cons (ps_for PassesOwn.never rfl (pi_list (pv 2)) (pg_name (i := 9) scAnyFormat.nd rfl (.inl rfl))
          (pss_one (ps_if (pt_cmpR op_gt (pe_call gD hr1 (by rfl) aD.g aD.kp aD.b .nil pass0 (pa_cons (pv 0) (pa_cons pe_int pa_nil))) pe_int (nomark _))
            (pss_cons (ps_set (i := 10) scAnyFormat.nd rfl (.inl rfl) (pe_call gC hr (by rfl) aC.g aC.kp aC.b .nil pass0 (pa_cons (pv 0) (pa_cons (pe_op op_cat (pe_op op_cat (pe_lst (pa_cons pe_non pa_nil)) (pe_op op_rep (pv 3) pe_int)) (pv 4)) pa_nil))))
            (pss_one (ps_dput (hu_of hr) (pv 8) (pv 9) (pe_tup (pa_cons (pe_call gD hr1 (by rfl) aD.g aD.kp aD.b .nil pass0 (pa_cons (pv 0) (pa_cons (pv 5) pa_nil))) (pa_cons (pv 10) pa_nil))) rfl))) pss_nil)))
        (pss_one (ps_expr (pe_bm PySem.F.plainAttrs_list PySem.F.slot_list_append PySem.F.type_list_append mt_append (pv 6) (pa_cons (pv 8) pa_nil)))))))
      (pss_cons (ps_setLc (i := 11) (own := [("_law_spot", 7)]) (g := gName 7) (tt := tTest (tOp rEq (tCall spDraw [] (fun _ _ _ => False) (tCons (tVar 0) (tCons (tC (.int 2)) tNil))) (tC (.int 0)))) (te := tVar 7) rfl scAnyFormat.nd rfl rfl (sw_true rfl rfl rfl (by decide +kernel)) (pi_range1 rfl zr (pa_cons (pv 5) pa_nil)) (blkOk_by (N := ["_law_rng_here", "_law_cap", "_law_paper", "_law_tells", "_law_marks_here", "_law_many", "_law_rows", "_law_spot", "_law_line", "_law_letter", "_law_told", "_law_stops"]) (sc := defScope sAnyFormat) (by decide +kernel))
            (fun _ _ _ _ _ => pg_name (i := 7) scAnyFormat.nd rfl (Or.inl rfl)) (fun _ _ _ _ _ => pts_one (pt_cmpR op_eq (pe_call gD hr1 (by rfl) aD.g aD.kp aD.b .nil pass0 (pa_cons (pv 0) (pa_cons pe_int pa_nil))) pe_int (nomark _))) (fun _ _ _ _ _ => pv 7))
      (pss_one (ps_ret (pe_tup (pa_cons (pv 6) (pa_cons (pv 11) (pa_cons (pe_call gD hr1 (by rfl) aD.g aD.kp aD.b .nil pass0 (pa_cons (pv 0) (pa_cons (pv 5) pa_nil))) pa_nil))))))))), ?_⟩
    -- _law_many
    refine ⟨_, rfl, _, rfl, a, cap, rfl, hR, by omega, by omega, fun d0 H1 e0 e1 r1 k1 => ⟨_, _, rfl, rfl, ?_⟩⟩
    obtain ⟨m0, rfl⟩ : ∃ m0 : Nat, d0 = (m0 : Int) := ⟨d0.toNat, by omega⟩
    have n1 : 1 ≤ 1 + m0 := by omega
    have n2 : 1 + m0 ≤ cap := by omega
    show gName 5 (V.int ((1 + m0 : Nat) : Int)) _ H1 _
    generalize 1 + m0 = n at n1 n2 ⊢
    -- _law_rows
    refine ⟨Nat.zero_le _, fun L nL => ?_⟩
    have nLa := r1.new nL
    have nL0 : H L = none := k1.free r1.there.choose_spec nL
    refine ⟨_, rfl, n, rfl, by omega, by omega, ?_⟩
    refine for_it (walk_range (lo := 0) (n := n)) (fun i σ H' => ∃ (ds : List Addr) (rows : List Rw) (v7 v8 v9 v10 : Option V), σ = [some (.ref a), some (.int cap), some (.ref Pa), some (.ref Te), some (.ref Ma), some (.int n), some (.ref L), v7, v8, v9, v10, none] ∧
        H' L = some (.lst (ds.map V.ref)) ∧ RowsAt H' ds rows ∧ ds.Nodup ∧ (∀ d ∈ ds, H d = none) ∧ rows.length = i ∧ (∀ r ∈ rows, rowOver paper (tells ++ marks) n r) ∧ Rng H' a ∧ Keep a H H')
      ⟨[], [], none, none, none, none, rfl, upd_same, .nil, List.nodup_nil, fun d h => (nomatch h), rfl, fun r h => (nomatch h), r1.upd nLa, k1.trans (Keep.of (Ext.new nL))⟩ (fun _ _ _ _ _ => trivial) ?_ ?_
    · rintro i x σ H2' H2 hi ⟨ds, rows, v7, v8, v9, v10, rfl, l2, w2, nd2, f2, li, ok2, r2, k2⟩ ⟨rfl, rfl⟩
      -- _law_line
      intro D nD
      have nDa := r2.new nD
      have nD0 : H D = none := k2.free r2.there.choose_spec nD
      have nDL : D ≠ L := fun e => by rw [e, l2] at nD; cases nD
      have lsD := hl.keep (k2.trans (Keep.of (Ext.new nD (o := .dK []))))
      refine ⟨_, rfl, Pa, rfl, ⟨_, SqL.of lsD.p⟩, ?_⟩
      refine for_it (walk_list (xs := paper.map V.str)) (fun j σ H' => ∃ (es : List (Str × Addr)) (r : Rw) (v9 v10 : Option V), σ = [some (.ref a), some (.int cap), some (.ref Pa), some (.ref Te), some (.ref Ma), some (.int n), some (.ref L), some (.int (0 + (i : Nat))), some (.ref D), v9, v10, none] ∧
          H' D = some (.dK (kvsOf es)) ∧ Ents H' es r ∧ (∀ z ∈ r.map (·.1), z ∈ paper.take j) ∧ rowOver paper (tells ++ marks) n r ∧ r.length ≤ j ∧ Rng H' a ∧ Keep a H2 H')
        ⟨[], [], v9, v10, rfl, upd_same, .nil, fun z h => (nomatch h), ⟨List.nodup_nil, fun e h => (nomatch h)⟩, Nat.le_refl _, r2.upd nDa, Keep.of (Ext.new nD)⟩ (fun j σ H' _ ⟨_, _, _, _, _, _, _, _, _, _, _, kk⟩ => SqL.of ((hl.keep (k2.trans kk)).p)) ?_ ?_
      · rintro j x σ H3' H3 hj ⟨es, r, v9, v10, rfl, d3, e3, s3, ok3, lr3, r3, k3⟩ ⟨rfl, hx⟩
        obtain ⟨z, hz, rfl⟩ := at_map hx
        have hjl : j < paper.length := (List.getElem?_eq_some_iff.mp hz).1
        have lp2 := hl.lp2
        refine ⟨_, rfl, a, 4, rfl, r3, by decide, by decide, fun d4 H4 _ _ r4 k4 => ⟨_, _, rfl, rfl, _, rfl, ?_⟩⟩
        have d4' := k4 _ _ d3 nDa
        have e4 : Ents H4 es r := e3.ext fun t xs e => k4 _ _ e (fun q => r3.notup _ (by rw [← q]; exact e))
        have kk4 := k3.trans k4
        have more : ∀ y ∈ r.map (·.1), y ∈ paper.take (j + 1) := fun y hy => by
          rw [take_more hz]
          exact List.mem_append_left _ (s3 y hy)
        refine ite2 (fun _ => ?_) (fun _ => ?_)
        · -- a move by this letter
          have ls4 := hl.keep (k2.trans kk4)
          have lt2 := hl.lt2
          have lm2 := hl.lm2
          refine ⟨_, rfl, by show 1 ≤ sizeLine; decide, fun p1 np1 => ⟨_, rfl, Te, 2, _, rfl, rfl, (Ext.new np1) _ _ ls4.t, by decide, by decide, ?_, fun p2 np2 => ?_⟩⟩
          · rw [List.length_map]
            exact small_size (by show tells.length * 2 ≤ 10000; omega)
          have b1 := (Ext.new np2 (o := .lst (List.replicate (2 : Int).toNat (tells.map V.str)).flatten)) _ _ (upd_same (H := H4) (a := p1) (o := .lst [V.non]))
          refine ⟨p1, p2, _, _, rfl, rfl, b1, upd_same, ?_, fun p3 np3 => ?_⟩
          · rw [List.length_flatten]
            refine small_size ?_
            show 1 + (List.map List.length [tells.map V.str, tells.map V.str]).sum ≤ 10000
            simp only [List.map_cons, List.map_nil, List.sum_cons, List.sum_nil, List.length_map]
            omega
          have x5 : Ext H4 (upd (upd (upd H4 p1 (.lst [V.non])) p2 (.lst (List.replicate (2 : Int).toNat (tells.map V.str)).flatten)) p3 (.lst ([V.non] ++ (List.replicate (2 : Int).toNat (tells.map V.str)).flatten))) := ((Ext.new np1).trans (Ext.new np2)).trans (Ext.new np3)
          refine ⟨_, rfl, p3, Ma, _, _, rfl, rfl, upd_same, x5 _ _ ls4.m, ?_, fun p4 np4 => ?_⟩
          · rw [List.length_map, List.length_append, List.length_flatten]
            refine small_size ?_
            show 1 + (List.map List.length [tells.map V.str, tells.map V.str]).sum + marks.length ≤ 10000
            simp only [List.map_cons, List.map_nil, List.sum_cons, List.sum_nil, List.length_map]
            omega
          have x6 := x5.trans (Ext.new np4 (o := .lst ([V.non] ++ (List.replicate (2 : Int).toNat (tells.map V.str)).flatten ++ marks.map V.str)))
          have c6 : (upd (upd (upd (upd H4 p1 (.lst [V.non])) p2 (.lst (List.replicate (2 : Int).toNat (tells.map V.str)).flatten)) p3 (.lst ([V.non] ++ (List.replicate (2 : Int).toNat (tells.map V.str)).flatten))) p4 (.lst ([V.non] ++ (List.replicate (2 : Int).toNat (tells.map V.str)).flatten ++ marks.map V.str))) p4 = some (.lst ([V.non] ++ (List.replicate (2 : Int).toNat (tells.map V.str)).flatten ++ marks.map V.str)) := upd_same
          generalize upd (upd (upd (upd H4 p1 (.lst [V.non])) p2 (.lst (List.replicate (2 : Int).toNat (tells.map V.str)).flatten)) p3 (.lst ([V.non] ++ (List.replicate (2 : Int).toNat (tells.map V.str)).flatten))) p4 (.lst ([V.non] ++ (List.replicate (2 : Int).toNat (tells.map V.str)).flatten ++ marks.map V.str)) = H6 at x6 c6 ⊢
          have r6 := r4.ext x6
          have el : ([V.non] ++ (List.replicate (2 : Int).toNat (tells.map V.str)).flatten ++ marks.map V.str) = V.non :: ((tells ++ (tells ++ marks)).map V.str) := by
            show [V.non] ++ (tells.map V.str ++ (tells.map V.str ++ [])) ++ marks.map V.str = _
            rw [List.append_nil, List.map_append, List.map_append, List.append_assoc, List.append_assoc]
            rfl
          rw [el] at c6
          refine ⟨a, p4, _, rfl, r6, c6, r6.lst c6 (fun x y e => by injection e with e1 e2; cases e1), Nat.succ_pos _, ?_, fun t told H7 ht r7 k7 => ?_⟩
          · rw [List.length_cons, List.length_map, List.length_append, List.length_append]
            omega
          obtain ⟨o, rfl, ho⟩ : ∃ o : Option Str, told = toldV o ∧ ∀ y, o = some y → y ∈ tells ++ marks := by
            cases t with
            | zero =>
              cases ht
              exact ⟨none, rfl, fun y e => by cases e⟩
            | succ t =>
              obtain ⟨y, hy, rfl⟩ := at_map (show ((tells ++ (tells ++ marks)).map V.str)[t]? = some told from ht)
              refine ⟨some y, rfl, fun y' e => ?_⟩
              cases e
              rcases List.mem_append.mp (List.mem_of_getElem? hy) with q | q
              · exact List.mem_append_left _ q
              · exact q
          -- _law_line[_law_letter] = ..
          have kk7 : Keep a H4 H7 := (Keep.of x6).trans k7
          refine ⟨_, rfl, _, rfl, a, n, rfl, r7, by omega, by omega, fun g H8 g0 g1 r8 k8 => ⟨_, rfl, by show 2 ≤ sizeLine; decide, fun T nT => ?_⟩⟩
          have kk8 : Keep a H4 (upd H8 T (.tup [.int g, toldV o])) := (kk7.trans k8).trans (Keep.of (Ext.new nT))
          have d8 := kk8 _ _ d4' nDa
          have e8 : Ents (upd H8 T (.tup [.int g, toldV o])) es r := e4.ext fun t xs e => kk8 _ _ e (fun q => r4.notup _ (by rw [← q]; exact e))
          have hT : (upd H8 T (.tup [.int g, toldV o])) T = some (.tup [.int g, toldV o]) := upd_same
          have r8' := r8.upd (o := .tup [.int g, toldV o]) (r8.new nT)
          generalize upd H8 T (.tup [.int g, toldV o]) = H9 at kk8 d8 e8 hT r8' ⊢
          have znew : z ∉ es.map (·.1) := by
            rw [e8.keys]
            intro c
            have c := s3 z c
            obtain ⟨q, hq, e⟩ := List.mem_iff_getElem.mp c
            rw [List.length_take] at hq
            rw [List.getElem_take] at e
            have e2 : paper[j]'hjl = z := (List.getElem?_eq_some_iff.mp hz).2
            have := (List.getElem_inj hl.nd).mp (e.trans e2.symm)
            omega
          have les : es.length ≤ j := by rw [e8.len]; exact lr3
          refine ⟨_, rfl, _, rfl, D, _, rfl, DPut.k (k := Sum.inr z) d8 (by unfold kvsOf; rw [List.length_map]; exact small_list (by omega)), ?_⟩
          rw [putK_new _ (val_no znew)]
          have nTD : T ≠ D := ne_of hT d8 (by intro q; cases q)
          refine ⟨es ++ [(z, T)], r ++ [(z, (g, o))], _, _, rfl, ?_, (e8.ext fun t xs e => ?_).snoc ?_, fun y hy => ?_, ⟨?_, fun e he => ?_⟩, ?_, r8'.upd nDa, fun b o' e nb => ?_⟩
          · rw [upd_same]
            unfold kvsOf
            rw [List.map_append]
            rfl
          · rw [upd_ne (ne_of e d8 (by intro q; cases q))]
            exact e
          · show upd _ D _ T = _
            rw [upd_ne nTD]
            exact hT
          · rw [List.map_append] at hy
            rcases List.mem_append.mp hy with q | q
            · exact more y q
            · have q := List.mem_singleton.mp q
              rw [take_more hz, q]
              exact List.mem_append_right _ List.mem_cons_self
          · rw [List.map_append]
            refine List.nodup_append.mpr ⟨ok3.1, by simp, fun p hp q hq e => znew ?_⟩
            have e0 : q = z := List.mem_singleton.mp hq
            rw [e8.keys, ← e0, ← e]
            exact hp
          · rcases List.mem_append.mp he with q | q
            · exact ok3.2 e q
            · rw [List.mem_singleton.mp q]
              exact ⟨List.mem_of_getElem? hz, ⟨g0, g1⟩, ho⟩
          · rw [List.length_append]
            show r.length + 1 ≤ j + 1
            omega
          · rw [upd_ne (ne_of_none e nD)]
            exact kk8 _ _ (kk4 b o' e nb) nb
        · exact ⟨es, r, _, _, rfl, d4', e4, more, ok3, by omega, r4, kk4⟩
      · rintro σ H3 ⟨es, r, v9', v10', rfl, d3, e3, s3, ok3, lr3, r3, k3⟩
        have l3 := k3 _ _ l2 nLa
        have lds : ds.length = i := by rw [w2.len, li]
        refine ⟨_, rfl, .inl ⟨rfl, _, SqL.of l3⟩, _, rfl, L, _, _, rfl, rfl, l3, by rw [List.length_map]; exact small_list (by omega), ?_⟩
        have w3 : RowsAt H3 ds rows := w2.keepN k3 r2.notup fun hm => by
          obtain ⟨kvs, e⟩ := w2.mem hm
          exact r2.nodict _ e
        refine ⟨ds ++ [D], rows ++ [r], _, _, _, _, rfl, ?_, RowsAt.snoc ?_ (w3.keepN Keep.at_ (fun xs e => by rw [l3] at e; cases e) fun hm => ?_), ?_, fun d hd => ?_, by rw [List.length_append, li]; rfl, fun r' hr' => ?_, r3.upd nLa, fun b o e nb => ?_⟩
        · rw [upd_same, List.map_append]
          rfl
        · refine RowAt.same ⟨es, d3, e3⟩ (upd_ne nDL) fun t xs e => ?_
          rw [upd_ne (ne_of e l3 (by intro q; cases q))]
          exact e
        · obtain ⟨kvs, e⟩ := w3.mem hm
          rw [l3] at e
          cases e
        · refine List.nodup_append.mpr ⟨nd2, by simp, fun p hp q hq e => ?_⟩
          obtain ⟨kvs, e'⟩ := w2.mem hp
          rw [e, List.mem_singleton.mp hq, nD] at e'
          cases e'
        · rcases List.mem_append.mp hd with q | q
          · exact f2 d q
          · rw [List.mem_singleton.mp q]
            exact nD0
        · rcases List.mem_append.mp hr' with q | q
          · exact ok2 r' q
          · rw [List.mem_singleton.mp q]
            exact ok3
        · rw [upd_ne (ne_of_none e nL0)]
          exact k3 _ _ (k2 b o e nb) nb
    rintro σ H2 ⟨ds, rows, v7, v8, v9, v10, rfl, l2, w2, nd2, f2, li, ok2, r2, k2⟩
    -- _law_stops
    refine ⟨_, rfl, n, rfl, by omega, by omega, fun En nE => ?_⟩
    have nEa := r2.new nE
    have nE0 : H En = none := k2.free r2.there.choose_spec nE
    refine lc_range (n := n) (fun i H' => ∃ ns : List Int, H' En = some (.lst (ns.map V.int)) ∧ ns.Nodup ∧ ns.length ≤ i ∧ (∀ q ∈ ns, 0 ≤ q ∧ q < i) ∧ Rng H' a ∧ Keep a H2 H') ⟨[], upd_same, List.nodup_nil, Nat.le_refl _, fun q h => (nomatch h), r2.upd nEa, Keep.of (Ext.new nE)⟩ ?_ ?_
    · rintro i H3 hi ⟨ns, d3, nd3, l3, in3, r3, k3⟩
      refine ⟨rfl, _, rfl, a, 2, rfl, r3, by decide, by decide, fun d4 H4 _ _ r4 k4 => ⟨rfl, _, rfl, ?_⟩⟩
      have d4' := k4 _ _ d3 nEa
      have kk4 := k3.trans k4
      refine ite2 (fun _ => ?_) (fun _ => ?_)
      · refine ⟨_, rfl, _, d4', by rw [List.length_map]; exact small_list (by omega), ns ++ [(0 + (i : Nat) : Int)], by rw [upd_same, List.map_append]; rfl, ?_, by rw [List.length_append]; show ns.length + 1 ≤ i + 1; omega, fun q hq => ?_, r4.upd nEa, fun b o e nb => ?_⟩
        · refine List.nodup_append.mpr ⟨nd3, by simp, fun p hp q hq e => ?_⟩
          have := in3 p hp
          rw [e, List.mem_singleton.mp hq] at this
          omega
        · rcases List.mem_append.mp hq with c | c
          · have := in3 q c
            omega
          · rw [List.mem_singleton.mp c]
            omega
        · rw [upd_ne (ne_of_none e nE)]
          exact kk4 b o e nb
      · exact ⟨ns, d4', nd3, by omega, fun q hq => by have := in3 q hq; omega, r4, kk4⟩
    · rintro H3 ⟨ns, d3, nd3, l3, in3, r3, k3⟩
      have m3 := k3 _ _ l2 nLa
      refine ⟨_, rfl, _, rfl, _, rfl, _, rfl, a, n, rfl, r3, by omega, by omega, fun g H4 g0 g1 r4 k4 => ⟨by show 3 ≤ sizeLine; decide, fun M nM => ?_⟩⟩
      have kk : Keep a H2 (upd H4 M (.tup [.ref L, .ref En, .int g])) := (k3.trans k4).trans (Keep.of (Ext.new nM))
      have kE : Keep a H3 (upd H4 M (.tup [.ref L, .ref En, .int g])) := k4.trans (Keep.of (Ext.new nM))
      have w4 : RowsAt (upd H4 M (.tup [.ref L, .ref En, .int g])) ds rows := w2.keepN kk r2.notup fun hm => by
        obtain ⟨kvs, e⟩ := w2.mem hm
        exact r2.nodict _ e
      refine k _ M L En ds rows ns g (r4.upd (r4.new nM)) (k2.trans kk) ((k2.trans (k3.trans k4)).free r4.there.choose_spec nM) nL0 nE0 f2 ⟨upd_same, kk _ _ l2 nLa, w4, nd2, kE _ _ d3 nEa⟩ ⟨by omega, by omega, fun r hr => by rw [li]; exact ok2 r hr, nd3, by omega, fun q hq => by have := in3 q hq; omega, g0, by omega⟩
end
end Sl
/-! ## C1 -/
set_option Elab.async false
set_option linter.all false
set_option maxRecDepth 100000
set_option maxHeartbeats 4000000
/-! what a reader tells of itself: start, ends, names, its length, whether a value is in it; rows -/
namespace Sl
open PySem PySem.Spec PyProof.Rows L2 TxS
abbrev sPaperM : Stmt := inClass (top 23) 9
abbrev sTextsM : Stmt := inClass (top 23) 10
abbrev sMarksM : Stmt := inClass (top 23) 11
abbrev sLenR : Stmt := inClass (top 23) 12
abbrev sHasM : Stmt := inClass (top 23) 13
abbrev sIsRowV : Stmt := top 18
theorem ReaderX.ext {C : Addr} {H H' : Hp} {p : Addr} {rows : List Rw} {ends : List Int} {b : Int} {ys ts : List Str} (x : Ext H H') (h : ReaderX C H p rows ends b ys ts) : ReaderX C H' p rows ends b ys ts := by
  obtain ⟨dx, fs, L, ds, Te, M, a1, a2, a3, a4, a5, a6, a7, a8, a9, a10, a11, a12, a13⟩ := h.ex
  exact ⟨dx, fs, L, ds, Te, M, x _ _ a1, a2, x _ _ a3, a4.ext x, a5, x _ _ a6, a7, a8, a9, a10, x _ _ a11, a12, a13⟩
def spStart (C : Addr) : Sp := fun vs H Q _ => ∃ (p : Addr) (rows : List Rw) (ends : List Int) (b : Int), vs = [.ref p] ∧ ReaderAt C H p rows ends b ∧ Q (.int b) H
def spEnds (C : Addr) : Sp := fun vs H Q _ => ∃ (p : Addr) (rows : List Rw) (ends : List Int) (b : Int), vs = [.ref p] ∧ ReaderAt C H p rows ends b ∧ ∀ Te, H Te = some (.tup (ends.map V.int)) → Q (.ref Te) H
def spLenR (C : Addr) : Sp := fun vs H Q _ => ∃ (p : Addr) (rows : List Rw) (ends : List Int) (b : Int), vs = [.ref p] ∧ ReaderAt C H p rows ends b ∧ Q (.int (rows.length : Nat)) H
def spHas (K : PySem.W.Frag) (C : Addr) : Sp := fun vs H Q _ => ∃ (p : Addr) (x : V) (rows : List Rw) (ends : List Int) (b : Int), vs = [.ref p, x] ∧ ReaderAt C H p rows ends b ∧ Val K H x ∧ Q (.bl (below x rows.length)) H
def spPaper (C : Addr) : Sp := fun vs H Q _ => ∃ (p : Addr) (rows : List Rw) (ends : List Int) (b : Int) (ys ts : List Str), vs = [.ref p] ∧ ReaderX C H p rows ends b ys ts ∧ Q (.str (Txt.join "" ys)) H
def spTextsM (C : Addr) : Sp := fun vs H Q _ => ∃ (p : Addr) (rows : List Rw) (ends : List Int) (b : Int) (ys ts : List Str), vs = [.ref p] ∧ ReaderX C H p rows ends b ys ts ∧ Q (.str (Txt.join "" (ts.filter signS))) H
def spMarksM (C : Addr) : Sp := fun vs H Q _ => ∃ (p : Addr) (rows : List Rw) (ends : List Int) (b : Int) (ys ts : List Str), vs = [.ref p] ∧ ReaderX C H p rows ends b ys ts ∧ ∀ l, H l = none → Q (.ref l) (upd H l (.lst ((ts.filter markS).map V.str)))
def spIsRowV (K : PySem.W.Frag) : Sp := fun vs H Q _ => ∃ (k : Bool) (a : Addr) (zs : List Str), vs = [.ref a] ∧ SqK K k H a (zs.map V.str) ∧ zs.length ≤ 100 ∧ (∀ z ∈ zs, z.length ≤ 10000) ∧ ∀ H', Ext H H' → Q (.bl (!k && zs.all nameS)) H'
section
variable {P : Program} {w : World} {K : PySem.W.Frag} {mg : Str → Option Value} {base : Heap}
theorem scStart : FnScope ["self"] ["self"] (defScope sStart) := ⟨rfl, rfl, rfl, by decide +kernel, rfl, by decide +kernel, by decide +kernel⟩
theorem ok_start {f C : Addr} {fd : FuncData} (F : Fun K "start" "Reader.start" sStart f fd) (T : RdC K C) : FnOk P w K mg base CX0 1 f fd ["self"] (spStart C) := by
  refine F.ok scStart (fun vs H Q E h => ?_) (fun cdv A0 outer s H vs Q E hr h => ?_)
  · obtain ⟨p, rows, ends, b, rfl, _⟩ := h
    rfl
  · obtain ⟨p, rows, ends, b, rfl, RA, q⟩ := h
    obtain ⟨dx, fs, L, ds, Te, a1, a2, a3, a4, a5, a6, a7, a8⟩ := RA.ex
    exact ⟨_, pss_one (ps_ret (pe_fld (pv 0) rfl)), _, rfl, p, C, dx, _, _, rfl, a1, T.cl, T.nB, a7, q⟩
theorem scEnds : FnScope ["self"] ["self"] (defScope sEnds) := ⟨rfl, rfl, rfl, by decide +kernel, rfl, by decide +kernel, by decide +kernel⟩
theorem ok_ends {f C : Addr} {fd : FuncData} (F : Fun K "ends" "Reader.ends" sEnds f fd) (T : RdC K C) : FnOk P w K mg base CX0 1 f fd ["self"] (spEnds C) := by
  refine F.ok scEnds (fun vs H Q E h => ?_) (fun cdv A0 outer s H vs Q E hr h => ?_)
  · obtain ⟨p, rows, ends, b, rfl, _⟩ := h
    rfl
  · obtain ⟨p, rows, ends, b, rfl, RA, q⟩ := h
    obtain ⟨dx, fs, L, ds, Te, a1, a2, a3, a4, a5, a6, a7, a8⟩ := RA.ex
    exact ⟨_, pss_one (ps_ret (pe_fld (pv 0) rfl)), _, rfl, p, C, dx, _, _, rfl, a1, T.cl, T.nE, a5, q Te a6⟩
theorem scPaperM : FnScope ["self"] ["self"] (defScope sPaperM) := ⟨rfl, rfl, rfl, by decide +kernel, rfl, by decide +kernel, by decide +kernel⟩
theorem ok_paper {f C : Addr} {fd : FuncData} (F : Fun K "page_signs" "Reader.page_signs" sPaperM f fd) (T : RdC K C) : FnOk P w K mg base CX0 1 f fd ["self"] (spPaper C) := by
  refine F.ok scPaperM (fun vs H Q E h => ?_) (fun cdv A0 outer s H vs Q E hr h => ?_)
  · obtain ⟨p, rows, ends, b, ys, ts, rfl, _⟩ := h
    rfl
  · obtain ⟨p, rows, ends, b, ys, ts, rfl, RX, q⟩ := h
    obtain ⟨dx, fs, L, ds, Te, M, a1, a2, a3, a4, a5, a6, a7, a8, _⟩ := RX.ex
    exact ⟨_, pss_one (ps_ret (pe_fld (pv 0) rfl)), _, rfl, p, C, dx, _, _, rfl, a1, T.cl, T.nP, a8, q⟩
theorem scTextsM : FnScope ["self"] ["self"] (defScope sTextsM) := ⟨rfl, rfl, rfl, by decide +kernel, rfl, by decide +kernel, by decide +kernel⟩
theorem ok_textsM {f C : Addr} {fd : FuncData} (F : Fun K "text_signs" "Reader.text_signs" sTextsM f fd) (T : RdC K C) : FnOk P w K mg base CX0 1 f fd ["self"] (spTextsM C) := by
  refine F.ok scTextsM (fun vs H Q E h => ?_) (fun cdv A0 outer s H vs Q E hr h => ?_)
  · obtain ⟨p, rows, ends, b, ys, ts, rfl, _⟩ := h
    rfl
  · obtain ⟨p, rows, ends, b, ys, ts, rfl, RX, q⟩ := h
    obtain ⟨dx, fs, L, ds, Te, M, a1, a2, a3, a4, a5, a6, a7, a8, a9, _⟩ := RX.ex
    exact ⟨_, pss_one (ps_ret (pe_fld (pv 0) rfl)), _, rfl, p, C, dx, _, _, rfl, a1, T.cl, T.nT, a9, q⟩
theorem scMarksM : FnScope ["self"] ["self"] (defScope sMarksM) := ⟨rfl, rfl, rfl, by decide +kernel, rfl, by decide +kernel, by decide +kernel⟩
theorem ok_marksM {f C : Addr} {fd : FuncData} (F : Fun K "marks" "Reader.marks" sMarksM f fd) (T : RdC K C) (zl : mg "list" = none) : FnOk P w K mg base CX0 1 f fd ["self"] (spMarksM C) := by
  refine F.ok scMarksM (fun vs H Q E h => ?_) (fun cdv A0 outer s H vs Q E hr h => ?_)
  · obtain ⟨p, rows, ends, b, ys, ts, rfl, _⟩ := h
    rfl
  · obtain ⟨p, rows, ends, b, ys, ts, rfl, RX, q⟩ := h
    obtain ⟨dx, fs, L, ds, Te, M, a1, a2, a3, a4, a5, a6, a7, a8, a9, a10, a11, _⟩ := RX.ex
    exact ⟨_, pss_one (ps_ret (pe_callTy call_list_of (by rfl) zl (by decide +kernel) (pa_cons (pe_fld (pv 0) rfl) pa_nil))), _, rfl, p, C, dx, _, _, rfl, a1, T.cl, T.nM, a10, M, _, rfl, .inl (SqL.of a11), q⟩
theorem scLenR : FnScope ["self"] ["self"] (defScope sLenR) := ⟨rfl, rfl, rfl, by decide +kernel, rfl, by decide +kernel, by decide +kernel⟩
theorem ok_lenR {f C : Addr} {fd : FuncData} (F : Fun K "__len__" "Reader.__len__" sLenR f fd) (T : RdC K C) (zn : mg "len" = none) : FnOk P w K mg base CX0 1 f fd ["self"] (spLenR C) := by
  refine F.ok scLenR (fun vs H Q E h => ?_) (fun cdv A0 outer s H vs Q E hr h => ?_)
  · obtain ⟨p, rows, ends, b, rfl, _⟩ := h
    rfl
  · obtain ⟨p, rows, ends, b, rfl, RA, k⟩ := h
    obtain ⟨dx, fs, L, ds, Te, hp, hst, hL, hrw, _⟩ := RA.ex
    refine ⟨_, pss_one (ps_ret (pe_callB call_len_seq (by rfl) zn PySem.boot_len (pa_cons (pe_fld (pv 0) rfl) pa_nil))), ?_⟩
    refine ⟨_, rfl, p, C, dx, _, _, rfl, hp, T.cl, T.nS, hst, L, _, rfl, .inl (SqL.of hL), ?_⟩
    rw [List.length_map, hrw.len]
    exact k
theorem scHasM : FnScope ["self", "value"] ["self", "value"] (defScope sHasM) := ⟨rfl, rfl, rfl, by decide +kernel, rfl, by decide +kernel, by decide +kernel⟩
theorem ok_hasM {f C fB : Addr} {fd fdB : FuncData} (F : Fun K "__contains__" "Reader.__contains__" sHasM f fd) (T : RdC K C) (aB : At K mg "is_below" fB fdB ["value", "limit"] []) (gB : FnOk P w K mg base CX0 2 fB fdB ["value", "limit"] (spBelow K)) (zn : mg "len" = none) :
    FnOk P w K mg base CX0 3 f fd ["self", "value"] (spHas K C) := by
  refine F.ok scHasM (fun vs H Q E h => ?_) (fun cdv A0 outer s H vs Q E hr h => ?_)
  · obtain ⟨p, x, rows, ends, b, rfl, _⟩ := h
    rfl
  · obtain ⟨p, x, rows, ends, b, rfl, RA, hv, k⟩ := h
    obtain ⟨dx, fs, L, ds, Te, hp, hst, hL, hrw, _⟩ := RA.ex
    refine ⟨_, pss_one (ps_ret (pe_call gB hr (by rfl) aB.g aB.kp aB.b .nil pass0 (pa_cons (pv 1) (pa_cons (pe_callB call_len_seq (by rfl) zn PySem.boot_len (pa_cons (pe_fld (pv 0) rfl) pa_nil)) pa_nil)))), ?_⟩
    refine ⟨_, rfl, _, rfl, p, C, dx, _, _, rfl, hp, T.cl, T.nS, hst, L, _, rfl, .inl (SqL.of hL), x, _, rfl, hv, ?_⟩
    rw [List.length_map, hrw.len]
    exact k
theorem scIsRowV : FnScope ["value", "told"] ["value"] (defScope sIsRowV) := ⟨rfl, rfl, rfl, by decide +kernel, rfl, by decide +kernel, by decide +kernel⟩
theorem ok_isrowV {f fN : Addr} {fd fdN : FuncData} (F : Fun K "is_row" "is_row" sIsRowV f fd) (aN : At K mg "is_name" fN fdN ["value"] []) (gN : FnOk P w K mg base CX0 2 fN fdN ["value"] (spText nameS))
    (zz : mg "isinstance" = none) (zt : mg "tuple" = none) (za : mg "all" = none) : FnOk P w K mg base CX0 3 f fd ["value"] (spIsRowV K) := by
  refine F.ok scIsRowV (fun vs H Q E h => ?_) (fun cdv A0 outer s H vs Q E hr h => ?_)
  · obtain ⟨k, a, zs, rfl, _⟩ := h
    rfl
  · obtain ⟨k, a, zs, rfl, ha, hl, hz, q⟩ := h
    refine ⟨_, pss_one (ps_ret (pe_and (pe_callB call_isi (by rfl) zz (by decide +kernel) (pa_cons (pv 0) (pa_cons (pe_bltn (by rfl) zt (by decide +kernel) (rel_ty "tuple")) pa_nil)))
      (pe_one (pe_callB (cr_all rfl) (by rfl) za (by decide +kernel) (pa_cons (pe_lc (own := [("told", 1)]) (g := gName 1) (tt := tYes) rfl scIsRowV.nd (pi_seq (pv 0)) (blkOk_by (N := ["value", "told"]) (sc := defScope sIsRowV) (by decide +kernel))
          (fun _ _ _ _ _ => pg_name (i := 1) scIsRowV.nd rfl (Or.inl rfl)) (fun _ _ _ _ _ => pts_nil) (fun _ _ _ _ _ => pe_call gN (hr.mono (by decide)) (by rfl) aN.g aN.kp aN.b .nil pass0 (pa_cons (pv 1) pa_nil))) pa_nil))))), ?_⟩
    cases k with
    | true =>
      refine ⟨_, rfl, _, _, _, _, false, rfl, .ty _, ha.kind, kit_ty (by decide +kernel), false, rfl, ?_⟩
      rw [if_neg Bool.false_ne_true]
      exact q H fun _ _ e => e
    | false =>
      refine ⟨_, rfl, _, _, _, _, true, rfl, .ty _, ha.kind, kit_ty (by decide +kernel), true, rfl, ?_⟩
      rw [if_pos rfl]
      refine ⟨_, rfl, false, a, rfl, ⟨_, ha⟩, fun D hD => ?_⟩
      refine lc_it (walk_seq (xs := zs.map V.str)) (fun i H' => Ext H H' ∧ H' D = some (.lst (((zs.take i).map nameS).map V.bl))) ⟨Ext.new hD, upd_same⟩ (fun i H' _ h => ha.ext h.1) ?_ ?_
      · rintro i x H2 H' hi ⟨h1, h2⟩ ⟨rfl, hx⟩
        obtain ⟨z, hz', rfl⟩ := at_map hx
        have hil : i < zs.length := (List.getElem?_eq_some_iff.mp hz').1
        have zl := hz z (List.mem_of_getElem? hz')
        refine ⟨rfl, _, rfl, z, rfl, zl, fun H3 x3 => ?_⟩
        refine ⟨_, x3 _ _ h2, by rw [List.length_map, List.length_map, List.length_take]; exact small1000 (by omega), fun b o e => ?_, ?_⟩
        · rw [upd_ne (ne_of_none e hD)]
          exact x3 _ _ (h1 b o e)
        · have e : zs.take (i + 1) = zs.take i ++ [z] := by
            rw [List.take_add_one, hz']
            rfl
          rw [upd_same, e, List.map_append, List.map_append]
          rfl
      · rintro H' ⟨h1, h2⟩
        rw [List.length_map, List.take_length] at h2
        refine ⟨D, zs.map nameS, rfl, SqL.of h2, ?_⟩
        have q' := q _ h1
        have e : (zs.map nameS).all id = zs.all nameS := by
          rw [List.all_map]
          rfl
        rw [e]
        exact q'
end
end Sl
/-! ## C2 -/
set_option Elab.async false
set_option linter.all false
set_option maxRecDepth 100000
set_option maxHeartbeats 4000000
/-! a for loop in a generator -/
namespace PySem
open Sem (wp)
section
variable {prog : Program} {w : World} {A : Around} {R : GenEnd} {Y : Protocol} {n : Nat} {s₀ : Shared} {fs : List Frame} {s : Shared} {env : Env}
/-- an exception in the loop's code -/
abbrev SegOut (prog : Program) (w : World) (A : Around) (R : GenEnd) (Y : Protocol) (n : Nat) (s₀ : Shared) (c : Code) (fs : List Frame) (env : Env) : Value → Shared → Prop := fun x s' =>
  Seg (model prog w) A R Y n s₀ c ((do noteFrame x env; theTreesLotGoes x : Sem Unit).wrap (fun _ => .raise x) .raise id id) fs s'
/-- a turn -/
theorem seg_forLoopG {tg : Expr} {it : Value} {body : List Stmt}
    (h : wpAny (model prog w) (A.over (.forLoop tg it body [] env) fs) (pyNext it) (fun r s1 => match r with
      | none => Seg (model prog w) A R Y n s₀ (.block [] env) (.pure (.done .next)) fs s1
      | some v => wpAny (model prog w) (A.over (.forLoop tg it body [] env) fs) (letOwnedTupleGo tg it v) (fun _ s2 => wpAny (model prog w) (A.over (.forLoop tg it body [] env) fs) (assign tg env v) (fun _ s3 =>
          Seg (model prog w) A R Y n s₀ (.forLoop tg it body [] env) ((execs body env).wrap (fun f => match f with
            | .next | .cont => .pure (.again (.forLoop tg it body [] env))
            | .brk => .pure (.done .next)
            | .ret v => .pure (.done (.ret v))) (fun e => (do noteFrame e env; theTreesLotGoes e : Sem Unit).wrap (fun _ => .raise e) .raise id id) id id) fs s3)
          (SegOut prog w A R Y n s₀ (.forLoop tg it body [] env) fs env) s2) (SegOut prog w A R Y n s₀ (.forLoop tg it body [] env) fs env) s1)
      (SegOut prog w A R Y n s₀ (.forLoop tg it body [] env) fs env) s) :
    Seg (model prog w) A R Y n s₀ (.forLoop tg it body [] env) ((model prog w).den (.forLoop tg it body [] env)) fs s := by
  have out : ∀ {x s'}, SegOut prog w A R Y n s₀ (.forLoop tg it body [] env) fs env x s' → Seg (model prog w) A R Y n s₀ (.forLoop tg it body [] env) ((do noteFrame x env; theTreesLotGoes x : Sem Unit).bind fun _ => .raise x) fs s' := fun {x s'} hx => by
    rw [Sem.bind_eq_wrap]
    exact hx
  show Seg _ A R Y n s₀ _ ((forTurn tg it body [] env).onRaise (fun x => do noteFrame x env; theTreesLotGoes x)) fs s
  unfold forTurn
  rw [Sem.onRaise_eq_wrap]
  refine seg_bind_wrap (wpAny_standAt ?_)
  refine seg_bind_wrap (wpAny_onRaise (wpAny_mono h (fun r s1 h1 => ?_) fun x s' hx => wpAny_standAt (out hx)))
  cases r with
  | none => exact seg_again rfl h1
  | some v =>
    refine seg_bind_wrap (wpAny_mono h1 (fun _ s2 h2 => ?_) fun x s' hx => out hx)
    refine seg_bind_wrap (wpAny_mono h2 (fun _ s3 h3 => ?_) fun x s' hx => out hx)
    rw [Sem.bind_eq_wrap', Sem.wrap_wrap]
    rw [Sem.wrap_congr (execs body env) _ _ (K' := fun f => match f with
            | .next | .cont => .pure (.again (.forLoop tg it body [] env))
            | .brk => .pure (.done .next)
            | .ret v => .pure (.done (.ret v))) (H' := (fun e => (do noteFrame e env; theTreesLotGoes e : Sem Unit).wrap (fun _ => .raise e) .raise id id))
        (fun f => by cases f <;> rfl)
        (fun e => by first | exact Sem.bind_eq_wrap _ _ | (show (do noteFrame e env; theTreesLotGoes e : Sem Unit).bind (fun _ => .raise e) = _; rw [Sem.bind_eq_wrap]))]
    exact h3
end
end PySem
namespace L2
open PySem PySem.Spec PyProof.Rows GenW
def tGFor (wi : TI) (g : TG) (tb : TGn) : TGn := fun D ys σ H => wi σ H fun J H1 => ∃ W : Nat → Nat → List V → St → Hp → Prop, (∃ m, W 0 m ys σ H1) ∧ ∀ i m ys σ H, W i m ys σ H →
  (J.stop i H ∧ D.nx ys σ H) ∨ (J.go i H ∧ ∃ N : List V → St → Hp → Prop, (∀ ys' σ' H', N ys' σ' H' → ∃ m', m' < m ∧ W (i + 1) m' ys' σ' H') ∧ ∀ x H', J.yld i H x H' → g x σ H' fun σ2 H2 => tb { D with nx := N, ct := N, bk := D.nx } ys σ2 H2)
section
variable {X : Cx} {tg : Expr}
theorem GI.less {S : Addr} {ip pl : List (Addr × Obj)} {ys : List V} {σ : St} {H : Hp} {s : Shared} (h : GI X S (ip ++ pl) ys σ H s) : GI X S ip ys σ H s := by
  obtain ⟨acc, cc, r, I⟩ := h
  refine ⟨acc, cc, r, I.pins_of fun p hp => I.pin p (List.mem_append_right _ ?_)⟩
  rcases List.mem_cons.mp hp with z | z
  · rw [z]
    exact List.mem_cons_self
  · exact List.mem_cons_of_mem _ (List.mem_append_left _ z)
theorem gs_for {iter : Expr} {body : List Stmt} {wi : TI} {g : TG} {tb : TGn} {pos : Pos} (hp : PassesOwn (model X.prog X.w) X.A X.env X.xe) (hc : X.calm = true) (hi : PI X tg iter wi) (hg : PG X tg g) (hb : GSs X body tb)
    (hs : ∀ x, foldedSetIterable iter X.env x = pure x := by intro _; rfl) : GS X (.For tg iter body [] pos) (tGFor wi g tb) := by
  refine ⟨fun A S ip R n ys s₀ c fs K J gd lv s σ H D g0 hn k hI ht => ?_⟩
  obtain ⟨acc, cc, r, I⟩ := hI
  rw [exec_For]
  refine seg_bind_wrap (wpAny_standAt ?_)
  refine seg_bind_wrap ?_
  rw [g0.over]
  refine wpAny_mono (hi.run _ s σ H _ I ht) (fun v s1 h1 => ?_) fun x s' hx => k.exc n s₀ x s' hx
  refine seg_bind_wrap (wpAny_of_eq (hs v) ?_)
  refine seg_bind_wrap (wpAny_standAt ?_)
  refine seg_bind_wrap (wpAny_holding ?_)
  rw [g0.over]
  refine wpAny_mono h1 (fun itv s2 h2 => ?_) fun x s' hx => k.exc n s₀ x s' hx
  obtain ⟨it, fp, tn, Jt, H2, e, I2, T, st2, f2, W, ⟨m0, w0⟩, turn⟩ := h2
  subst e
  have f3 : ∀ b ∈ fp, b ≠ S := fun b hb z => (f2 b hb).2.2.2.2.2 (S, lstObj acc cc) (List.mem_append_right _ List.mem_cons_self) z.symm
  have stat : ∀ {H' : Hp} {acc' : Array Value} {c' : Nat}, (∀ b ∈ fp, H' b = none) → ∀ b ∈ fp, FpOk X ((S, lstObj acc' c') :: ip) H' b := fun {H' acc' c'} hn b hb => by
    obtain ⟨_, a1, a2, a3, a4, a5⟩ := f2 b hb
    refine ⟨hn b hb, a1, a2, a3, a4, fun p hp => ?_⟩
    rcases List.mem_append.mp hp with z | z
    · exact a5 p (List.mem_append_left _ z)
    rcases List.mem_cons.mp z with z | z
    · rw [z]
      exact (f3 b hb).symm
    · exact a5 p (List.mem_append_right _ (List.mem_cons_of_mem _ z))
  refine seg_call fun p => ?_
  have gl := fun (kk : Result → Sem PySem.Fin) => gc_loop (k := kk) (c' := .forLoop tg (.ref it) body [] X.env) (l := lv []) (kp := []) (p := p) g0 rfl rfl
  have loop : ∀ (m n : Nat) (ys : List V) (s₀ s : Shared) (i : Nat) (σ : St) (H : Hp), n + ys.length = sizeLine → W i m ys σ H → GI X S ip ys σ H s → tn i s.heap → (∀ b ∈ fp, H b = none) →
      Seg (model X.prog X.w) A R (GY X S) n s₀ (.forLoop tg (.ref it) body [] X.env) ((model X.prog X.w).den (.forLoop tg (.ref it) body [] X.env))
        (.ret (fun r => ((match r with | .ok f => (.pure f : Sem Flow) | .error e => .raise e).onRaise (cameBack X.env)).wrap K J gd lv) none (gd false) (lv []) c p [] :: fs) s := by
    intro m
    induction m using Nat.strongRecOn with
    | ind m ih =>
      intro n ys s₀ s i σ H hn w hI st fr
      have ee : ∀ (n : Nat) (s₀ : Shared) (x : Value) (s' : Shared), X.xe x s' → Seg (model X.prog X.w) A R (GY X S) n s₀ (.forLoop tg (.ref it) body [] X.env)
          ((do noteFrame x X.env; theTreesLotGoes x : Sem Unit).wrap (fun _ => .raise x) .raise id id)
          (.ret (fun r => ((match r with | .ok f => (.pure f : Sem Flow) | .error e => .raise e).onRaise (cameBack X.env)).wrap K J gd lv) none (gd false) (lv []) c p [] :: fs) s' := fun n s₀ x s' hx => by
        refine seg_wrap ?_
        rw [(gl _).over]
        refine wpAny_bind (wpAny_mono (hp x s' hx) (fun _ s'' hcb => wpAny_theTreesLotGoes ?_) fun y s'' hcb => ?_)
        · exact seg_leaf (.error x) (seg_cameBack g0 k hcb)
        · exact seg_leaf (.error y) (seg_cameBack g0 k hcb)
      refine seg_forLoopG ?_
      simp only [(gl _).over]
      obtain ⟨acc, cc, r, I⟩ := hI
      rcases turn i m ys σ H w with ⟨stop, qn⟩ | ⟨go, N, hN, step⟩
      · refine wpAny_mono (T.done X rfl rfl rfl hc i _ s σ H X.xe I (stat fr) st stop) (fun r1 s4 ⟨hr, I4⟩ => ?_) fun x s' hx => ee n s₀ x s' hx
        subst hr
        exact seg_leaf (.ok .next) (k.ok n ys s₀ s4 .next hn ⟨σ, H, ⟨acc, cc, r, I4⟩, qn⟩)
      · refine wpAny_mono (T.item X rfl rfl rfl hc i _ s σ H X.xe I (stat fr) st go) (fun r1 s4 ⟨u, hr, h4⟩ => ?_) fun x s' hx => ee n s₀ x s' hx
        subst hr
        refine wpAny_mono h4 (fun _ s5 ⟨x, H5, I5, r5, y5, st5, fr5⟩ => ?_) fun x s' hx => ee n s₀ x s' hx
        have I5' := I5.pinned (stat fr5) (T.obj _ _ st5)
        refine wpAny_mono (hg.run _ s5 σ H5 x u _ I5' r5 (step x H5 y5)) (fun _ s6 ⟨σ6, H6, I6, q6⟩ => ?_) fun x s' hx => ee n s₀ x s' hx
        have gg : GC X S (ip ++ pinsAt fp s5.heap) A (.forLoop tg (.ref it) body [] X.env) (.ret (fun r => ((match r with | .ok f => (.pure f : Sem Flow) | .error e => .raise e).onRaise (cameBack X.env)).wrap K J gd lv) none (gd false) (lv []) c p [] :: fs) id :=
          { gl _ with ip := fun q hq => (List.mem_append.mp hq).elim (fun z => g0.ip q z) fun z => f3 q.1 (of_pinsAt z).1 }
        have again : ∀ {σ7 : St} {H7 : Hp} {ys7 : List V} {s7 : Shared}, GI X S (ip ++ pinsAt fp s5.heap) ys7 σ7 H7 s7 → tn (i + 1) s7.heap ∧ ∀ b ∈ fp, H7 b = none := fun {σ7 H7 ys7 s7} h7 => by
          obtain ⟨acc7, c7, r7, I7⟩ := h7
          have pin : ∀ b ∈ fp, ∀ o, s5.heap.get? b = some o → s7.heap.get? b = some o ∧ H7 b = none := fun b hb o e => by
            have z := I7.pin (b, o) (List.mem_append_right _ (List.mem_cons_of_mem _ (List.mem_append_right _ (mem_pinsAt hb e))))
            exact ⟨z.1, z.2.1⟩
          refine ⟨T.keep _ _ _ st5 fun b hb o e => (pin b hb o e).1, fun b hb => ?_⟩
          obtain ⟨o, e, d⟩ := T.obj _ _ st5 b hb
          exact (pin b hb o e).2
        refine hb.run A S (ip ++ pinsAt fp s5.heap) R n ys s₀ _ _ _ _ id id s6 σ6 H6 { D with nx := N, ct := N, bk := D.nx } gg hn ⟨fun n' ys' s₀' s3 f hn' hs => ?_, fun n' s₀' x s3 hx => ee n' s₀' x s3 hx⟩ ⟨acc, cc, r, I6⟩ q6
        cases f with
        | next =>
          obtain ⟨σ3, H3, I3, n3⟩ := hs
          obtain ⟨m', hm, w3⟩ := hN ys' σ3 H3 n3
          exact seg_again rfl (ih m' hm n' ys' s₀' s3 (i + 1) σ3 H3 hn' w3 I3.less (again I3).1 (again I3).2)
        | cont =>
          obtain ⟨σ3, H3, I3, n3⟩ := hs
          obtain ⟨m', hm, w3⟩ := hN ys' σ3 H3 n3
          exact seg_again rfl (ih m' hm n' ys' s₀' s3 (i + 1) σ3 H3 hn' w3 I3.less (again I3).1 (again I3).2)
        | brk =>
          obtain ⟨σ3, H3, I3, n3⟩ := hs
          exact seg_leaf (.ok .next) (k.ok n' ys' s₀' s3 .next hn' ⟨σ3, H3, I3.less, n3⟩)
        | ret v =>
          obtain ⟨x3, σ3, H3, I3, r3, n3⟩ := hs
          exact seg_leaf (.ok (.ret v)) (k.ok n' ys' s₀' s3 (.ret v) hn' ⟨x3, σ3, H3, I3.less, r3, n3⟩)
  exact loop m0 n ys s₀ s2 0 σ H2 hn w0 ⟨acc, cc, r, I2⟩ st2 fun b hb => (f2 b hb).1
end
end L2
/-! ## C3 -/
set_option Elab.async false
set_option linter.all false
set_option maxRecDepth 100000
set_option maxHeartbeats 4000000
/-! a statement of a generator while a thing is locked; the reader's moves, handed out -/
namespace Sl
open PySem PySem.Spec PyProof.Rows L2
def tLockG (t : TGn) : TGn := fun D ys σ H => ∃ d u, H d = some u ∧ Mut (some u) ∧ ∀ od,
  t { nx := fun ys σ' H' => H' d = some (.frz od u) ∧ D.nx ys σ' (upd H' d u), rt := fun ys v H' => H' d = some (.frz od u) ∧ D.rt ys v (upd H' d u), bk := fun ys σ' H' => H' d = some (.frz od u) ∧ D.bk ys σ' (upd H' d u), ct := fun ys σ' H' => H' d = some (.frz od u) ∧ D.ct ys σ' (upd H' d u) } ys σ (upd H d (.frz od u))
theorem gs_lock {X : Cx} {st : Stmt} {t : TGn} (h : GS X st t) : GS X st (tLockG t) := by
  refine ⟨fun A S ip R n ys s₀ c fs K J gd lv s σ H D g0 hn k hI ht => ?_⟩
  obtain ⟨acc, cc, r, I⟩ := hI
  obtain ⟨d, u, hd, mu, hw⟩ := ht
  obtain ⟨od, I1⟩ := I.lock hd mu
  have nf := I.nofrz hd mu
  refine h.run A S ip R n ys s₀ c fs K J gd lv s σ _ _ g0 hn ⟨fun n' ys' s₁ s' f hn' q => k.ok n' ys' s₁ s' f hn' ?_, k.exc⟩ ⟨acc, cc, r, I1⟩ (hw od)
  cases f with
  | next => obtain ⟨σ', H', ⟨a', c', r', I2⟩, e, q⟩ := q; exact ⟨σ', _, ⟨a', c', r', I2.unlock e nf⟩, q⟩
  | brk => obtain ⟨σ', H', ⟨a', c', r', I2⟩, e, q⟩ := q; exact ⟨σ', _, ⟨a', c', r', I2.unlock e nf⟩, q⟩
  | cont => obtain ⟨σ', H', ⟨a', c', r', I2⟩, e, q⟩ := q; exact ⟨σ', _, ⟨a', c', r', I2.unlock e nf⟩, q⟩
  | ret v => obtain ⟨x, σ', H', ⟨a', c', r', I2⟩, rv, e, q⟩ := q; exact ⟨x, σ', _, ⟨a', c', r', I2.unlock e nf⟩, rv, q⟩
theorem gfor_it {J : It} {n : Nat} {G : Hp → Prop} {Y : Nat → Hp → V → Hp → Prop} (w : Walk J n G Y) {g : TG} {tb : TGn} {D : GEnds} {ys : List V} {σ : L2.St} {H : Hp} (Pv : Nat → List V → L2.St → Hp → Prop) (h0 : Pv 0 ys σ H) (hG : ∀ i ys σ H, i ≤ n → Pv i ys σ H → G H)
    (hs : ∀ i x ys σ H H', i < n → Pv i ys σ H → Y i H x H' → g x σ H' fun σ2 H2 => tb { D with nx := Pv (i + 1), ct := Pv (i + 1), bk := D.nx } ys σ2 H2) (hd : ∀ ys σ H, Pv n ys σ H → D.nx ys σ H) :
    ∃ W : Nat → Nat → List V → L2.St → Hp → Prop, (∃ m, W 0 m ys σ H) ∧ ∀ i m ys σ H, W i m ys σ H →
      (J.stop i H ∧ D.nx ys σ H) ∨ (J.go i H ∧ ∃ N : List V → L2.St → Hp → Prop, (∀ ys' σ' H', N ys' σ' H' → ∃ m', m' < m ∧ W (i + 1) m' ys' σ' H') ∧ ∀ x H', J.yld i H x H' → g x σ H' fun σ2 H2 => tb { D with nx := N, ct := N, bk := D.nx } ys σ2 H2) := by
  refine ⟨fun i m ys σ H => m = n - i ∧ i ≤ n ∧ Pv i ys σ H, ⟨n, by simp, Nat.zero_le _, h0⟩, ?_⟩
  rintro i m ys σ H ⟨rfl, hi, p⟩
  have q := hG i ys σ H hi p
  by_cases hlt : i < n
  · exact .inr ⟨w.goes i H hlt q, Pv (i + 1), fun ys' σ' H' p' => ⟨n - (i + 1), by omega, rfl, hlt, p'⟩, fun x H' y => hs i x ys σ H H' hlt p (w.yields i H x H' hlt q y)⟩
  · have e : i = n := by omega
    subst e
    exact .inl ⟨w.stops H q, hd ys σ H p⟩
abbrev sMoves : Stmt := inClass (top 23) 8
/-- the moves of a state, each told with its sign -/
inductive TripsAt (H : Hp) : List Addr → Rw → Prop
  | nil : TripsAt H [] []
  | cons {t : Addr} {z : Str} {m : Mv} {ts : List Addr} {r : Rw} : H t = some (.tup [.str z, .int m.1, toldV m.2]) → TripsAt H ts r → TripsAt H (t :: ts) ((z, m) :: r)
theorem TripsAt.ext {H H' : Hp} (x : ∀ t xs, H t = some (.tup xs) → H' t = some (.tup xs)) : ∀ {ts : List Addr} {r : Rw}, TripsAt H ts r → TripsAt H' ts r
  | _, _, .nil => .nil
  | _, _, .cons a h => .cons (x _ _ a) (h.ext x)
theorem TripsAt.snoc {H : Hp} {t : Addr} {z : Str} {m : Mv} (a : H t = some (.tup [.str z, .int m.1, toldV m.2])) : ∀ {ts : List Addr} {r : Rw}, TripsAt H ts r → TripsAt H (ts ++ [t]) (r ++ [(z, m)])
  | _, _, .nil => .cons a .nil
  | _, _, .cons b h => .cons b (h.snoc a)
theorem TripsAt.len {H : Hp} : ∀ {ts : List Addr} {r : Rw}, TripsAt H ts r → ts.length = r.length
  | _, _, .nil => rfl
  | _, _, .cons _ h => congrArg (· + 1) h.len
def spMoves (C : Addr) : SpG := fun vs H Q _ => ∃ (p : Addr) (q : Nat) (rows : List Rw) (ends : List Int) (b : Int), vs = [.ref p, .int q] ∧ ReaderAt C H p rows ends b ∧ okRows rows.length rows ∧ q < rows.length ∧ (∀ r ∈ rows, r.length < 64) ∧
  ∀ H' ts, Ext H H' → TripsAt H' ts (rows.getD q []) → Q (ts.map V.ref) H'
section
variable {P : Program} {w : World} {K : PySem.W.Frag} {mg : Str → Option Value} {base : Heap}
theorem Fun.okGen {x qual : Str} {st : Stmt} {f : Addr} {fd : FuncData} {N ps : List Str} {k : Nat} {sp : SpG} (F : Fun K x qual st f fd) (S : GScope N ps (defScope st)) (len : ∀ vs H Q E, sp vs H Q E → vs.length = ps.length)
    (hbody : ∀ (cdv : Value) (A : Around) (outer : List Env) (s : Shared) (H : Hp) (vs : List V) (Q : List V → Hp → Prop) (E : XK) (pn : List (Addr × Obj)), Room k (A.deeper (envOfC qual (defScope st) s.heap.objs.size f cdv)) → sp vs H Q E →
      ∃ t, GSs (gcxOf P w K mg base N qual (defScope st) f cdv A outer s H E pn) (defBody st) t ∧ t { nx := fun ys _ H' => Q ys H', rt := fun ys v H' => v = .non ∧ Q ys H' } [] (start N vs) H) :
    GFn P w K mg base (k + 1) f fd ps sp := by
  obtain ⟨oc, od, kV, doc, pm, an, cdv, ct, osl, rfl, lk, hcd⟩ := F.ex
  exact gfn_of lk hcd S len fun A outer s H vs Q E pn hr h => hbody cdv A outer s H vs Q E pn hr h
theorem scMoves : GScope ["self", "state", "sign", "after", "told"] ["self", "state"] (defScope sMoves) := ⟨rfl, rfl, rfl, by decide +kernel, rfl, by decide +kernel, by decide +kernel⟩
theorem ok_moves {f C fS : Addr} {fd fdS : FuncData} (F : Fun K "moves" "Reader.moves" sMoves f fd) (T : RdC K C) (aS : At K mg "check_state" fS fdS ["value", "many"] []) (gS : FnOk P w K mg base CX0 3 fS fdS ["value", "many"] spCheckState) (zn : mg "len" = none) :
    GFn P w K mg base 4 f fd ["self", "state"] (spMoves C) := by
  refine Sl.Fun.okGen F scMoves (fun vs H Q E h => ?_) (fun cdv A0 outer s H vs Q E pn hr h => ?_)
  · obtain ⟨p, q, rows, ends, b, rfl, _⟩ := h
    rfl
  · obtain ⟨p, q, rows, ends, b, rfl, RA, ok, hq, h64, k⟩ := h
    obtain ⟨dx, fs, L, ds, Te, hp, hst, hL, hrw, _⟩ := RA.ex
    have lr : (ds.map V.ref).length = rows.length := by rw [List.length_map, hrw.len]
    refine ⟨_, gss_cons (gs_ps (ps_expr (pe_call gS hr (by rfl) aS.g aS.kp aS.b .nil pass0 (pa_cons (pv 1) (pa_cons (pe_callB call_len_seq (by rfl) zn PySem.boot_len (pa_cons (pe_fld (pv 0) rfl) pa_nil)) pa_nil)))))
      (gss_cons (gs_lock (gs_for owns_gcx rfl (pi_items (pe_ix ix_list (pe_fld (pv 0) rfl) (pv 1) (fun _ _ => rfl))) (pg_tup rfl (pgs_cons (pg_name (i := 2) scMoves.nd rfl (.inl rfl)) (pgs_cons (pg_tup rfl (pgs_cons (pg_name (i := 3) scMoves.nd rfl (.inl rfl)) (pgs_cons (pg_name (i := 4) scMoves.nd rfl (.inl rfl)) pgs_nil))) pgs_nil)))
        (gss_cons (gs_yield (pe_tup (pa_cons (pv 2) (pa_cons (pv 3) (pa_cons (pv 4) pa_nil))))) gss_nil))) gss_nil), ?_⟩
    have hqd : q < ds.length := by rw [hrw.len]; exact hq
    obtain ⟨r, hr1, es, hd, he⟩ := hrw.at_ (i := q) (d := ds[q]) (List.getElem?_eq_getElem hqd)
    have hat : atI (ds.map V.ref) (q : Int) = some (.ref ds[q]) := atI_nat (by rw [List.getElem?_map, List.getElem?_eq_getElem hqd]; rfl)
    have e0 : rows.getD q [] = r := by rw [List.getD_eq_getElem?_getD, hr1]; rfl
    rw [e0] at k
    refine ⟨_, rfl, _, rfl, p, C, dx, _, _, rfl, hp, T.cl, T.nS, hst, L, _, rfl, .inl (SqL.of hL), q, _, rfl, by omega, by rw [lr]; omega, ?_⟩
    refine ⟨ds[q], _, hd, trivial, fun od => ?_⟩
    have nq : ∀ {a : Addr} {o : HO}, H a = some o → (∀ kvs, o ≠ .dK kvs) → a ≠ ds[q] := fun {a o} e no z => by
      rw [z, hd] at e
      cases e
      exact no _ rfl
    have hp1 := fun u => (upd_ne (o := u) (nq hp fun _ z => by cases z)).trans hp
    have hL1 := fun u => (upd_ne (o := u) (nq hL fun _ z => by cases z)).trans hL
    refine ⟨_, rfl, p, C, dx, _, _, rfl, hp1 _, T.cl, T.nS, hst, _, rfl, L, _, _, _, rfl, rfl, SqL.of (hL1 _), hat, ds[q], od, _, rfl, upd_same, ?_⟩
    refine gfor_it walk_items (fun i ys σ H' => ∃ v2 v3 v4 ts, σ = [some (.ref p), some (.int q), v2, v3, v4] ∧ Ext (upd H ds[q] (.frz od (.dK (kvsOf es)))) H' ∧ TripsAt H' ts (r.take i) ∧ ys = ts.map V.ref) ⟨none, none, none, [], rfl, fun _ _ e => e, .nil, rfl⟩ (fun i ys σ H' _ h => ?_) ?_ ?_
    · obtain ⟨_, _, _, _, _, x1, _⟩ := h
      exact x1 _ _ upd_same
    · rintro i x ys σ H3 H4 hi ⟨v2, v3, v4, ts, rfl, x1, t1, rfl⟩ ⟨T1, x', y', rfl, nT, rfl, q1, q2⟩
      obtain ⟨e, he1, rfl, rfl⟩ := kvs_at q1 q2
      obtain ⟨m, hm, mt⟩ := he.at_ he1
      have x2 := x1.trans (Ext.new nT (o := .tup [V.str e.1, V.ref e.2]))
      have mt2 := x2 _ _ ((upd_ne (o := .frz od (.dK (kvsOf es))) (nq mt fun _ z => by cases z)).trans mt)
      refine ⟨T1, _, rfl, SqT.of upd_same, rfl, _, _, rfl, _, _, rfl, ⟨e.2, _, rfl, SqT.of mt2, rfl, _, _, rfl, _, _, rfl, rfl, rfl, ?_⟩⟩
      have hir : i < r.length := (List.getElem?_eq_some_iff.mp hm).1
      have lts : ts.length = i := by rw [t1.len, List.length_take]; omega
      have r64 := h64 r (List.mem_of_getElem? hr1)
      refine ⟨by rw [List.length_map, lts]; exact small_list (by omega), _, rfl, _, rfl, _, rfl, (by show 3 ≤ sizeLine; decide), fun N nN => ⟨_, _, _, ts ++ [N], rfl, x2.trans (Ext.new nN), ?_, by rw [List.map_append]; rfl⟩⟩
      have x3 := (Ext.new nT (o := .tup [V.str e.1, V.ref e.2])).trans (Ext.new nN (o := .tup [V.str e.1, V.int m.1, toldV m.2]))
      have er : r.take (i + 1) = r.take i ++ [(e.1, m)] := by
        rw [List.take_add_one, hm]
        rfl
      rw [er]
      exact (t1.ext fun t xs h => x3 _ _ h).snoc upd_same
    · rintro ys σ H3 ⟨v2, v3, v4, ts, rfl, x1, t1, rfl⟩
      have h3 := x1 _ _ upd_same
      have ln : (kvsOf es).length = r.length := by
        unfold kvsOf
        rw [List.length_map]
        exact he.len
      rw [ln, List.take_length] at t1
      refine ⟨h3, k _ ts (fun b' o eb => ?_) (t1.ext fun t xs h => ?_)⟩
      · by_cases c : b' = ds[q]
        · subst c
          rw [upd_same, ← hd, eb]
        · rw [upd_ne c]
          exact x1 _ _ ((upd_ne c).trans eb)
      · rw [upd_ne fun z => by rw [z, h3] at h; cases h]
        exact h
end
end Sl
/-! ## C4 -/
set_option Elab.async false
set_option linter.all false
set_option maxRecDepth 100000
set_option maxHeartbeats 4000000
/-! the law's drawn reader -/
namespace Sl
open PySem PySem.Spec PyProof.Rows L2 TxS
abbrev sModel : Stmt := top 31
/-- what a drawn reader is like -/
structure Drawn (paper tells marks : List Str) (rows : List Rw) (ns : List Int) (b : Int) : Prop where
  ok : okModel 12 paper (tells ++ marks) rows ns b
  lp : paper.length ≤ 6
  pin : ∀ z ∈ paper, z ∈ abcL
  lt : tells.length = 4
  tin : ∀ z ∈ tells, z ∈ abcL
  lm : marks.length = 6
  min : ∀ z ∈ marks, markS z = true ∧ z.length ≤ 8
def spModel : Sp := fun vs H Q _ => ∃ a : Addr, vs = [.ref a] ∧ Rng H a ∧ ∀ (H' : Hp) (M L E : Addr) (ds : List Addr) (rows : List Rw) (ns : List Int) (b : Int) (paper tells marks : List Str),
  Rng H' a → Keep a H H' → H M = none → H L = none → H E = none → (∀ d ∈ ds, H d = none) → ModelAt H' M L E ds rows ns b → Drawn paper tells marks rows ns b → Q (.ref M) H'
section
variable {P : Program} {w : World} {K : PySem.W.Frag} {mg : Str → Option Value} {base : Heap}
theorem scModel : FnScope ["_law_rng_here", "_law_paper", "_law_model_here"] ["_law_rng_here"] (defScope sModel) := ⟨rfl, rfl, rfl, by decide +kernel, rfl, by decide +kernel, by decide +kernel⟩
theorem ok_model {f fD fL fM fY : Addr} {fd fdD fdL fdM fdY : FuncData} (F : Fun K "_law_model" "_law_model" sModel f fd)
    (aD : At K mg "_law_draw" fD fdD ["_law_rng_here", "_law_many"] []) (gD : FnOk P w K mg base CX0 1 fD fdD ["_law_rng_here", "_law_many"] spDraw)
    (aL : At K mg "_law_letters" fL fdL ["_law_rng_here", "_law_many"] []) (gL : FnOk P w K mg base CX0 2 fL fdL ["_law_rng_here", "_law_many"] spLetters)
    (aM : At K mg "_law_marks" fM fdM ["_law_rng_here", "_law_many"] []) (gM : FnOk P w K mg base CX0 2 fM fdM ["_law_rng_here", "_law_many"] spMarks)
    (aY : At K mg "_law_any_format" fY fdY ["_law_rng_here", "_law_cap", "_law_paper", "_law_tells", "_law_marks_here"] []) (gY : FnOk P w K mg base CX0 3 fY fdY ["_law_rng_here", "_law_cap", "_law_paper", "_law_tells", "_law_marks_here"] spAnyFormat) :
    FnOk P w K mg base CX0 4 f fd ["_law_rng_here"] spModel := by
  refine F.ok scModel (fun vs H Q E h => ?_) (fun cdv A0 outer s H vs Q E0 hr h => ?_)
  · obtain ⟨a, rfl, _⟩ := h
    rfl
  · obtain ⟨a, rfl, hR, k⟩ := h
    have hr1 : Room 1 _ := hr.mono (by decide)
    have hr2 : Room 2 _ := hr.mono (by decide)
    refine ⟨_, pss_cons (ps_set (i := 1) scModel.nd rfl (.inl rfl) (pe_call gL hr2 (by rfl) aL.g aL.kp aL.b .nil pass0 (pa_cons (pv 0) (pa_cons (pe_op op_add pe_int (pe_call gD hr1 (by rfl) aD.g aD.kp aD.b .nil pass0 (pa_cons (pv 0) (pa_cons pe_int pa_nil)))) pa_nil))))
      (pss_cons (ps_set (i := 2) scModel.nd rfl (.inl rfl) (pe_call gY hr (by rfl) aY.g aY.kp aY.b .nil pass0 (pa_cons (pv 0) (pa_cons (pe_ix ix_list (pe_lst (pa_cons pe_int (pa_cons pe_int pa_nil))) (pe_call gD hr1 (by rfl) aD.g aD.kp aD.b .nil pass0 (pa_cons (pv 0) (pa_cons pe_int pa_nil))) (fun _ _ => rfl))
        (pa_cons (pv 1) (pa_cons (pe_call gL hr2 (by rfl) aL.g aL.kp aL.b .nil pass0 (pa_cons (pv 0) (pa_cons pe_int pa_nil))) (pa_cons (pe_call gM hr2 (by rfl) aM.g aM.kp aM.b .nil pass0 (pa_cons (pv 0) (pa_cons pe_int pa_nil))) pa_nil)))))))
      (pss_cons (ps_if (pt_cmpR op_eq (pe_call gD hr1 (by rfl) aD.g aD.kp aD.b .nil pass0 (pa_cons (pv 0) (pa_cons pe_int pa_nil))) pe_int (nomark _))
        (pss_one (ps_set (i := 2) scModel.nd rfl (.inl rfl) (pe_tup (pa_cons (pe_ix ix_tup (pv 2) pe_int (fun _ _ => rfl)) (pa_cons (pe_ix ix_tup (pv 2) pe_int (fun _ _ => rfl)) (pa_cons pe_int pa_nil)))))) pss_nil)
      (pss_one (ps_ret (pv 2))))), ?_⟩
    refine ⟨_, rfl, _, rfl, a, 6, rfl, hR, by decide, by decide, fun d1 H1 d10 d1n r1 k1 => ?_⟩
    obtain ⟨j1, rfl⟩ : ∃ j : Nat, d1 = (j : Int) := ⟨d1.toNat, by omega⟩
    refine ⟨_, _, rfl, rfl, a, 1 + j1, rfl, r1, by omega, fun H2 Pa paper r2 k2 nPa hPa lp ndp inp => ?_⟩
    have k12 := k1.trans k2
    refine ⟨_, rfl, (by show 2 ≤ sizeLine; decide), fun o1 no1 => ?_⟩
    have xo := Ext.new no1 (o := .lst [.int 4, .int 12])
    have r2' := r2.ext xo
    refine ⟨_, rfl, a, 2, rfl, r2', by decide, by decide, fun d2 H3 d20 d2n r3 k3 => ?_⟩
    have k23 := (Keep.of xo).trans k3
    have hl3 : H3 o1 = some (.lst [.int 4, .int 12]) := k3 _ _ upd_same (r2.new no1)
    obtain ⟨cap, c1, c12, hv⟩ : ∃ cap : Nat, 1 ≤ cap ∧ cap ≤ 12 ∧ atI [V.int 4, V.int 12] d2 = some (.int (cap : Int)) := by
      have : d2 = 0 ∨ d2 = 1 := by omega
      rcases this with e | e
      · subst e
        exact ⟨4, by decide, by decide, rfl⟩
      · subst e
        exact ⟨12, by decide, by decide, rfl⟩
    refine ⟨o1, _, _, _, rfl, rfl, SqL.of hl3, hv, ?_⟩
    refine ⟨_, rfl, _, rfl, a, 4, rfl, r3, by decide, fun H4 Te tells r4 k4 nTe hTe lt ndt int => ?_⟩
    refine ⟨_, rfl, a, 6, rfl, r4, by decide, fun H5 Ma marks r5 k5 nMa hMa lm ndm inm => ?_⟩
    have ePa := r1.new nPa
    have eTe := r3.new nTe
    have eMa := r4.new nMa
    have hPa5 := k5 _ _ (k4 _ _ (k23 _ _ hPa ePa) ePa) ePa
    have hTe5 := k5 _ _ hTe eTe
    refine ⟨a, Pa, Te, Ma, cap, paper, tells, marks, rfl, r5, c1, c12, ⟨hPa5, hTe5, hMa, ePa, eTe, eMa, ndp, by omega, by omega, by omega, by omega, by omega, by omega⟩, fun H6 M L E ds rows ns b r6 k6 nM nL nE nd hM ok => ?_⟩
    refine ⟨_, rfl, a, 3, rfl, r6, by decide, by decide, fun d3 H7 d30 d3n r7 k7 => ?_⟩
    have M0 : ∀ {H' : Hp} {M : Addr}, Keep a H H' → Rng H' a → H' M = none → H M = none := fun kk rr n => kk.free rr.there.choose_spec n
    have k5' := ((k12.trans k23).trans k4).trans k5
    have k7' := (k5'.trans k6).trans k7
    have hM7 := hM.keep k7 r6 (r5.new nL) (r5.new nE)
    have l5 := M0 k5' r5 nL
    have e5 := M0 k5' r5 nE
    have d5 := fun d hd => M0 k5' r5 (nd d hd)
    have dr : ∀ b', okModel cap paper (tells ++ marks) rows ns b' → Drawn paper tells marks rows ns b' := fun b' o =>
      ⟨⟨o.lo, Nat.le_trans o.hi c12, o.rw_, o.nd, Nat.le_trans o.len c12, o.inn, o.b0, o.b1⟩, by omega, inp, lt, int, lm, inm⟩
    refine ⟨rfl, _, rfl, ?_⟩
    refine ite2 (fun _ => ?_) (fun _ => ?_)
    · refine ⟨_, rfl, M, _, _, .ref L, rfl, rfl, SqT.of hM7.h1, atI_nat (j := 0) rfl, _, rfl, M, _, _, .ref E, rfl, rfl, SqT.of hM7.h1, atI_nat (j := 1) rfl, (by show 3 ≤ sizeLine; decide), fun N nN => ?_⟩
      have xn := Ext.new nN (o := .tup [.ref L, .ref E, .int 0])
      refine ⟨_, rfl, k _ N L E ds rows ns 0 paper tells marks (r7.ext xn) (k7'.trans (Keep.of xn)) (M0 k7' r7 nN) l5 e5 d5 ⟨upd_same, xn _ _ hM7.h2, hM7.h3.ext xn, hM7.h4, xn _ _ hM7.h5⟩ (dr 0 { ok with b0 := by decide, b1 := by have := ok.lo; omega })⟩
    · exact ⟨_, rfl, k _ M L E ds rows ns b paper tells marks r7 k7' (M0 k5' r5 nM) l5 e5 d5 hM7 (dr b ok)⟩
end
end Sl
/-! ## C5 -/
set_option Elab.async false
set_option linter.all false
set_option maxRecDepth 100000
set_option maxHeartbeats 4000000
/-! a value in an own object -/
namespace Sl
open PySem PySem.Spec PyProof.Rows L2
def rInO (C : Addr) (sp : Sp) : R2 := fun x y H Q => ∃ (a dx : Addr) (fs : List (Str × V)), y = .ref a ∧ H a = some (.ins C dx fs) ∧ sp [.ref a, x] H (fun v H' => ∃ b : Bool, v = .bl b ∧ Q (.bl b) H') fun _ _ _ => False
theorem op_inO {X : Cx} {C g : Addr} {k : Nat} {fd : FuncData} {sp : Sp} (m : L2.Meth X.K C "__contains__" g) (F : FnOk X.prog X.w X.K X.mg X.base CX0 k g fd ["self", "value"] sp) (hr : Room k X.A) (hb : L2.Binds X.K fd ["self", "value"] []) :
    OpR X (compareOp .In) (rInO C sp) := by
  intro pins s σ H x y v u Q I rx ry h
  obtain ⟨a, dx, fs, rfl, e, q⟩ := h
  cases (show u = Value.ref a from ry)
  obtain ⟨mA, O, rr, _, _, _⟩ := ins_get I.hok e
  obtain ⟨od, J, hl⟩ := O.look
  show wpAny _ _ (do return Value.bool (← contains (.ref a) v)) _ _ _
  refine wpAny_bind (m := contains (.ref a) v) ?_
  unfold contains
  refine wpAny_holding ?_
  refine wpAny_bind (m := specialOf (.ref a) (Str.ofString "__contains__")) ?_
  unfold specialOf
  refine wpAny_bind (J.type.here ((PySem.W.looks_findIn I.kIn m.at_).here ?_))
  rw [if_neg (by simp)]
  refine wpAny_bind (m := callSpecialUnlessNone? (.ref a) (Str.ofString "__contains__") [v] _) ?_
  unfold callSpecialUnlessNone? specialOf
  refine wpAny_bind (wpAny_bind (J.type.here ((PySem.W.looks_findIn I.kIn m.at_).here ?_)))
  refine wpAny_holding (wpAny_bind ?_)
  unfold bindSpecial
  refine wpAny_bind ((PySem.W.looks_typeIn I.kIn (beq_iff_eq.mp m.fn)).here ?_)
  rw [if_pos (by decide)]
  refine wpAny_pure ?_
  dsimp only
  rw [if_neg (by simp)]
  refine wpAny_bind (wpAny_call (codeAny_mono (F.run X.A X.stack s H ⟨[.ref a, v], []⟩ [.ref a, v] [.ref a, x] _ _ hr I.env0 (hb s [.ref a, v] I.kIn rfl) (.cons rfl (.cons rx .nil)) q) fun c s' hq => ?_))
  cases c with
  | error er => exact (show False from hq).elim
  | ok fl =>
    cases fl with
    | ret u =>
      obtain ⟨v', H', I', rv, b, rfl, q'⟩ := I.after hq
      obtain rfl : u = Value.bool b := rv
      refine wpAny_pure ?_
      exact wpAny_pure (wpAny_pure ⟨.bl b, H', I', rfl, q'⟩)
    | next => exact hq.elim
    | brk => exact hq.elim
    | cont => exact hq.elim
end Sl
/-! ## C6 -/
set_option Elab.async false
set_option linter.all false
set_option maxRecDepth 100000
set_option maxHeartbeats 4000000
/-! a range as a value; the list of a range -/
namespace Sl
open PySem PySem.Spec PyProof.Rows L2
/-- the range from i to j stands at r -/
def RngO (r : Addr) (i j : Int) : HO := .ext fun h => ∃ t u v, IsRange h r i j 1 t u v
def spanR (i : Int) (n : Nat) : List Int := (List.range n).map fun k => i + (k : Nat)
def rRange2 : List V → Hp → VK → Prop := fun xs H Q => ∃ i j : Int, xs = [.int i, .int j] ∧ ∀ r, H r = none → Q (.ref r) (upd H r (RngO r i j))
theorem cr_range2 {X : Cx} : CallR X (.type "range") rRange2 := by
  intro pins s σ H xs us Q I rv h
  obtain ⟨i, j, rfl, q⟩ := h
  obtain ⟨u1, u2, rfl, r1, r2⟩ := vals2 rv
  obtain ⟨t, rfl⟩ := r1
  obtain ⟨u, rfl⟩ := r2
  have hp := Heap.get?_push_size s.heap (o := { cls := .type "range", data := .fields #[.int i t, .int j u, .int 1 s.toks] }) rfl
  have new : IsRange (s.heap.push { cls := .type "range", data := .fields #[.int i t, .int j u, .int 1 s.toks] }) s.heap.objs.size i j 1 t u s.toks := hp
  exact call_range_2 ⟨.ref s.heap.objs.size, upd H s.heap.objs.size (RngO s.heap.objs.size i j),
    I.laid (t' := s.toks + 1) (fun b o e => Heap.get?_push_of_some _ e) (Nat.le_refl _) ⟨⟨t, u, s.toks, new⟩, ⟨_, hp⟩, fun h1 h2 ⟨t, u, v, p⟩ k => ⟨t, u, v, k _ p⟩⟩, rfl, q _ (I.hok.fresh (Nat.le_refl _))⟩
def rListRng : List V → Hp → VK → Prop := fun xs H Q => ∃ (r : Addr) (i j : Int) (n : Nat), xs = [.ref r] ∧ H r = some (RngO r i j) ∧ -100000 ≤ i ∧ j ≤ 100000 ∧ i ≤ j ∧ j - i = n ∧ ∀ l, H l = none → Q (.ref l) (upd H l (.lst ((spanR i n).map V.int)))
theorem ints_vals {i : Int} {acc : Array Value} {n : Nat} (h : ItemsOf (fun k v => ∃ t, v = .int (i + (k : Nat) * 1) t) acc n) : Vals ((spanR i n).map V.int) acc.toList := by
  have key : ∀ (ks : List Int) (vs : List Value), vs.length = ks.length → (∀ (j : Nat) (v : Value) (z : Int), vs[j]? = some v → ks[j]? = some z → ∃ t, v = Value.int z t) → Vals (ks.map V.int) vs := by
    intro ks
    induction ks with
    | nil =>
      intro vs e _
      rw [List.eq_nil_of_length_eq_zero e]
      exact .nil
    | cons z ks ih =>
      intro vs e q
      cases vs with
      | nil => cases e
      | cons v vs => exact .cons (q 0 v z rfl rfl) (ih vs (Nat.succ.inj e) fun j v' z' e1 e2 => q (j + 1) v' z' e1 e2)
  refine key _ _ (by unfold spanR; rw [List.length_map, List.length_range, Array.length_toList]; exact h.1) fun j v z e1 e2 => ?_
  obtain ⟨t, rfl⟩ := h.2 j v (by rw [← Array.getElem?_toList]; exact e1)
  unfold spanR at e2
  rw [List.getElem?_map] at e2
  have hj : j < n := by
    have k := (List.getElem?_eq_some_iff.mp e1).1
    rw [Array.length_toList, h.1] at k
    exact k
  rw [List.getElem?_range hj] at e2
  cases e2
  exact ⟨t, by rw [Int.mul_one]⟩
theorem cr_listRng {X : Cx} (hc : X.calm = true) : CallR X (.type "list") rListRng := by
  intro pins s σ H xs us Q I rv h
  obtain ⟨r, i, j, n, rfl, hr, hi, hj, hij, hn, q⟩ := h
  rw [Vals.ref1 rv]
  obtain ⟨⟨t, u, v, p⟩, _⟩ := I.hok r _ hr
  have sz : Builtin.Range.rangeSize i j 1 = n := by
    rw [rangeSize_one]
    split <;> omega
  have l24 : (n : Int) ≤ 200000 := by omega
  refine PySem.call_list_range (n := n) (I.ok.hd hc) p (small_one (by omega) (by omega) (by omega) (by omega)) sz (by omega) fun h' tk acc' c' k ho hit => ?_
  have hv := ints_vals hit
  have hl : ((spanR i n).map V.int).length ≤ sizeLine := by
    unfold spanR
    rw [List.length_map, List.length_map, List.length_range, sizeLine_eq]
    omega
  exact ⟨.ref s.heap.objs.size, upd H s.heap.objs.size (.lst ((spanR i n).map V.int)), I.laid (t' := tk) k (Nat.le_refl _) ⟨hl, acc'.toList, c', hv, ho⟩, rfl, q _ (I.hok.fresh (Nat.le_refl _))⟩
end Sl
/-! ## C7 -/
set_option Elab.async false
set_option linter.all false
set_option maxRecDepth 100000
set_option maxHeartbeats 4000000
/-! which values are in a reader -/
namespace Sl
open PySem PySem.Spec PyProof.Rows L2
abbrev sValues : Stmt := top 37
def spValues (C : Addr) : Sp := fun vs H Q _ => ∃ (p : Addr) (rows : List Rw) (ends : List Int) (b : Int), vs = [.ref p, .int (rows.length : Nat)] ∧ ReaderAt C H p rows ends b ∧ rows.length ≤ 12 ∧ ∀ H', Ext H H' → Q (.bl true) H'
section
variable {P : Program} {w : World} {K : PySem.W.Frag} {mg : Str → Option Value} {base : Heap}
theorem scValues : FnScope ["_law_made_here", "_law_many", "_law_some", "_law_one", "_law_is_due"] ["_law_made_here", "_law_many"] (defScope sValues) := ⟨rfl, rfl, rfl, by decide +kernel, rfl, by decide +kernel, by decide +kernel⟩
theorem ok_values {f C fH : Addr} {fd fdH : FuncData} (F : Fun K "_law_values_right" "_law_values_right" sValues f fd) (T : RdC K C)
    (mH : L2.Meth K C "__contains__" fH) (bH : L2.Binds K fdH ["self", "value"] []) (gH : FnOk P w K mg base CX0 3 fH fdH ["self", "value"] (spHas K C))
    (zz : mg "isinstance" = none) (zi : mg "int" = none) (zb : mg "bool" = none) (zl : mg "list" = none) (zr : mg "range" = none) :
    FnOk P w K mg base CX0 4 f fd ["_law_made_here", "_law_many"] (spValues C) := by
  refine F.ok scValues (fun vs H Q E h => ?_) (fun cdv A0 outer s H vs Q E0 hr h => ?_)
  · obtain ⟨p, rows, ends, b, rfl, _⟩ := h
    rfl
  · obtain ⟨p, rows, ends, b, rfl, RA, l12, k⟩ := h
    refine ⟨_, pss_cons (ps_set (i := 2) scValues.nd rfl (.inl rfl) (pe_op op_cat (pe_callTy (cr_listRng rfl) (by rfl) zl (by decide +kernel) (pa_cons (pe_callTy cr_range2 (by rfl) zr (by decide +kernel) (pa_cons (pe_un un_neg pe_int) (pa_cons (pe_op op_add (pv 1) pe_int) pa_nil))) pa_nil))
        (pe_lst (pa_cons (pe_op op_pow pe_int pe_int) (pa_cons pe_bl (pa_cons pe_bl (pa_cons pe_non (pa_cons pe_str (pa_cons pe_str (pa_cons (pe_tup (pa_cons pe_int pa_nil)) (pa_cons (pe_lst (pa_cons pe_int pa_nil)) (pa_cons pe_dnewK (pa_cons (pe_tup pa_nil) (pa_cons (pe_lst pa_nil) (pa_cons (pe_disp (pps_cons pe_int pe_int pps_nil) (by rfl) (by rfl) (fun z => by cases z) (by decide)) pa_nil)))))))))))))))
      (pss_cons (ps_for PassesOwn.never rfl (pi_list (pv 2)) (pg_name (i := 3) scValues.nd rfl (.inl rfl))
        (pss_cons (ps_set (i := 4) scValues.nd rfl (.inl rfl) (pe_and (pe_callB call_isi (by rfl) zz (by decide +kernel) (pa_cons (pv 3) (pa_cons (pe_bltn (by rfl) zi (by decide +kernel) (rel_ty "int")) pa_nil)))
            (pe_and (pe_not (pe_callB call_isi (by rfl) zz (by decide +kernel) (pa_cons (pv 3) (pa_cons (pe_bltn (by rfl) zb (by decide +kernel) (rel_ty "bool")) pa_nil)))) (pe_one (pe_chain op_le op_lt pe_int (pv 3) (pv 1))))))
        (pss_one (ps_if (pt_cmpR op_ne (pe_cmpR (op_inO mH gH hr bH) (pv 3) (pv 0) (by rfl)) (pv 4) (nomark _)) (pss_one (ps_ret pe_bl)) pss_nil))))
      (pss_one (ps_ret pe_bl))), ?_⟩
    refine ⟨2, rfl, _, rfl, _, _, rfl, rfl, _, _, rfl, fun r nr => ?_⟩
    refine ⟨r, _, _, rows.length + 4, rfl, upd_same, by omega, by omega, by omega, by omega, fun l nl => ?_⟩
    have x1 : Ext H (upd (upd H r (RngO r (-2) ((rows.length : Nat) + 2))) l (.lst ((spanR (-2) (rows.length + 4)).map V.int))) := (Ext.new nr).trans (Ext.new nl)
    have hl : (upd (upd H r (RngO r (-2) ((rows.length : Nat) + 2))) l (.lst ((spanR (-2) (rows.length + 4)).map V.int))) l = some (.lst ((spanR (-2) (rows.length + 4)).map V.int)) := upd_same
    generalize upd (upd H r (RngO r (-2) ((rows.length : Nat) + 2))) l (.lst ((spanR (-2) (rows.length + 4)).map V.int)) = H1 at x1 hl ⊢
    refine ⟨_, _, rfl, rfl, ⟨by decide, by decide, by decide⟩, ?_⟩
    refine ⟨by show 1 ≤ sizeLine; decide, fun a1 n1 => ⟨by show 1 ≤ sizeLine; decide, fun a2 n2 => fun a3 n3 => ⟨by show 0 ≤ sizeLine; decide, fun a4 n4 => ⟨by show 0 ≤ sizeLine; decide, fun a5 n5 => fun a6 n6 => ?_⟩⟩⟩⟩
    have y1 := Ext.new n1 (o := .tup [.int 0])
    have g1 : (upd H1 a1 (.tup [.int 0])) a1 = some (.tup [V.int 0]) := upd_same
    generalize upd H1 a1 (.tup [.int 0]) = G1 at y1 g1 n2 n3 n4 n5 n6 ⊢
    have y2 := Ext.new n2 (o := .lst [.int 0])
    have g2 : (upd G1 a2 (.lst [.int 0])) a2 = some (.lst [V.int 0]) := upd_same
    generalize upd G1 a2 (.lst [.int 0]) = G2 at y2 g2 n3 n4 n5 n6 ⊢
    have y3 := Ext.new n3 (o := .dK [])
    have g3 : (upd G2 a3 (.dK [])) a3 = some (.dK []) := upd_same
    generalize upd G2 a3 (.dK []) = G3 at y3 g3 n4 n5 n6 ⊢
    have y4 := Ext.new n4 (o := .tup [])
    have g4 : (upd G3 a4 (.tup [])) a4 = some (.tup []) := upd_same
    generalize upd G3 a4 (.tup []) = G4 at y4 g4 n5 n6 ⊢
    have y5 := Ext.new n5 (o := .lst [])
    have g5 : (upd G4 a5 (.lst [])) a5 = some (.lst []) := upd_same
    generalize upd G4 a5 (.lst []) = G5 at y5 g5 n6 ⊢
    refine ⟨upd_same, [(Sum.inl 0, .int 0)], rfl, by decide, by show 12 ≤ sizeLine; decide, fun M nM => ?_⟩
    have y6 : Ext G5 (upd (upd G5 a6 (.dK [])) a6 (.dK (mergeK [] [(Sum.inl 0, .int 0)]))) := fun b o e => by
      rw [upd_ne (ne_of_none e n6), upd_ne (ne_of_none e n6)]
      exact e
    have g6 : (upd (upd G5 a6 (.dK [])) a6 (.dK (mergeK [] [(Sum.inl 0, .int 0)]))) a6 = some (.dK (mergeK [] [(Sum.inl 0, .int 0)])) := upd_same
    generalize upd (upd G5 a6 (.dK [])) a6 (.dK (mergeK [] [(Sum.inl 0, .int 0)])) = G6 at y6 g6 nM ⊢
    generalize hE : ([(fun (i j : Int) => V.int (i ^ j.toNat)) 10 20, .bl true, .bl false, .non, .str "0", .str "", .ref a1, .ref a2, .ref a3, .ref a4, .ref a5, .ref a6] : List V) = E
    have y7 := Ext.new nM (o := .lst E)
    have x6 : Ext H1 G6 := ((((y1.trans y2).trans y3).trans y4).trans y5).trans y6
    have hl7 := y7 _ _ (x6 _ _ hl)
    have lE : E.length = 12 := by rw [← hE]; rfl
    have ls : ((spanR (-2) (rows.length + 4)).map V.int).length = rows.length + 4 := by
      unfold spanR
      rw [List.length_map, List.length_map, List.length_range]
    refine ⟨_, _, _, _, rfl, rfl, hl7, upd_same, by rw [ls, lE, sizeLine_eq]; omega, fun L nL => ?_⟩
    have y8 := Ext.new nL (o := .lst ((spanR (-2) (rows.length + 4)).map V.int ++ E))
    have hL8 : (upd (upd G6 M (.lst E)) L (.lst ((spanR (-2) (rows.length + 4)).map V.int ++ E))) L = some (.lst ((spanR (-2) (rows.length + 4)).map V.int ++ E)) := upd_same
    have z6 := y7.trans y8
    have z5 := y6.trans z6
    have z4 := y5.trans z5
    have z3 := y4.trans z4
    have z2 := y3.trans z3
    have z1 := y2.trans z2
    have x8 := x1.trans (x6.trans z6)
    have e1 := z1 _ _ g1
    have e2 := z2 _ _ g2
    have e3 := z3 _ _ g3
    have e4 := z4 _ _ g4
    have e5 := z5 _ _ g5
    have e6 := z6 _ _ g6
    generalize upd (upd G6 M (.lst E)) L (.lst ((spanR (-2) (rows.length + 4)).map V.int ++ E)) = G8 at hL8 x8 e1 e2 e3 e4 e5 e6 ⊢
    have RA8 := RA.ext x8
    obtain ⟨dx, fs, L0, ds, Te, hp8, _⟩ := RA8.ex
    have vals : ∀ x ∈ (spanR (-2) (rows.length + 4)).map V.int ++ E, (∃ i, x = .int i) ∨ ((∀ i, x ≠ .int i) ∧ ∃ kd : Kd, kd.num = false ∧ Is K G8 x kd) := fun x hx => by
      rcases List.mem_append.mp hx with h | h
      · obtain ⟨i, _, rfl⟩ := List.mem_map.mp h
        exact .inl ⟨i, rfl⟩
      · rw [← hE] at h
        simp only [List.mem_cons, List.not_mem_nil, or_false] at h
        rcases h with rfl | rfl | rfl | rfl | rfl | rfl | rfl | rfl | rfl | rfl | rfl | rfl
        · exact .inl ⟨_, rfl⟩
        · exact .inr ⟨fun i z => (by cases z), .bl, rfl, .base (.bl _)⟩
        · exact .inr ⟨fun i z => (by cases z), .bl, rfl, .base (.bl _)⟩
        · exact .inr ⟨fun i z => (by cases z), .non, rfl, .base .non⟩
        · exact .inr ⟨fun i z => (by cases z), .str, rfl, .base (.str _)⟩
        · exact .inr ⟨fun i z => (by cases z), .str, rfl, .base (.str _)⟩
        · exact .inr ⟨fun i z => (by cases z), .tup, rfl, .base (.tup e1)⟩
        · exact .inr ⟨fun i z => (by cases z), .lst, rfl, .base (.lst e2)⟩
        · exact .inr ⟨fun i z => (by cases z), .dct, rfl, .base (.dK e3)⟩
        · exact .inr ⟨fun i z => (by cases z), .tup, rfl, .base (.tup e4)⟩
        · exact .inr ⟨fun i z => (by cases z), .lst, rfl, .base (.lst e5)⟩
        · exact .inr ⟨fun i z => (by cases z), .dct, rfl, .base (.dK e6)⟩
    have rest : ∀ (x : V) (D : Ends) (s2 : L2.St), s2 = [some (.ref p), some (.int (rows.length : Nat)), some (.ref L), some x, some (.bl (below x rows.length))] → Val K G8 x → D.nx s2 G8 → tIfS (tTest (tOp rNe (tOp (rInO C (spHas K C)) (tVar 3) (tVar 0)) (tVar 4))) (tRet (tC (V.bl false))) tNext D s2 G8 := by
      rintro x D _ rfl hv hd
      refine ⟨_, rfl, _, rfl, p, dx, fs, rfl, hp8, p, x, rows, ends, b, rfl, RA8, hv, _, rfl, _, rfl, rfl, _, rfl, ?_⟩
      rw [show (!decide (V.bl (below x rows.length) = V.bl (below x rows.length))) = false by simp]
      exact iteF hd
    refine ⟨_, rfl, L, rfl, ⟨_, SqL.of hL8⟩, ?_⟩
    refine for_it (walk_list (xs := (spanR (-2) (rows.length + 4)).map V.int ++ E)) (fun i σ H' => ∃ v3 v4, σ = [some (.ref p), some (.int (rows.length : Nat)), some (.ref L), v3, v4] ∧ H' = G8) ⟨none, none, rfl, rfl⟩ (fun i σ H' _ ⟨_, _, _, e⟩ => by rw [e]; exact SqL.of hL8) ?_ ?_
    · rintro i x σ H' H'' hi ⟨v3, v4, rfl, rfl⟩ ⟨rfl, hx⟩
      have hv := vals x (List.mem_of_getElem? hx)
      have hval : Val K H'' x := hv
      rcases hv with ⟨j, rfl⟩ | ⟨hno, kd, hkd, his⟩
      · refine ⟨_, rfl, _, _, _, _, true, rfl, .ty _, .base (.int j), kit_ty (by decide +kernel), true, rfl, ?_⟩
        rw [if_pos rfl]
        refine ⟨_, rfl, _, _, _, _, false, rfl, .ty _, .base (.int j), kit_ty (by decide +kernel), _, rfl, _, rfl, ?_⟩
        rw [if_pos (show (!false) = true from rfl)]
        refine ⟨_, rfl, _, _, rfl, rfl, _, rfl, ?_⟩
        have eb : below (.int j) (rows.length : Nat) = (decide (0 ≤ j) && decide (j < (rows.length : Nat))) := rfl
        by_cases c : 0 ≤ j
        · rw [if_pos (decide_eq_true c)]
          refine ⟨_, rfl, _, _, rfl, rfl, rest _ _ _ ?_ hval ⟨_, _, rfl, rfl⟩⟩
          rw [eb, decide_eq_true c, Bool.true_and]
          rfl
        · rw [if_neg (by rw [decide_eq_false c]; exact Bool.false_ne_true)]
          refine rest _ _ _ ?_ hval ⟨_, _, rfl, rfl⟩
          rw [eb, decide_eq_false c, Bool.false_and]
          rfl
      · have hb : below x rows.length = false := by
          unfold below
          cases x with
          | int j => exact absurd rfl (hno j)
          | _ => rfl
        have fin : ∀ s2 : L2.St, s2 = [some (.ref p), some (.int (rows.length : Nat)), some (.ref L), some x, some (.bl false)] → s2 = [some (.ref p), some (.int (rows.length : Nat)), some (.ref L), some x, some (.bl (below x rows.length))] := fun s2 e => by rw [hb]; exact e
        cases kd with
        | int => cases hkd
        | bl =>
          refine ⟨_, rfl, _, _, _, _, true, rfl, .ty _, his, kit_ty (by decide +kernel), true, rfl, ?_⟩
          rw [if_pos rfl]
          refine ⟨_, rfl, _, _, _, _, true, rfl, .ty _, his, kit_ty (by decide +kernel), _, rfl, _, rfl, ?_⟩
          rw [if_neg (show ¬ (!true) = true from Bool.false_ne_true)]
          exact rest _ _ _ (fin _ rfl) hval ⟨_, _, rfl, rfl⟩
        | _ =>
          refine ⟨_, rfl, _, _, _, _, false, rfl, .ty _, his, kit_ty (by decide +kernel), false, rfl, ?_⟩
          rw [if_neg Bool.false_ne_true]
          exact rest _ _ _ (fin _ rfl) hval ⟨_, _, rfl, rfl⟩
    · rintro σ H' ⟨v3, v4, rfl, rfl⟩
      exact k _ x8
end
end Sl
/-! ## C8 -/
set_option Elab.async false
set_option linter.all false
set_option maxRecDepth 100000
set_option maxHeartbeats 4000000
/-! methods called all by names -/
namespace Sl
open PySem PySem.Spec PyProof.Rows L2
section
variable {X : Cx} {CX : CXT} {k : Nat} {C f : Addr} {fd : FuncData} {ps ks : List Str} {m : Str} {o : Expr} {kws : List Keyword} {ta : TE} {tk : TA} {g : List Value → List Value → List Value} {gV : List V → List V → List V} {E : XK} {pl : Sem Bool} {apos pos : Pos}
def tMethK (C : Addr) (m : Str) (n : Nat) (sp : Sp) (gV : List V → List V → List V) (E : XK) (ta : TE) (tk : TA) : TE := fun σ H Q => ta σ H fun x H1 => ∃ a dx fs, x = .ref a ∧ H1 a = some (.ins C dx fs) ∧ fs.lookup m = none ∧ tk σ H1 fun zs H2 => zs.length = n ∧ sp (gV [.ref a] zs) H2 Q E
theorem pe_methKw {sp : Sp} (he : PE X o ta) (c : Cls X.K C) (hm : Meth X.K C m f) (F : FnOk X.prog X.w X.K X.mg X.base CX k f fd ps sp) (hr : Room k X.A) (hb : KBn X.K fd ps 1 ks g gV) (hx : Passes CX X E) (hkw : PK X kws tk)
    (hall : (backToKw pos (keywordEach kws X.env)).all (·.1.isSome) = true := by rfl) (hks : (backToKw pos (keywordEach kws X.env)).filterMap (·.1) = ks := by rfl)
    (hpl : ((backTo pos (starEach [] X.env)).any (·.1) || (backToKw pos (keywordEach kws X.env)).any (·.1.isNone)) = false := by rfl)
    (ht : eval (.Call (.Attribute o m apos) [] kws pos) X.env = (do
      let ov ← eval o X.env
      standAt apos.atName
      let (f, first) ← holding [ov] (getMethod ov m pl)
      callWith pos f first (backTo pos (starEach [] X.env)) (backToKw pos (keywordEach kws X.env))) := by rfl) :
    PE X (.Call (.Attribute o m apos) [] kws pos) (tMethK C m ks.length sp gV E ta tk) := by
  refine ⟨fun pins s σ H Q I h => PySem.W.methodCall_KW (pl := pl) (thn (he.run pins s σ H _ I h) fun u s1 ⟨x, H1, I1, rx, a, dx, fs, ex, ea, l, q⟩ => ?_) ht⟩
  subst ex
  obtain rfl : u = Value.ref a := rx
  refine getmeth_ok I1 ea c hm l (PySem.W.callWith_KW0 (first := [.ref a]) (h₀ := X.base) I1.ok.mod.kin hm.kp hall ?_ hpl)
  refine thn (hkw.run pos pins s1 σ H1 _ I1 q) fun ws s2 ⟨zs, H2, I2, rz, l2, q2⟩ => ⟨I2.kIn, ?_⟩
  rw [hks]
  have r1 : Vals [V.ref a] [Value.ref a] := .cons rfl .nil
  refine wpAny_call (codeAny_mono (F.run X.A X.stack s2 H2 ⟨[.ref a], ks.zip ws⟩ (g [.ref a] ws) (gV [.ref a] zs) Q E hr I2.env0 (hb.to s2 [.ref a] ws I2.kIn rfl (rz.length.symm.trans l2)) (hb.rel r1 rz) q2) fun r s' hq => ?_)
  cases r with
  | error e => exact hx pins σ _ _ e s' I2 hq
  | ok fl =>
    cases fl with
    | ret u => exact I2.after hq
    | next => exact hq.elim
    | brk => exact hq.elim
    | cont => exact hq.elim
theorem pgen_methKw {sp : SpG} (he : PE X o ta) (c : Cls X.K C) (hm : Meth X.K C m f) (G : GFn X.prog X.w X.K X.mg X.base k f fd ps sp) (hr : Room k X.A) (hb : KBn X.K fd ps 1 ks g gV) (hkw : PK X kws tk)
    (hall : (backToKw pos (keywordEach kws X.env)).all (·.1.isSome) = true := by rfl) (hks : (backToKw pos (keywordEach kws X.env)).filterMap (·.1) = ks := by rfl)
    (hpl : ((backTo pos (starEach [] X.env)).any (·.1) || (backToKw pos (keywordEach kws X.env)).any (·.1.isNone)) = false := by rfl)
    (ht : eval (.Call (.Attribute o m apos) [] kws pos) X.env = (do
      let ov ← eval o X.env
      standAt apos.atName
      let (f, first) ← holding [ov] (getMethod ov m pl)
      callWith pos f first (backTo pos (starEach [] X.env)) (backToKw pos (keywordEach kws X.env))) := by rfl) :
    PGen X k (.Call (.Attribute o m apos) [] kws pos) (fun σ H cont => ta σ H fun x H1 => ∃ a dx fs, x = .ref a ∧ H1 a = some (.ins C dx fs) ∧ fs.lookup m = none ∧ tk σ H1 fun zs H2 => zs.length = ks.length ∧ sp (gV [.ref a] zs) H2 cont E) E := by
  refine ⟨fun pins s σ H cont I h => PySem.W.methodCall_KW (pl := pl) (thn (he.run pins s σ H _ I h) fun u s1 ⟨x, H1, I1, rx, a, dx, fs, ex, ea, l, q⟩ => ?_) ht⟩
  subst ex
  obtain rfl : u = Value.ref a := rx
  refine getmeth_ok I1 ea c hm l (PySem.W.callWith_KW0 (first := [.ref a]) (h₀ := X.base) I1.ok.mod.kin hm.kp hall ?_ hpl)
  refine thn (hkw.run pos pins s1 σ H1 _ I1 q) fun ws s2 ⟨zs, H2, I2, rz, l2, q2⟩ => ⟨I2.kIn, ?_⟩
  rw [hks]
  have r1 : Vals [V.ref a] [Value.ref a] := .cons rfl .nil
  refine wpAny_call (codeAny_mono (G.run X.A X.stack s2 H2 ⟨[.ref a], ks.zip ws⟩ (g [.ref a] ws) (gV [.ref a] zs) cont E hr I2.env0 (hb.to s2 [.ref a] ws I2.kIn rfl (rz.length.symm.trans l2)) (hb.rel r1 rz) q2) fun r s' hq => ?_)
  cases r with
  | error e => exact hq.elim
  | ok fl =>
    cases fl with
    | ret u => exact ⟨H2, s2, [], I2, .nil, hq⟩
    | next => exact hq.elim
    | brk => exact hq.elim
    | cont => exact hq.elim
end
end Sl
/-! ## Q1 -/
set_option Elab.async false
set_option linter.all false
set_option maxRecDepth 100000
set_option maxHeartbeats 4000000
namespace Sl
open PySem PySem.Spec PyProof.Rows L2
/-! ### each place and sign of a text, in new pairs -/
def Itn (z : Str) : It :=
  ⟨fun i _ => i < z.cps.size, fun i H v H' => ∃ T c, v = .ref T ∧ H T = none ∧ H' = upd H T (.tup [.int (i : Nat), .str ⟨#[c]⟩]) ∧ z.cps[i]? = some c, fun i _ => z.cps.size ≤ i⟩
theorem itn_turn {P : Program} {w : World} {K : PySem.W.Frag} {elts : List Expr} {kk : Nat} {tpos : Pos} (x : Str) (t : Tok) (e it : Addr) :
    Turn P w K (.Tuple elts kk tpos) (Itn x) [e, it] e (fun i h => (∃ old, IsEnum h e it ((i : Nat) : Int) old) ∧ h.IsStrIter it (strIterType x) x t i ∧ e ≠ it) where
  mem := by simp
  obj := fun i h st b hb => by
    obtain ⟨⟨old, he⟩, ⟨o, ho, hc, hd⟩, _⟩ := st
    have e' : b = e ∨ b = it := by simpa using hb
    rcases e' with z | z
    · rw [z]; exact ⟨_, he, fun v q => nomatch q⟩
    · rw [z]; exact ⟨o, ho, fun v q => by rw [hd] at q; cases q⟩
  keep := fun i h h' st k => by
    obtain ⟨⟨old, he⟩, ⟨o, ho, hr⟩, hne⟩ := st
    exact ⟨⟨old, k e (by simp) _ he⟩, ⟨o, k it (by simp) _ ho, hr⟩, hne⟩
  item := by
    intro X hP hw hK hc i pins s σ H E I hf st hg
    subst hP hw hK
    obtain ⟨⟨old, he⟩, hit, hne⟩ := st
    have hel : e < s.heap.objs.size := Heap.lt_size he
    have hil : it < s.heap.objs.size := by obtain ⟨_, q, _⟩ := hit; exact Heap.lt_size q
    have hh : X.A.in1.handled = none := I.ok.hd hc
    have D : Draws X.prog X.w X.A.in1 it [it] x.cps.size (fun i v => ∃ c u, x.cps[i]? = some c ∧ v = .str ⟨#[c]⟩ u) (fun i h => h.IsStrIter it (strIterType x) x t i) := by
      by_cases q : strIterType x = "str_ascii_iterator"
      · rw [q]; exact Draws.strAscii hh it x t
      · have q2 : strIterType x = "str_iterator" := by
          unfold strIterType at q ⊢
          split at q
          · exact absurd rfl q
          · rename_i h0; rw [if_neg h0]
        rw [q2]; exact Draws.strWide hh it x t
    refine wpAny_pyNext_enum_itemD D he hit hg hne (by simpa using hne) fun u h' tk hP ho hit' hT hsz hk => ?_
    obtain ⟨c, ut, hcx, rfl⟩ := hP
    refine ⟨_, rfl, wpAny_letOwnedTupleGo_enum (s := { s with heap := h', toks := tk + 1 }) ho fun h'' he' sb => ?_⟩
    have hT2 : h''.get? s.heap.objs.size = some { cls := .type "tuple", data := .seq #[.int i tk, .str ⟨#[c]⟩ ut] } := (sb.2 _ (Nat.ne_of_gt hel)).trans hT
    have new : ObjOk X.prog X.w (upd H s.heap.objs.size (.tup [.int (i : Nat), .str ⟨#[c]⟩])) h'' s.heap.objs.size (.tup [.int (i : Nat), .str ⟨#[c]⟩]) :=
      ⟨by show 2 ≤ sizeLine; decide, [.int i tk, .str ⟨#[c]⟩ ut], .cons ⟨_, rfl⟩ (.cons ⟨_, rfl⟩ .nil), ⟨_, hT2, rfl, _, rfl⟩⟩
    have I1 : Inv X pins σ (upd H s.heap.objs.size (.tup [.int (i : Nat), .str ⟨#[c]⟩])) { s with heap := h'', toks := tk + 1 } :=
      I.turnedNew (ch := [e, it]) (fun b ob hb q => (sb.2 b (fun z => hb (by simp [z]))).trans (hk b ob (fun z => hb (by simp [z])) (fun z => hb (by simp [z])) q)) hf (Nat.le_refl _) new
    refine ⟨.ref s.heap.objs.size, _, I1, rfl, ⟨_, c, rfl, I.hok.fresh (Nat.le_refl _), rfl, hcx⟩, ⟨⟨.str ⟨#[c]⟩ ut, ?_⟩, ?_, hne⟩, fun b hb => ?_⟩
    · have e1 : ((i + 1 : Nat) : Int) = (i : Int) + 1 := by omega
      rw [e1]; exact he'
    · obtain ⟨o, ho', hr⟩ := hit'
      exact ⟨o, (sb.2 it (Ne.symm hne)).trans ho', hr⟩
    · have hb' : b < s.heap.objs.size := by
        have e' : b = e ∨ b = it := by simpa using hb
        rcases e' with z | z
        · rw [z]; exact hel
        · rw [z]; exact hil
      rw [upd_ne (Nat.ne_of_lt hb')]
      exact (hf b hb).1
  done := by
    intro X hP hw hK hc i pins s σ H E I hf st hg
    subst hP hw hK
    obtain ⟨⟨old, he⟩, hit, hne⟩ := st
    obtain ⟨f0, f1, f2, f3, f4, f5⟩ := hf it (by simp)
    have hh : X.A.in1.in1.handled = none := I.ok.hd hc
    have hx : x.cps[i]? = none := Array.getElem?_eq_none hg
    have hT : s.TypeIs (.ref e) "enumerate" := ⟨_, he, rfl⟩
    have fin : ∀ h', Heap.ExtBut it s.heap h' → (none : Option Value) = none ∧ Inv X pins σ H { s with heap := h' } := fun h' eb => ⟨rfl, I.turned (t' := s.toks) (fun b o hb q => eb b o hb q) f0 f1 f3 f4 f5⟩
    unfold pyNext
    refine wpAny_bind (wpAny_attempt (wpAny_callSpecial?_slot (name := Str.ofString "__next__") hT F.slot_enumerate_next
      (wpAny_call_entry F.slot_enumerate_next hT F.entry_enumerate_next ?_ (F.args_enumerate_next_1 _))))
    show wpAny _ _ (field (.ref e) 2 >>= _) _ _ _
    refine wpAny_bind (wpAny_field he rfl (x := .ref it) rfl ?_)
    have nx : ∀ (E2 : Value → Shared → Prop) (Q2 : Value → Shared → Prop), (∀ h' e, Heap.ExtBut it s.heap h' → (∃ o, h'.get? e = some o ∧ o.cls = .type "StopIteration") → E2 (.ref e) { s with heap := h' }) →
        wpAny (model X.prog X.w) X.A.in1 (Builtin.SmallTypes.nextOf (.ref it)) Q2 E2 s := by
      intro E2 Q2 hE
      by_cases q : strIterType x = "str_ascii_iterator"
      · rw [q] at hit; exact wpAny_nextOf_ascii_end hh hit hx hE
      · have q2 : strIterType x = "str_iterator" := by
          unfold strIterType at q ⊢
          split at q
          · exact absurd rfl q
          · rename_i h0; rw [if_neg h0]
        rw [q2] at hit; exact wpAny_nextOf_wide_end hh hit hx hE
    refine wpAny_bind (nx _ _ fun h' x he' hx' => ?_)
    obtain ⟨o, ho, hc⟩ := hx'
    refine wpAny_bind (wpAny_isInstance (T := "StopIteration") (b := true) ⟨o, ho, hc⟩ isSubtype_stop ?_)
    exact wpAny_pure (fin _ he')
  self := fun A i s Q E st h => let ⟨⟨_, he⟩, _⟩ := st; wpAny_pyIter_enum he h
def iEnumS (ta : TA) : TI := fun σ H R => ta σ H fun vs H1 => ∃ z : Str, vs = [.str z] ∧ R (Itn z) H1
theorem pi_enumStr {X : Cx} {e : Expr} {ta : TA} {p pos tpos : Pos} {elts : List Expr} {kk : Nat} (hg : Gl X "enumerate") (hm : X.mg "enumerate" = none) (ha : PA X [e] ta) (hs : starEach [e] X.env = [(false, eval e X.env)] := by rfl) :
    PI X (.Tuple elts kk tpos) (.Call (.Name "enumerate" p) [e] [] pos) (iEnumS ta) := by
  refine ⟨fun pins s σ H R I h => ?_⟩
  refine Call_ (ld_blt I hg hm boot_enumerate (PyProof.Rows.callWith_type1 (thn (ha.run pos pins s σ H _ I h) fun us s1 ⟨vs, H1, I1, r1, q1⟩ => ?_) hs rfl))
  obtain ⟨z, ex, q⟩ := q1
  subst ex
  cases r1 with
  | cons r rr =>
    cases rr
    obtain ⟨t, rfl⟩ := r
    refine call_enumerate_str fun h' he hit hsz hk => wpAny_pyIter_enum he ?_
    have I2 : Inv X pins σ H1 { s1 with heap := h' } := I1.kept (t' := s1.toks) hk
    refine ⟨s1.heap.objs.size + 1, [s1.heap.objs.size + 1, s1.heap.objs.size], _, _, H1, rfl, I2, itn_turn z t (s1.heap.objs.size + 1) s1.heap.objs.size, ⟨⟨.none, he⟩, hit, Nat.succ_ne_self _⟩, fun b hb => ?_, q⟩
    have e' : b = s1.heap.objs.size + 1 ∨ b = s1.heap.objs.size := by simpa using hb
    have hle : s1.heap.objs.size ≤ b := by
      rcases e' with z | z
      · rw [z]; exact Nat.le_add_right _ _
      · rw [z]; exact Nat.le_refl _
    exact I1.fpOk hle (I1.hok.fresh hle)
theorem walk_enumStr {z : Str} : Walk (Itn z) z.cps.size (fun _ => True) (fun i H v H' => ∃ T c, v = .ref T ∧ H T = none ∧ H' = upd H T (.tup [.int (i : Nat), .str ⟨#[c]⟩]) ∧ z.cps[i]? = some c) :=
  ⟨fun _ _ hi _ => hi, fun _ _ => Nat.le_refl _, fun _ _ _ _ _ _ y => y⟩
end Sl
/-! ## Q2 -/
set_option Elab.async false
set_option linter.all false
set_option maxRecDepth 100000
set_option maxHeartbeats 4000000
/-! own error classes over any built-in error: their making, super().__init__(text) in it, the first field -/
namespace PySem
namespace Sx
open PySem.W PySem.Calls PyProof.Rows Builtin Builtin.ObjectAttr
/-- a built-in error with what stands above it -/
structure Tl (B newId initId : String) (tl : List Value) : Prop where
  base : ExcBaseFacts B newId initId tl
  pass : ∀ self : Value, refuseLoop self "__setattr__" tl = pure ()
  obj : tl.contains (.type "object") = true
  kf : KxsFacts B initId
abbrev over (rs : List Addr) (tl : List Value) : List Value := rs.map Value.ref ++ tl
theorem over_pass {B newId initId : String} {tl : List Value} (T : Tl B newId initId tl) (self : Value) : ∀ rs : List Addr, refuseLoop self "__setattr__" (over rs tl) = pure ()
  | [] => T.pass self
  | r :: rs => (refuseLoop_ref self "__setattr__" r (over rs tl)).trans (over_pass T self rs)
theorem over_has {tl : List Value} (Z : String) : ∀ rs : List Addr, (over rs tl).contains (.type Z) = tl.contains (.type Z)
  | [] => rfl
  | r :: rs => by
    have ih := over_has (tl := tl) Z rs
    show ((Value.type Z == Value.ref r) || (over rs tl).contains (.type Z)) = _
    rw [ih]
    rfl
section
variable {prog : Program} {w : World} {A : Around} {E : Value → Shared → Prop} {R : Result → Shared → Prop} {hp : Heap} {g : Array GenState} {d : Drawn} {t : Nat} {os : OsState} {B newId initId : String} {tl : List Value}
/-- the first field of such an error: it gets its dict -/
theorem osa_first {K : W.Frag} {name : Str} {tk : Tok} {v : Value} {x C : Addr} {fv : Array Value} {cd : ClassData} {rs : List Addr} (T : Tl B newId initId tl) (X : K.In hp) (hx : hp.get? x = some { cls := .ref C, data := .fields fv })
    (hcd : W.clsIn K C = some cd) (hm : cd.mro = over rs tl) (hh : cd.hasDict = true) (ha : W.findIn K (.ref C) name = some none)
    (hq : ∀ h' tk' dx, (∀ b o, b ≠ x → hp.get? b = some o → h'.get? b = some o) → hp.objs.size ≤ dx → dx ≠ x → h'.get? x = some { cls := .ref C, dict := some dx, data := .fields fv } →
      h'.Ns1 dx (fun y => if y = name then some v else none) → R (.ok (.ret .none)) ⟨h', g, d, tk', os⟩) :
    codeAny (model prog w) A (.call (.builtin "object.__setattr__") ⟨[.ref x, .str name tk, v], []⟩) R ⟨hp, g, d, t, os⟩ := by
  have inst : W.InstAt hp x { cls := .ref C, data := .fields fv } C none := ⟨hx, rfl, rfl, trivial⟩
  have mroC : W.mroIn K C (.type "object") = some true := by
    have ho : (over rs tl).contains (.type "object") = true := (over_has "object" rs).trans T.obj
    unfold W.mroIn
    rw [hcd, Option.bind_some, hm, ho]
    cases e : (over rs tl) with
    | nil => rw [e] at ho; cases ho
    | cons _ _ => rfl
  have st := F.store_object
  refine codeAny_call_builtin st.slot.plain st.entry (@W.check_slot (model prog w) _ _ ⟨hp, g, d, t, os⟩ "object.__setattr__" "object" "__setattr__" (.ref x) [.str name tk, v] [] _ st.kind st.split (inst.type.andThen (W.looks_mroIn X mroC)) (st.args (.ref x) (.str name tk) v) ?_)
  have lm : W.Looks (model prog w) hp (mroOf (.ref C)) cd.mro := (W.looks_clsIn X hcd).andThen .now
  have lt : W.Looks (model prog w) hp (storeTaker? none) none := .now
  have lc : W.Looks (model prog w) hp (classData C) cd := W.looks_clsIn X hcd
  rw [W.osa_eq, refuse_eq]
  refine wpAny_bind (wpAny_bind (inst.type.at (wpAny_bind (lm.at ?_))))
  rw [hm, over_pass T]
  refine wpAny_pure (wpAny_bind (inst.type.at (wpAny_bind ((W.looks_findIn X ha).at (wpAny_bind (lt.at ?_))))))
  show wpAny _ _ (storeInOwnDict (.ref x) (.ref C) (.str name tk) name v false) _ _ _
  have apart : hp.objs.size ≠ x := Nat.ne_of_gt (Heap.lt_size hx)
  obtain ⟨nm, bs, mro, ns, qn, hd, sn, sb, ab, col, del⟩ := cd
  dsimp only at hh
  subst hh
  unfold storeInOwnDict ownDictForStores
  repeat (first | with_reducible refine HandSPX.store_in_new ?_ ?_ | with_reducible refine wpAny_loadPart_at hx ?_ | with_reducible refine lc.at ?_ | wp_step)
  · exact ⟨_, #[], _, (Heap.get?_update_ne _ _ _ _ apart).trans (Heap.get?_push_at rfl rfl), rfl, fun e he => absurd he (by simp), fun _ => rfl⟩
  · intro h' tk' hn same
    have there : (hp.push { cls := .type "dict", data := .dict #[] }).get? x = some { cls := .ref C, data := .fields fv } := Heap.get?_push_of_some _ hx
    refine hq h' tk' hp.objs.size (fun b o nb ob => ?_) (Nat.le_refl _) apart ?_ hn
    · rw [same.2 b (Nat.ne_of_lt (Heap.lt_size ob)), Heap.get?_update_ne _ _ _ _ nb]
      exact Heap.get?_push_of_some _ ob
    · rw [same.2 x apart.symm]
      exact Heap.get?_update_self _ there rfl
end
end Sx
end PySem
/-! ## Q3 -/
set_option Elab.async false
set_option linter.all false
set_option maxRecDepth 100000
set_option maxHeartbeats 4000000
namespace Sl
open PySem PySem.Spec PyProof.Rows L2
/-- what the written part must say of an own error class over a built-in one -/
structure OneC (K : PySem.W.Frag) (C : Addr) (newId : String) (tl : List Value) : Prop where
  cls : ∃ nm q N bs rs sn sub ab col dd k0 k1 k2 k3 k5, K.lookup C = some (excClassObj nm q C N bs (PySem.Sx.over rs tl) true sn sub ab col dd k0 k1 k2 k3 k5 newId)
  sa : PySem.W.findIn K (.ref C) "__setattr__" = some (some (.builtin "object.__setattr__"))
  exC : PySem.W.subIn K (.ref C) (.type "BaseException") = some true
  tyC : PySem.W.typeIn K (.ref C) = some (.type "type")
  kC : PySem.W.keepIn K (.ref C) = true
theorem cls_of {K : PySem.W.Frag} {nm q : Str} {C N : Addr} {bs bm : List Value} {hd : Bool} {sn : List Str} {sub : List Value} {ab : Bool} {col : Option Bool} {dd : Option Addr} {k0 k1 k2 k3 k5 : Option Value} {newId : String}
    (h : K.lookup C = some (excClassObj nm q C N bs bm hd sn sub ab col dd k0 k1 k2 k3 k5 newId)) :
    PySem.W.clsIn K C = some { name := nm, bases := bs, mro := .ref C :: bm, ns := N, qualname := q, hasDict := hd, slotNames := sn, subclasses := sub, abstract := ab, collection := col, hasDel := false } := by
  unfold PySem.W.clsIn
  rw [h] <;> rfl
section
variable {X : Cx} {pins : List (Addr × Obj)} {σ : L2.St} {H : Hp} {s : Shared} {a C : Addr} {f : Str} {y : V} {u : Value} {Q : Unit → Shared → Prop} {E : Value → Shared → Prop} {A : Around} {B newId initId : String} {tl : List Value}
/-- self.f = y, the first one -/
theorem first_field (T : PySem.Sx.Tl B newId initId tl) (O : OneC X.K C newId tl) (I : L2.Inv X pins σ H s) (e : H a = some (exo a C none)) (hno : PySem.W.findIn X.K (.ref C) f = some none) (ry : L2.RelV y u)
    (h : ∀ dx s', H dx = none → dx ≠ a → L2.Inv X pins σ (upd (upd H dx (exd dx [(f, y)])) a (exo a C (some dx))) s' → Q () s') : wpAny (model X.prog X.w) A (setAttr (.ref a) f u) Q E s := by
  obtain ⟨nm, q, N, bs, rs, sn, sub, ab, col, dd, k0, k1, k2, k3, k5, hC⟩ := O.cls
  obtain ⟨t1, ho⟩ := exo_at I.hok e
  obtain ⟨hp, g, d, t, os⟩ := s
  refine PySem.W.set_plain I.kIn (ox := { cls := .ref C, dict := none, data := .fields #[.ref t1, .none, .none, .none, .bool false, .none] }) (od := none) ⟨ho, rfl, rfl, trivial⟩ O.sa ?_
  refine PySem.Sx.osa_first (rs := C :: rs) T I.kIn ho (cls_of hC) rfl rfl hno (fun h' tk' dx same new ne hx hn => ?_)
  have free : H dx = none := I.hok.fresh new
  have old : ∀ {b : Addr} {o : Obj}, hp.get? b = some o → b ≠ dx := fun {b o} z => Nat.ne_of_lt (Nat.lt_of_lt_of_le (Heap.lt_size z) new)
  have bare : ∀ {b : Addr}, H b = none → b ≠ a := fun {b} n z => by
    rw [z, e] at n
    cases n
  have else_ : ∀ {b : Addr} {o : HO}, H b = some o → (b = a → exo a C none = o) → (exo a C none ≠ o) → (upd (upd H dx (exd dx [(f, y)])) a (exo a C (some dx))) b = some o := fun {b o} z w n => by
    rw [upd_ne (fun k => n (w k)), upd_ne (ne_of_none z free)]
    exact z
  have same_a : ∀ {b : Addr} {o : HO}, H b = some o → b = a → exo a C none = o := fun {b o} z k => by
    rw [k, e] at z
    exact Option.some.inj z
  have un : Un X.fs [] H (upd (upd H dx (exd dx [(f, y)])) a (exo a C (some dx))) hp h' := by
    constructor
    · exact fun b o z n _ _ => same b o (bare n) z
    · exact fun b o z n _ _ => ⟨o.slots, same b o (bare n) z⟩
    · intro b o z n _
      rw [upd_ne (bare n), upd_ne (old z)]
      exact n
    · intro b o z _
      by_cases c : b = a
      · exact ⟨_, by rw [c]; exact hx⟩
      · exact ⟨o, same b o c z⟩
    · exact fun b xs z => else_ z (same_a z) exo_tup
    · exact fun b o v z => else_ z (same_a z) exo_frz
    · exact fun b ps z => ⟨#[], by rw [else_ z (same_a z) exo_tbl]; simp⟩
  refine h dx _ free ne (I.un (t' := tk') un fun b o z => ?_)
  by_cases c1 : b = a
  · subst c1
    rw [upd_same] at z
    cases z
    exact exo_ok hx
  rw [upd_ne c1] at z
  by_cases c2 : b = dx
  · subst c2
    rw [upd_same] at z
    cases z
    exact exd_ok hn (relO_put (fs := []) ry fun _ => True.intro)
  rw [upd_ne c2] at z
  refine (I.hok b o z).stay (fun c v hc w => same c v (fun k => ?_) w) (fun c hc => else_ hc (same_a hc) exo_own) (fun c xs hc => else_ hc (same_a hc) exo_tup)
  rcases hc with hc | hc
  · exact c1 (by rw [← hc]; exact k)
  · exact exo_own (same_a hc k)
end
end Sl
/-! ## Q4 -/
set_option Elab.async false
set_option linter.all false
set_option maxRecDepth 100000
set_option maxHeartbeats 4000000
namespace PySem
namespace Sx
open PySem.W PySem.Calls PyProof.Rows
section
variable {prog : Program} {w : World} {A : Around} {E : Value → Shared → Prop} {hp : Heap} {g : Array GenState} {d : Drawn} {t : Nat} {os : OsState} {B newId initId : String} {tl bm : List Value}
variable {nm q : Str} {C N : Addr} {bs : List Value} {hdct : Bool} {sn : List Str} {sub : List Value} {ab : Bool} {col : Option Bool} {dd : Option Addr} {k0 k1 k2 k3 k5 : Option Value}
/-- the bound built-in __init__ called: the error's arguments are laid anew -/
theorem bound_init {u e t0 : Addr} {rest : List Value} {Q : Value → Shared → Prop} (FB : ExcBaseFacts B newId initId tl) (hC : hp.get? C = some (excClassObj nm q C N bs bm hdct sn sub ab col dd k0 k1 k2 k3 k5 newId))
    (he : hp.get? e = some (excObj C t0 none .none)) (hu : hp.get? u = some (kxs_mw initId e)) (hz : rest.length ≤ sizeLine)
    (hq : ∀ h' t1, (∀ b o, b ≠ e → hp.get? b = some o → h'.get? b = some o) → h'.get? e = some (excObj C t1 none .none) → Q .none ⟨h', g, d, t, os⟩) :
    wpAny (model prog w) A (call (.ref u) rest) Q E ⟨hp, g, d, t, os⟩ := by
  refine wpAny_call (codeAny_of_tree ?_)
  show wpAny _ A.in1 (callAny (.ref u) ⟨rest, []⟩) _ _ _
  simp only [callAny]
  refine wpAny_bind (wpAny_load hu ?_)
  simp only [kxs_mw, show (Value.type "method-wrapper" == Value.type "method" || Value.type "method-wrapper" == Value.type "builtin_function_or_method" || Value.type "method-wrapper" == Value.type "method-wrapper") = true by decide, if_true]
  refine KFB.if_so (by decide) (wpAny_bind (check_bound_init FB.toExcCallFacts hC he rfl (wpAny_bind (wpAny_pure (wpAny_pure ?_)))))
  exact ⟨plainId_quiet FB.init.plain _, codeAny_builtin FB.initEntry (exc_init_tree (cls := .ref C) (t0 := t0) (dv := none) (c2 := .none) (c3 := .none) (b4 := .bool false) he hz fun h' k e' _ => hq h' _ k e')⟩
end
end Sx
end PySem
namespace Sl
open PySem PySem.Spec PyProof.Rows L2 NdefX
/-- an own error's __init__ whose first row is super().__init__(text): where it stands -/
structure SupFn (P : Program) (K : PySem.W.Frag) (C f cda cc : Addr) (name qual : Str) (params : Arguments) (body : List Stmt) (scope : Scope) (fd : FuncData) : Prop where
  fn : ∃ oc od dV kV doc pm an ct osl, fd = PySem.W.fnX name qual params body scope [("__class__", cc)] dV kV doc pm an (.ref cda) ct ∧ K.lookup f = some ⟨oc, od, .func fd, osl⟩
  co : PySem.W.codeIn K (.ref cda) qual = true
  code : ∃ ccl cdd vs ccs file tf, K.lookup cda = some ⟨ccl, cdd, .fields vs, ccs⟩ ∧ vs[2]? = some (.str file tf) ∧ ((P.main.file : Str) == file) = true
  cell : ∃ cl cld csl, K.lookup cc = some ⟨cl, cld, .cell (some (.ref C)), csl⟩
  any_ : PySem.W.nsIn K cStatics "thirdparty.any" = some none
  top : (P.main.scope.names.lookup ("super" : Str)).isSome = false
section
variable {P : Program} {w : World} {K : PySem.W.Frag} {mg : Str → Option Value} {base : Heap} {CX : CXT} {B newId initId : String} {tl : List Value} {C f cda cc : Addr} {name qual txt : Str} {params : Arguments} {rest : List Stmt} {scope : Scope} {fd : FuncData} {N ps : List Str} {k : Nat} {sp : Sp}
abbrev NFof (name qual : Str) (params : Arguments) (body : List Stmt) (scope : Scope) (cda cc : Addr) : NF := ⟨name, qual, params, body, scope, [("__class__", cc)], cda⟩
theorem ok_super {p0 p1 p2 p3 p4 p5 : Pos} {j : Nat} {ar : Arg} (T : PySem.Sx.Tl B newId initId tl) (O : OneC K C newId tl)
    (F : SupFn P K C f cda cc name qual params (.Expr (.Call (.Attribute (.Call (.Name "super" p0) [] [] p1) "__init__" p2) [.Constant (.str txt) j p3] [] p4) p5 :: rest) scope fd)
    (S : NScope N ps ["__class__"] scope) (hp : (params.posonlyargs ++ params.args).head? = some ar) (h0 : ps[0]? = some ar.arg) (hks : scope.names.lookup ("super" : Str) = some .globalImplicit)
    (zs : mg "super" = none) (hsup : PySem.W.ks_superIn K C C "__init__" = some (some (.builtin initId))) (hB : PySem.W.subIn K (.ref C) (.type B) = some true)
    (len : ∀ vs H Q E, sp vs H Q E → vs.length = ps.length) (pl : Env → Sem Bool) (hsw : ∀ env : Env, swapsWith (.Call (.Attribute (.Call (.Name "super" p0) [] [] p1) "__init__" p2) [.Constant (.str txt) j p3] [] p4) none p5.line env = pure false)
    (hev : ∀ env : Env, eval (.Call (.Attribute (.Call (.Name "super" p0) [] [] p1) "__init__" p2) [.Constant (.str txt) j p3] [] p4) env = (attributeBase (.Call (.Name "super" p0) [] [] p1) "__init__" env (eval (.Call (.Name "super" p0) [] [] p1) env) >>= fun ov => standAt p2.atName >>= fun _ =>
      holding [ov] (getMethod ov "__init__" (pl env)) >>= fun fx => callWith p4 fx.1 fx.2 (backTo p4 (starEach [.Constant (.str txt) j p3] env)) []))
    (hbody : ∀ (A : Around) (outer : List Env) (s : Shared) (H : Hp) (vs : List V) (Q : VK) (E : XK), sp vs H Q E →
      (∃ a, vs[0]? = some (.ref a) ∧ H a = some (exo a C none)) ∧ ∃ t, PSs (ncx CX P w K mg base N (NFof name qual params (.Expr (.Call (.Attribute (.Call (.Name "super" p0) [] [] p1) "__init__" p2) [.Constant (.str txt) j p3] [] p4) p5 :: rest) scope cda cc) f A outer s H E) rest t ∧ t { nx := fun _ H' => Q .non H', rt := Q } (startF N vs [none]) H) :
    FnOk P w K mg base CX (k + 1) f fd ps sp := by
  refine ⟨len, fun A outer s H args us vs Q E hr e0 hb r hsp => ?_⟩
  have hl := len _ _ _ _ hsp
  obtain ⟨⟨a, va, ea⟩, t, ht, hq⟩ := hbody A outer s H vs Q E hsp
  obtain ⟨oc, od, dV, kV, doc, pm, an, ct, osl, rfl, lk⟩ := F.fn
  obtain ⟨ccl, cdd, cvs, ccs, file, tf, lc, lc2, lfile⟩ := F.code
  obtain ⟨cl, cld, csl, lcell⟩ := F.cell
  have kin : K.In s.heap := e0.mod.kin.keeps fun b o e => (e0.bs b o e).1
  have lim : s.heap.NoLimit := e0.mod.nolimit.keeps fun b o e => (e0.bs b o e).1
  have cells : CellsAt [(("__class__" : Str), cc)] ["__class__"] [none] s.heap H := by
    have hit : ∀ {y : Str} {c : Addr}, List.lookup y [(("__class__" : Str), cc)] = some c → y = "__class__" ∧ c = cc := fun {y c} e => by
      by_cases q : y = "__class__"
      · rw [q] at e
        exact ⟨q, by injection e with e; exact e.symm⟩
      · exfalso
        have hy : (y == ("__class__" : Str)) = false := by simpa using q
        simp only [List.lookup, hy] at e
        cases e
    refine ⟨rfl, fun y c e => ?_, fun x y c e1 e2 => (hit e1).1.trans (hit e2).1.symm, fun i y e => ?_⟩
    · rw [(hit e).2]
      exact ⟨(e0.bs _ _ (e0.mod.kin _ _ lcell)).2, _, _, kin _ _ lcell, rfl⟩
    · refine ⟨cc, ?_, fun v z => ?_⟩
      · cases i with
        | zero => cases e; rfl
        | succ i => cases i <;> cases e
      · cases i with
        | zero => cases z
        | succ i => cases i <;> cases z
  refine ks_codeAny_call_defAt hr.depth (kin _ _ lk) rfl lim (PySem.W.codeRec_of kin F.co) rfl hb S.nocell (fun ⟨n, _⟩ hy => S.par n (List.of_mem_zip hy).1) (fun h₀ hns kp => ?_) S.co S.gen S.kind
  have I : L2.Inv (ncx CX P w K mg base N (NFof name qual params (.Expr (.Call (.Attribute (.Call (.Name "super" p0) [] [] p1) "__init__" p2) [.Constant (.str txt) j p3] [] p4) p5 :: rest) scope cda cc) f A outer s H E) [] (startF N vs [none]) H { s with heap := h₀, toks := s.toks + (ps.zip us).length } := inv_startN S hr.hd e0 hl r cells hns kp
  have kin0 : K.In h₀ := kin.keeps kp
  obtain ⟨nm, q, Nn, bs, rs, sn, sub, ab, col, dd, k0, k1, k2, k3, k5, hC⟩ := O.cls
  have hcl := cls_of hC
  obtain ⟨t1, ho⟩ := exo_at I.hok ea
  have naC : a ≠ C := fun e => by
    have z := (e0.bs _ _ (e0.mod.kin _ _ hC)).2
    rw [← e, ea] at z
    cases z
  have mroC : PySem.W.mroIn K C (.ref C) = some true := by
    unfold PySem.W.mroIn
    rw [hcl, Option.bind_some]
    show (if ((Value.ref C :: PySem.Sx.over rs tl).isEmpty) = true then none else some ((Value.ref C :: PySem.Sx.over rs tl).contains (.ref C))) = _
    rw [List.contains_cons]
    simp
  have ndP : ps.Nodup := by
    have z := S.nd.sublist (List.take_sublist (ps.length + 1) N)
    rw [show ps.length + 1 = ps.length + (["__class__"] : List Str).length from rfl, S.pre] at z
    exact (List.nodup_append.mp z).1
  obtain ⟨ua, hua, rua⟩ := r.get va
  obtain rfl : ua = Value.ref a := rua
  have selfv := zip_look ndP h0 hua
  obtain ⟨mb, b1, b2⟩ := I.ok.mod.blt
  have hkc : scope.names.lookup ("__class__" : Str) = some .free := S.frk _ List.mem_cons_self
  have hka : scope.names.lookup ar.arg = some .local := S.par _ (List.mem_of_getElem? h0)
  show _root_.PySem.wpAt (model P w) (ncx CX P w K mg base N (NFof name qual params (.Expr (.Call (.Attribute (.Call (.Name "super" p0) [] [] p1) "__init__" p2) [.Constant (.str txt) j p3] [] p4) p5 :: rest) scope cda cc) f A outer s H E).A _ (execs _ (envF (NFof name qual params (.Expr (.Call (.Attribute (.Call (.Name "super" p0) [] [] p1) "__init__" p2) [.Constant (.str txt) j p3] [] p4) p5 :: rest) scope cda cc) f s.heap.objs.size)) _ _ _
  refine ks_wpAt_execs_cons (ks_wpAt_Expr_any (hi := I.quiet) (hs := hsw _) (ks_wpAt_MethodCall (he := hev _) (ks_wpAt_super_base hks hkc rfl rfl (kin0 _ _ lk) rfl hp rfl (kin0 _ _ lc) rfl lc2 lfile F.top ?_)))
  refine PySem.W.ks_loadName_global S.kind hks (Calls.loadGlobal_builtin (I.ok.mod.glob.keeps I.bk) zs (b1.keeps I.bk) ((b2 _ (by decide)).trans (by decide +kernel)) ⟨rfl, ?_⟩)
  refine wpAny_loadName_free S.kind hkc rfl ⟨_, kin0 _ _ lcell, rfl⟩ ?_
  refine wpAny_loadName_local S.kind hka hns selfv ?_
  refine ks_wpAny_isType_cls (kin0 _ _ hC) rfl ⟨rfl, ?_⟩
  refine ks_wpAny_call_super (kin0 _ _ hC) rfl ho rfl (fun c e => by cases e) (PySem.W.looks_mroIn kin0 mroC) (fun h1 so k1' => ?_)
  have I1 := I.kept (t' := s.toks + (ps.zip us).length) k1'
  have kin1 : K.In h1 := kin0.keeps k1'
  have ho1 := k1' _ _ ho
  have fp := I1.fpOk (Nat.le_refl _) (I1.hok.fresh (Nat.le_refl _))
  obtain ⟨f1, f2, f3, _, _, _⟩ := fp
  have inst : PySem.W.InstAt h1 a _ C none := ⟨ho1, rfl, rfl, trivial⟩
  have along := hsup
  unfold PySem.W.ks_superIn at along
  rw [hcl] at along
  refine PySem.W.kxs_getMethod T.kf so (PySem.W.looks_opaque kin1 F.any_) ((PySem.W.looks_clsIn kin1 hcl).andThen .now) rfl kin1 along (inst.type.andThen (PySem.W.looks_subIn kin1 hB)) naC rfl ?_
  have up2 : ∀ b o, h1.get? b = some o → (h1.push (PySem.W.kxs_mw initId a)).get? b = some o := fun b o e => Heap.get?_push_of_some _ e
  have I2 := I1.kept (t' := s.toks + (ps.zip us).length + 1) up2
  have I3 := I2.pins_of (pins' := [(h1.objs.size, PySem.W.kxs_mw initId a)]) fun p hp => by
    rw [List.mem_singleton.mp hp]
    exact ⟨Heap.get?_push_at rfl rfl, f1, f2, f3, fun v e => nomatch e⟩
  have pa : PA (ncx CX P w K mg base N (NFof name qual params (.Expr (.Call (.Attribute (.Call (.Name "super" p0) [] [] p1) "__init__" p2) [.Constant (.str txt) j p3] [] p4) p5 :: rest) scope cda cc) f A outer s H E) [.Constant (.str txt) j p3] (tCons (tC (.str txt)) tNil) := pa_cons pe_str pa_nil
  refine PySem.W.kxs_callWith (i := initId) (x := a) rfl ?_
  refine Calls.evalArgs_plain ?_
  refine thn (pa.run p4 _ _ _ H (fun vs H1 => vs = [V.str txt] ∧ H = H1) I3 ⟨rfl, rfl⟩) fun us1 s1 hh => ?_
  obtain ⟨vs1, H1, J, r1, ev, eH⟩ := hh
  subst ev
  subst eH
  cases r1 with
  | cons ru rn =>
    cases rn
    obtain ⟨hmw, _⟩ := J.pin _ (List.mem_append_right _ List.mem_cons_self)
    obtain ⟨t2, ho2⟩ := exo_at J.hok ea
    refine ⟨hmw, ?_⟩
    obtain ⟨hp, g, d, t', os⟩ := s1
    refine PySem.Sx.bound_init T.base (J.kIn _ _ hC) ho2 hmw (by show 1 ≤ sizeLine; decide) fun h' t3 k3 e3 => ?_
    have L := (J.pins_of (pins' := []) fun p hp => nomatch hp).write (t' := t') (x := a) (e := a) (o := exo a C none) (by rw [ea]; exact True.intro) (.inl rfl) k3 ⟨_, e3⟩ (exo_ok e3)
    have eu : upd H a (exo a C none) = H := by
      funext b
      by_cases hb : b = a
      · rw [hb, upd_same, ea]
      · rw [upd_ne hb]
    rw [eu] at L
    refine wpAt_of_wpAny (wpAny_mono (ht.run [] _ (startF N vs [none]) H _ L hq) (fun fl s' hs => ?_) fun e s' hs => hs)
    have fin : ∀ {σ' : L2.St} {H' : Hp} {v : V} {u : Value}, L2.Inv (ncx CX P w K mg base N (NFof name qual params (.Expr (.Call (.Attribute (.Call (.Name "super" p0) [] [] p1) "__init__" p2) [.Constant (.str txt) j p3] [] p4) p5 :: rest) scope cda cc) f A outer s H E) [] σ' H' s' → L2.RelV v u → Q v H' → CE outer P w H s Q u s' :=
      fun {σ' H' v u} M rv q => ⟨v, H', M.os, M.bare, M.base, M.hok, rv, q⟩
    cases fl with
    | ret u =>
      obtain ⟨v, σ', H', M, rv, q⟩ := hs
      exact fin M rv q
    | next =>
      obtain ⟨σ', H', M, q⟩ := hs
      exact fin (v := V.non) (u := Value.none) M rfl q
    | brk =>
      obtain ⟨_, _, _, q⟩ := hs
      exact q.elim
    | cont =>
      obtain ⟨_, _, _, q⟩ := hs
      exact q.elim
end
end Sl
/-! ## Q5 -/
set_option Elab.async false
set_option linter.all false
set_option maxRecDepth 100000
set_option maxHeartbeats 4000000
namespace Sl
open PySem PySem.Spec PyProof.Rows L2 NdefX
/-- self.f = e on an own error, the first field -/
def tFirst (K : PySem.W.Frag) (C : Addr) (f : Str) (to te : TE) : TS := fun D σ H => te σ H fun y H1 => to σ H1 fun x H2 => ∃ a : Addr, x = .ref a ∧ H2 a = some (exo a C none) ∧ PySem.W.findIn K (.ref C) f = some none ∧
  ∀ dx, H2 dx = none → dx ≠ a → D.nx σ (upd (upd H2 dx (exd dx [(f, y)])) a (exo a C (some dx)))
/-- C(e), C's own __init__ of one parameter that lays it in the field f -/
def tOne (C : Addr) (f : Str) (ta : TA) : L2.St → Hp → XK → Prop := fun σ H Q => ta σ H fun vs H1 => ∃ y : V, vs = [y] ∧ ∀ d, H1 d = none → Q (.ref C) (some d) (upd H1 d (.xd [(f, y)]))
/-- what such an __init__ promises -/
def spInit1 (C : Addr) (f : Str) : Sp := fun vs H Q _ => ∃ (a : Addr) (y : V), vs = [.ref a, y] ∧ H a = some (exo a C none) ∧ ∀ dx, H dx = none → dx ≠ a → Q .non (upd (upd H dx (exd dx [(f, y)])) a (exo a C (some dx)))
section
variable {X : Cx} {o e : Expr} {to te : TE} {ta : TA} {f : Str} {p p' pos : Pos} {C : Addr} {B newId initId : String} {tl : List Value}
theorem ps_first (T : PySem.Sx.Tl B newId initId tl) (O : OneC X.K C newId tl) (ho : PE X o to) (he : PE X e te) (hs : swapsWith e (some (.Attribute o f p')) pos.line X.env = pure false := by rfl) : PS X (.Assign [.Attribute o f p'] e pos) (tFirst X.K C f to te) := by
  refine ⟨fun pins s σ H D I h => ?_⟩
  refine plainObj_wpAny_Assign_Attribute (thn (he.run pins s σ H _ I h) fun v s1 ⟨y, H1, I1, r1, q1⟩ => thn (ho.run pins s1 σ H1 _ I1 q1) fun u s2 ⟨x, H2, I2, r2, a, ex, ea, hno, q⟩ => ?_) hs
  subst ex
  obtain rfl : u = Value.ref a := r2
  exact first_field T O I2 ea hno r1 fun dx s' n ne J => ⟨σ, _, J, q dx n ne⟩
theorem pmk_one {CX : CXT} {x : Str} {fI : Addr} {k : Nat} {fd : FuncData} {ps : List Str} (T : PySem.Sx.Tl B newId initId tl) (O : OneC X.K C newId tl) (iC : PySem.W.findIn X.K (.ref C) "__init__" = some (some (.ref fI))) (tI : PySem.W.typeIn X.K (.ref fI) = some (.type "function"))
    (G : FnOk X.prog X.w X.K X.mg X.base CX k fI fd ps (spInit1 C f)) (hr : Room (k + 1) X.A) (hb : Binds X.K fd ps []) (hx : Passes CX X (fun _ _ _ => False)) (hg : Gl X x) (hm : X.mg x = some (.ref C)) (ha : PA X [e] ta)
    (hdb : (x == ("__debug__" : Str)) = false := by decide) (he : starEach [e] X.env = (false, eval e X.env) :: starEach [] X.env := by rfl) (hpl : (backTo pos (starEach [] X.env)).any (·.1) = false := by rfl) :
    PMk X (.Call (.Name x p) [e] [] pos) (tOne C f ta) := by
  intro pins s σ H Q I h
  obtain ⟨nm, q, N, bs, rs, sn, sub, ab, col, dd, k0, k1, k2, k3, k5, hC⟩ := O.cls
  refine wpAny_Call_Name_kw (ld_glob I hg hm ?_ hdb)
  refine PySem.W.callWith_K (h₀ := X.base) I.ok.mod.kin O.kC (thn (ha.run pos pins s σ H _ I h) fun us s1 ⟨vs, H1, I1, r1, y, ev, q1⟩ => ⟨I1.kIn, ?_⟩) he hpl
  subst ev
  show wpAny _ _ (call (.ref C) us) _ _ _
  obtain ⟨hp, g, dr, tk, os⟩ := s1
  have after : hp.objs.size ≤ hp.objs.size + 1 := Nat.le_succ _
  have fresh : H1 (hp.objs.size + 1) = none := I1.hok.fresh after
  have up : ∀ b o, hp.get? b = some o → ((hp.push (PySem.W.kdv_tup us)).push (PySem.HandSPX.excO C hp.objs.size)).get? b = some o := fun b o z => Heap.get?_push_of_some _ (Heap.get?_push_of_some _ z)
  have made : ((hp.push (PySem.W.kdv_tup us)).push (PySem.HandSPX.excO C hp.objs.size)).get? (hp.objs.size + 1) = some (PySem.HandSPX.excO C hp.objs.size) := by heap_get
  have I2 : L2.Inv X pins σ (upd H1 (hp.objs.size + 1) (exo (hp.objs.size + 1) C none)) ⟨(hp.push (PySem.W.kdv_tup us)).push (PySem.HandSPX.excO C hp.objs.size), g, dr, tk, os⟩ :=
    I1.laid (t' := tk) (a := hp.objs.size + 1) (o := exo (hp.objs.size + 1) C none) (h' := (hp.push (PySem.W.kdv_tup us)).push (PySem.HandSPX.excO C hp.objs.size)) up after (exo_ok made)
  have r2 : Vals [V.ref (hp.objs.size + 1), y] (Value.ref (hp.objs.size + 1) :: us) := .cons rfl r1
  have us1 : us.length = 1 := (Paired.length r1).symm
  have hsp : spInit1 C f [V.ref (hp.objs.size + 1), y] (upd H1 (hp.objs.size + 1) (exo (hp.objs.size + 1) C none)) (fun v H2 => v = .non ∧ ∃ d, H1 d = none ∧ H2 (hp.objs.size + 1) = some (exo (hp.objs.size + 1) C (some d)) ∧ H2 d = some (exd d [(f, y)]) ∧ Q (.ref C) (some d) (upd (del H2 (hp.objs.size + 1)) d (.xd [(f, y)]))) (fun _ _ _ => False) := by
    refine ⟨_, y, rfl, upd_same, fun dx n ne => ⟨rfl, dx, ?_, upd_same, ?_, ?_⟩⟩
    · rw [upd_ne ne] at n
      exact n
    · rw [upd_ne ne, upd_same]
    · have n1 : H1 dx = none := by
        rw [upd_ne ne] at n
        exact n
      have eq : upd (del (upd (upd (upd H1 (hp.objs.size + 1) (exo (hp.objs.size + 1) C none)) dx (exd dx [(f, y)])) (hp.objs.size + 1) (exo (hp.objs.size + 1) C (some dx))) (hp.objs.size + 1)) dx (.xd [(f, y)]) = upd H1 dx (.xd [(f, y)]) := by
        funext b
        by_cases c : b = dx
        · rw [c, upd_same, upd_same]
        · rw [upd_ne c, upd_ne c]
          by_cases c2 : b = hp.objs.size + 1
          · rw [c2, del_same, fresh]
          · rw [del_ne c2, upd_ne c2, upd_ne c, upd_ne c2]
      rw [eq]
      exact q1 dx n1
  have hl : (Value.ref (hp.objs.size + 1) :: us).length = ps.length := by
    rw [← G.len _ _ _ _ hsp, List.length_cons, us1]
    rfl
  have hbi := hb _ (Value.ref (hp.objs.size + 1) :: us) I2.kIn (by rw [List.append_nil]; exact hl)
  rw [List.append_nil] at hbi
  refine wpAny_call (PySem.HandSPX.call_own T.base (fun Y => PySem.Sx.over_has Y rs) (I1.kIn _ _ hC) (PySem.W.looks_findIn I1.kIn iC) (fun self => PySem.W.bind_fn I1.kIn self tI) (by rw [us1]; decide)
    (codeAny_mono (G.run _ X.stack _ _ ⟨Value.ref (hp.objs.size + 1) :: us, []⟩ (Value.ref (hp.objs.size + 1) :: us) _ _ (fun _ _ _ => False) (hr.make C us []) (I2.env0.make C us []) hbi r2 hsp) fun r s' hq' => ?_))
  cases r with
  | error er => exact hx pins σ _ _ er s' I2 hq'
  | ok fl =>
    cases fl with
    | ret u =>
      obtain ⟨v, H2, os2, bare2, un2, hok2, rv, ev, d, hd1, ea, ed, q2⟩ := hq'
      subst ev
      obtain ⟨h2, g2, d2, t2, os'⟩ := s'
      exact ⟨rv, mk_end (raises_own O.exC O.tyC) I1 after up un2 hok2 os2 bare2 ea ed hd1 q2⟩
    | next => exact hq'.elim
    | brk => exact hq'.elim
    | cont => exact hq'.elim
end
end Sl
/-! ## Q6 -/
set_option Elab.async false
set_option linter.all false
set_option maxRecDepth 100000
set_option maxHeartbeats 4000000
/-! try: body, then several clauses 'except x as n', one name n for all -/
namespace Sl
open PySem PySem.Spec PyProof.Rows L2
abbrev Cl := Value × (Addr → Value → Option Addr → TS)
/-- behind a suite its name is gone -/
abbrev ungone (i : Nat) (D : Ends) : Ends := { nx := fun σ H => D.nx (σ.set i none) H, rt := D.rt, bk := fun σ H => D.bk (σ.set i none) H, ct := fun σ H => D.ct (σ.set i none) H }
def wAsL (K : PySem.W.Frag) (i : Nat) (Wout : WX) (D : Ends) : List Cl → WX
  | [] => Wout
  | p :: r => fun cls d σ H => ∃ b, PySem.W.exmOne K cls p.1 = some b ∧ if b = true then ∀ a, H a = none → p.2 a cls d (ungone i D) (σ.set i (some (.ref a))) H else wAsL K i Wout D r cls d σ H
inductive AsOk (X : Cx) (n : Str) : List ExceptHandler → List Cl → Prop
  | nil : AsOk X n [] []
  | cons {x : Str} {p : Cl} {b₀ : Stmt} {suite : List Stmt} {np pos' : Pos} {hds : List ExceptHandler} {l : List Cl} (hc : Names X x p.1)
      (hsu : ∀ (a : Addr) (oe : Obj) (cls : Value) (d : Option Addr) (pn : List (Addr × Obj)), Zc cls d oe → (∃ vs, oe.data = .fields vs) → PSs (X.suite a ((a, oe) :: pn)) (b₀ :: suite) (p.2 a cls d)) (r : AsOk X n hds l) :
      AsOk X n (.ExceptHandler (some (.Name x np)) (some n) (b₀ :: suite) pos' :: hds) (p :: l)
section
variable {X : Cx} {n : Str} {i : Nat} {body : List Stmt} {h₀ : ExceptHandler} {hds : List ExceptHandler} {l : List Cl} {pos : Pos} {tb : WX → TS} {Wout : WX}
theorem ps_try_asL (hs : X.stack = X.env :: X.outer) (hf : X.env.frame = some X.env.locals) (hN : X.N.Nodup) (hi : X.N[i]? = some n) (hln : X.env.kindOf n = some .local) (tk : Takes X Wout)
    (hb : ∀ (W : WX) (pn : List (Addr × Obj)) (xe : Value → Shared → Prop), Takes (X.tr pn xe) W → PassesOwn (model X.prog X.w) X.A X.env xe → PSs (X.tr pn xe) body (tb W))
    (hh : AsOk X n (h₀ :: hds) l) : PS X (.Try body (h₀ :: hds) [] [] pos) (fun D σ H => tb (wAsL X.K i Wout D l) D σ H) := by
  refine ⟨fun pins s σ H D I h => ?_⟩
  have ok := I.ok
  have loc : Loc X.env.scope n := .inl hln
  refine wpAny_Try_except ?_
  refine wpAny_mono ((hb (wAsL X.K i Wout D l) (X.pn ++ pins) (fun e s₁ => wpAny (model X.prog X.w) X.A (noteFrame e X.env) (fun _ s₂ => wpAny (model X.prog X.w) X.A (setFlight e none) (fun _ s₃ =>
    wpAny (model X.prog X.w) X.A (handleBy e X.env (h₀ :: hds)) (SP X pins D) X.xe s₃) X.xe s₂) X.xe s₁) (fun u s' xx => ?_) PassesOwn.looking).run [] s σ H D (I.toTry _) h) (fun f s1 hsp => ?_) (fun e s1 he => he)
  · obtain ⟨a, B, sI, pins', σ', H', cls, d, rfl, J', nb, up, sky, na, os, ag, wish⟩ := xx
    have J : L2.Inv X pins σ' H' sI := J'.ofTry ok
    show wpAny (model X.prog X.w) X.A (noteFrame (.ref a) X.env) _ _ _
    refine Sky.land Zc.steady (by rw [ok.frames, hs]) hf (by rw [← hs]; exact sky) fun h3 fl3 up3 => ?_
    have J3 : L2.Inv X pins σ' H' { s' with heap := h3 } := J.landed nb fl3.1 (up.trans up3) os ag
    obtain ⟨oe3, vs3, he3, hz3, hd3⟩ := fl3.there
    have off : a ∉ frs (X.env :: X.outer) := fun hm => by
      obtain ⟨_, o', e', hnf⟩ := fl3.2.2.1.mem hm
      rw [he3] at e'
      cases e'
      exact hnf _ hd3
    have nL : a ≠ X.env.locals := fun z => off (List.mem_filterMap.mpr ⟨X.env, List.mem_cons_self, by rw [hf, z]⟩)
    have nF : a ∉ X.fs := fun hm => by
      obtain ⟨e, he, q⟩ := List.mem_filterMap.mp hm
      exact off (List.mem_filterMap.mpr ⟨e, List.mem_cons_of_mem _ he, q⟩)
    have S3 := J3.suite he3 hd3 na nL nF
    have LT : PySem.W.Looks (model X.prog X.w) h3 (typeOf (.ref a)) cls := fun A Q E s k q => wpAny_typeOf_ref (k _ _ he3) (by rw [hz3.1]; exact q)
    have go : ∀ {hs' : List ExceptHandler} {l' : List Cl}, AsOk X n hs' l' → wAsL X.K i Wout D l' cls d σ' H' → wpAny (model X.prog X.w) X.A (handleBy (.ref a) X.env hs') (SP X pins D) X.xe { s' with heap := h3 } := by
      intro hs' l' hk
      induction hk with
      | nil =>
        intro w
        refine wpAny_handleBy_nil ?_
        obtain ⟨k1, k2, k3, oe, vs, T, oT, ts', he, hz, hd, h1, hr⟩ := id fl3
        unfold PySem.passOn
        refine wpAny_bind (wpAny_field he hd h1 ?_)
        rw [if_neg (show ¬ ((Value.ref T == Value.none) = true) from by simp)]
        have fin : wpAny (model X.prog X.w) X.A (setFlight (.ref a) X.env.frame) (fun _ s4 => wpAny (model X.prog X.w) X.A (throw (.ref a) : Sem Flow) (SP X pins D) X.xe s4) X.xe { s' with heap := h3 } := by
          rw [hf]
          refine HandSPX.setFlight_upZ fl3 fun h4 hh4 up4 => wpAny_throw (tk _ _ ?_)
          exact ⟨a, B, sI, pins, σ', H', cls, d, rfl, J, nb, (up.trans up3).trans up4, .inr (.inr (by rw [hs]; exact hh4)), na, os, ag, w⟩
        first
          | exact wpAny_bind (wpAny_pure (wpAny_bind fin))
          | exact wpAny_bind fin
      | @cons x p b₀ suite np pos' hds2 l2 hc hsu r ih =>
        intro w
        obtain ⟨b, hb1, w⟩ := w
        refine wpAny_handleBy_cons (codeAny_handlers_test ?_) (by intro q; cases q)
        have LM := PySem.W.exm_one (M := model X.prog X.w) (J3.kIn) LT hb1
        have test : ∀ {Q : Value → Shared → Prop} {E : Value → Shared → Prop}, Q p.1 { s' with heap := h3 } → wpAny (model X.prog X.w) (X.A.mark (some (.ref a))) (eval (.Name x np) X.env) Q E { s' with heap := h3 } := fun {Q E} q => by
          obtain ⟨hg, hdbg, hm | ⟨hm, hv, hnn⟩⟩ := hc
          · exact ld_glob (X := X.suite a ((a, oe3) :: (X.pn ++ pins))) S3 hg hm q hdbg
          · exact ld_blt (X := X.suite a ((a, oe3) :: (X.pn ++ pins))) S3 hg hm hv q hnn hdbg
        refine test (LM.here ?_)
        cases b with
        | false =>
          show wpAny _ X.A (handleBy (.ref a) X.env hds2) _ _ _
          exact ih w
        | true =>
          refine codeAny_handlers_suite_as ?_
          refine HandSPX.lands_againZ fl3 fun h4 fl4 up4 => ?_
          have J4 : L2.Inv X pins σ' H' { s' with heap := h4 } := J.landed nb fl4.1 ((up.trans up3).trans up4) os ag
          obtain ⟨oe4, vs4, he4, hz4, hd4⟩ := fl4.there
          refine store_ok (X := X.suite a ((a, oe4) :: (X.pn ++ pins))) (v := .ref a) (J4.suite he4 hd4 na nL nF) hN hi loc rfl (fun s5 S5 => ?_) (.inr hln)
          refine wpAny_mono ((hsu a oe4 cls d (X.pn ++ pins) hz4 ⟨_, hd4⟩).run [] s5 _ H' _ S5 (w a na)) (fun f s6 hsp => ?_) (fun _ _ z => z.elim)
          have bye : ∀ {σ6 : L2.St} {H6 : Hp} {Q : Shared → Prop}, L2.Inv (X.suite a ((a, oe4) :: (X.pn ++ pins))) [] σ6 H6 s6 → (∀ s7, L2.Inv X pins (σ6.set i none) H6 s7 → Q s7) →
              wpAny (model X.prog X.w) X.A (do bindName X.env n .none; unbindBehindTheSuite X.env n pos') (fun _ s7 => Q s7) X.xe s6 := fun {σ6 H6 Q} S6 hq => gone_ok (S6.unsuite ok) hN hi hln hq
          cases f with
          | ret u =>
            obtain ⟨v6, σ6, H6, S6, r6, q6⟩ := hsp
            exact bye S6 fun s7 J7 => ⟨_, _, _, J7, r6, q6⟩
          | _ =>
            obtain ⟨σ6, H6, S6, q6⟩ := hsp
            exact bye S6 fun s7 J7 => ⟨_, _, J7, q6⟩
    exact go hh wish
  · cases f with
    | next =>
      obtain ⟨σ', H', J', q⟩ := hsp
      exact wpAny_execs_nil ⟨σ', H', J'.ofTry ok, q⟩
    | ret u =>
      obtain ⟨v, σ', H', J', r, q⟩ := hsp
      exact ⟨v, σ', H', J'.ofTry ok, r, q⟩
    | _ =>
      obtain ⟨σ', H', J', q⟩ := hsp
      exact ⟨σ', H', J'.ofTry ok, q⟩
end
end Sl
/-! ## Q7 -/
set_option Elab.async false
set_option linter.all false
set_option maxRecDepth 100000
set_option maxHeartbeats 4000000
/-! repr of what is nested; defs that call it: nothing is being shown around them -/
namespace Sl
open PySem PySem.Spec PyProof.Rows L2
/-- as FnOk, where nothing is being shown around the call -/
structure FnG (P : Program) (w : World) (K : PySem.W.Frag) (mg : Str → Option Value) (base : Heap) (CX : CXT) (k : Nat) (f : Addr) (fd : FuncData) (ps : List Str) (sp : Sp) : Prop where
  len : ∀ vs H Q E, sp vs H Q E → vs.length = ps.length
  run : ∀ (A : Around) (outer : List Env) (s : Shared) (H : Hp) (args : Args) (us : List Value) (vs : List V) (Q : VK) (E : XK), A.guards = some [] → Room k A → Env0 P w K mg base A outer s H → BindsTo s fd args (ps.zip us) → Vals vs us → sp vs H Q E →
    codeAny (model P w) A (.call (.ref f) args) (CR CX outer P w H s Q E) s
theorem deeper_guards {A : Around} (env : Env) (g : A.guards = some []) : (A.deeper env).guards = some [] := by
  show A.guards = some []
  exact g
section
variable {P : Program} {w : World} {K : PySem.W.Frag} {mg : Str → Option Value} {base : Heap}
theorem Fun.okG {CX : CXT} {x qual : Str} {st : Stmt} {f : Addr} {fd : FuncData} {N ps : List Str} {k : Nat} {sp : Sp} (F : Fun K x qual st f fd) (S : FnScope N ps (defScope st)) (len : ∀ vs H Q E, sp vs H Q E → vs.length = ps.length)
    (hbody : ∀ (cdv : Value) (A : Around) (outer : List Env) (s : Shared) (H : Hp) (vs : List V) (Q : VK) (E : XK), (A.deeper (envOfC qual (defScope st) s.heap.objs.size f cdv)).guards = some [] → Room k (A.deeper (envOfC qual (defScope st) s.heap.objs.size f cdv)) → sp vs H Q E →
      ∃ t, PSs (cxOf CX P w K mg base N qual (defScope st) f cdv A outer s H E) (defBody st) t ∧ t { nx := fun _ H' => Q .non H', rt := Q } (start N vs) H) : FnG P w K mg base CX (k + 1) f fd ps sp := by
  obtain ⟨oc, od, kV, doc, pm, an, cdv, ct, osl, rfl, lk, hcd⟩ := F.ex
  refine ⟨len, fun A outer s H args us vs Q E hg hr e0 hb r hsp => ?_⟩
  have hl := len _ _ _ _ hsp
  have kin : K.In s.heap := e0.mod.kin.keeps fun b o e => (e0.bs b o e).1
  have lim : s.heap.NoLimit := e0.mod.nolimit.keeps fun b o e => (e0.bs b o e).1
  refine codeAny_call_function hr.depth (kin _ _ lk) rfl S.co S.gen rfl (PySem.W.codeRec_of kin hcd) (hb _ _ _ _ ?_)
  refine wpAny_newFunctionEnv_cells S.kind (fun ⟨n, v⟩ hy => ?_) fun env he s1 x => ?_
  · rcases S.par n (List.of_mem_zip hy).1 with q | q
    · exact .inl q
    · exact .inr ⟨q, PySem.W.cellsFrom_some _ _ _ (.inl q)⟩
  subst he
  refine ⟨lim.keeps x.toInCall.keep, codeAny_func ?_⟩
  obtain ⟨t, ht, hq⟩ := hbody cdv A outer s H vs Q E (deeper_guards _ hg) (hr.deeper _) hsp
  have I : L2.Inv (cxOf CX P w K mg base N qual (defScope st) f cdv A outer s H E) [] (start N vs) H s1 := inv_start S hr.hd e0 hl r x
  refine wpAny_mono (ht.run [] s1 (start N vs) H _ I hq) (fun fl s' hs => ?_) fun e s' hs => hs
  have fin : ∀ {σ' : L2.St} {H' : Hp} {v : V} {u : Value}, L2.Inv (cxOf CX P w K mg base N qual (defScope st) f cdv A outer s H E) [] σ' H' s' → L2.RelV v u → Q v H' → CE outer P w H s Q u s' :=
    fun {σ' H' v u} J rv q => ⟨v, H', J.os, J.bare, J.base, J.hok, rv, q⟩
  cases fl with
  | ret u =>
    obtain ⟨v, σ', H', J, rv, q⟩ := hs
    exact fin J rv q
  | next =>
    obtain ⟨σ', H', J, q⟩ := hs
    exact fin (v := V.non) (u := Value.none) J rfl q
  | brk =>
    obtain ⟨_, _, _, q⟩ := hs
    exact q.elim
  | cont =>
    obtain ⟨_, _, _, q⟩ := hs
    exact q.elim
end
section
variable {X : Cx} {CX : CXT} {k : Nat} {f : Addr} {fd : FuncData} {ps : List Str} {sp : Sp} {E : XK} {x : Str} {p pos : Pos} {e : Expr} {es : List Expr} {t : TA}
theorem pe_callG (G : FnG X.prog X.w X.K X.mg X.base CX k f fd ps sp) (gd : X.A.guards = some []) (hr : Room k X.A) (hg : Gl X x) (hm : X.mg x = some (.ref f)) (hk : PySem.W.keepIn X.K (.ref f) = true) (hb : L2.Binds X.K fd ps []) (hx : Passes CX X E)
    (ha : PA X (e :: es) t) (hdb : (x == ("__debug__" : Str)) = false := by decide) (he : starEach (e :: es) X.env = (false, eval e X.env) :: starEach es X.env := by rfl) (hpl : (backTo pos (starEach es X.env)).any (·.1) = false := by rfl) :
    PE X (.Call (.Name x p) (e :: es) [] pos) (tCall sp [] E t) := by
  refine ⟨fun pins s σ H Q I h => ?_⟩
  refine wpAny_Call_Name_kw (ld_glob I hg hm ?_ hdb)
  refine PySem.W.callWith_K (h₀ := X.base) I.ok.mod.kin hk (thn (ha.run pos pins s σ H _ I h) fun us s1 ⟨vs, H1, I1, r, q⟩ => ⟨I1.kIn, ?_⟩) he hpl
  have q : sp (vs ++ []) H1 _ E := q
  rw [List.append_nil] at q
  have hl : us.length = ps.length := by rw [← r.length]; exact G.len _ _ _ _ q
  have b := hb s1 us I1.kIn (by rw [List.append_nil]; exact hl)
  rw [List.append_nil] at b
  refine wpAny_call (codeAny_mono (G.run X.A X.stack s1 H1 ⟨us, []⟩ us vs _ E gd hr I1.env0 b r q) fun c s' hq => ?_)
  cases c with
  | error er => exact hx pins σ H1 s1 er s' I1 hq
  | ok fl =>
    cases fl with
    | ret u => exact I1.after hq
    | next => exact hq.elim
    | brk => exact hq.elim
    | cont => exact hq.elim
/-- repr of a list or tuple, however nested, without dicts -/
def rShown (K : PySem.W.Frag) : List V → Hp → VK → Prop := fun xs H Q => ∃ (a : Addr) (d : PyData), xs = [.ref a] ∧ Dp K H (.ref a) d ∧ d.showable = true ∧ d.hasDict = false ∧ d.depth ≤ 60 ∧ d.shown.length ≤ sizeLine ∧ Q (.str d.shown) H
theorem cr_shown (gd : X.A.guards = some []) (hu : X.A.units + 64 < cLine) : CallR X (.builtin "repr") (rShown X.K) := by
  intro pins s σ H xs us Q I r h
  obtain ⟨a, d, rfl, hd, sh, nd, dp, sz, q⟩ := h
  cases r with
  | cons ru rn =>
    cases rn
    obtain ⟨as, rd⟩ := Dp.reads I d _ _ hd ru
    cases ru
    exact repr_of_reads' rd sh (PyData.noDict_hsm nd) gd (by omega) (fun _ _ z => z) (fun h' u tk kk => ⟨.str d.shown, H, I.kept (t' := tk) kk, ⟨_, rfl⟩, q⟩) sz
end
end Sl
/-! ## Q8 -/
set_option Elab.async false
set_option linter.all false
set_option maxRecDepth 100000
set_option maxHeartbeats 4000000
/-! isinstance of a caught own error that has fields: a class, a written tuple of classes -/
namespace Sl
open PySem PySem.Spec PyProof.Rows L2
def rIsD (K : PySem.W.Frag) (D a dd : Addr) : List V → Hp → VK → Prop := fun xs H Q => ∃ (c : V) (b : Bool) (fs : List (Str × V)), xs = [.ref a, c] ∧ H dd = some (.xd fs) ∧
  ((∃ cv, (∀ u, L2.RelV c u → u = cv) ∧ PySem.W.kitOne K (.ref D) cv = some b) ∨ (∃ (tp : Addr) (ys : List V) (its : List Value), c = .ref tp ∧ SqT K H tp ys ∧ (∀ us, Vals ys us → us = its) ∧ PySem.W.kitAny K (.ref D) its = some b)) ∧ Q (.bl b) H
theorem call_isD {X : Cx} {a D dd : Addr} {oe : Obj} {pn : List (Addr × Obj)} (C : ExcC X.K D) (hz : Zc (.ref D) (some dd) oe) (hf : ∃ vs, oe.data = .fields vs) : CallR (X.suite a ((a, oe) :: pn)) (.builtin "isinstance") (rIsD X.K D a dd) := by
  intro pins s σ H xs us Q I r h
  obtain ⟨c, b, fs, rfl, hd, e, q⟩ := h
  have out : ∀ tk, EP (X.suite a ((a, oe) :: pn)) pins σ Q (.bool b) { s with toks := tk } := fun tk => ⟨.bl b, H, I.kept (t' := tk) fun _ _ z => z, rfl, q⟩
  cases r with
  | cons rx rr =>
    cases rr with
    | cons rt rr =>
      cases rr
      cases rx
      obtain ⟨hget, _⟩ := I.pin (a, oe) (List.mem_append.mpr (.inl List.mem_cons_self))
      obtain ⟨vs, hv⟩ := hf
      have hx : ObjOk X.prog X.w H s.heap dd (.xd fs) := I.hok dd _ hd
      obtain ⟨mA, hns, hr⟩ := hx
      obtain ⟨od, ho, hl⟩ := lookIn_ns hns
      have J : PySem.W.InstAt s.heap a oe D (some od) := ⟨hget, hz.1, by unfold PySem.W.notCls; rw [hv] <;> rfl, by rw [hz.2]; exact ho⟩
      have cl : (PySem.W.clsIn X.K D).isSome = true := by
        obtain ⟨cd, z, _⟩ := PySem.W.any_some C.hd
        rw [z]
        rfl
      have Z := PySem.W.kitx_exc (x := a) (ox := oe) (od := some od) cl C.hg C.hk C.hs C.ha C.hn C.ht C.hm
      rcases e with ⟨cv, hcv, e⟩ | ⟨tp, ys, its, rfl, hs, hits, e⟩
      · have ec := hcv _ rt
        subst ec
        exact PySem.W.kia_one Z I.kIn J e (fun z => nomatch z) out
      · cases rt
        obtain ⟨its', rv, ⟨o, h1, h2, n, h3⟩, _⟩ := I.tuple hs
        have ei := hits _ rv
        subst ei
        obtain ⟨oc, od', oda, osl⟩ := o
        simp only at h2 h3
        subst h2 h3
        exact PySem.W.kia_tup Z I.kIn J h1 e (fun z => nomatch z) out
/-- the same, whatever is caught: the reading says what it is -/
def rIsG (K : PySem.W.Frag) (a : Addr) (cls : Value) (d : Option Addr) : List V → Hp → VK → Prop := fun xs H Q => ∃ D dd : Addr, cls = .ref D ∧ d = some dd ∧ ExcC K D ∧ rIsD K D a dd xs H Q
theorem call_isG {X : Cx} {a : Addr} {cls : Value} {d : Option Addr} {oe : Obj} {pn : List (Addr × Obj)} (hz : Zc cls d oe) (hf : ∃ vs, oe.data = .fields vs) : CallR (X.suite a ((a, oe) :: pn)) (.builtin "isinstance") (rIsG X.K a cls d) := by
  intro pins s σ H xs us Q I r h
  obtain ⟨D, dd, rfl, rfl, C, h⟩ := h
  exact call_isD C hz hf pins s σ H xs us Q I r h
end Sl
/-! ## Q9 -/
set_option Elab.async false
set_option linter.all false
set_option maxRecDepth 100000
set_option maxHeartbeats 4000000
/-! f(k = v, ..), all by name, of a def that may raise -/
namespace Sl
open PySem PySem.Spec PyProof.Rows L2
def tKwS (n : Nat) (sp : Sp) (gV : List V → List V) (E : L2.St → XK) (tk : TA) : TE := fun σ H Q => tk σ H fun zs H1 => zs.length = n ∧ sp (gV zs) H1 Q (E σ)
section
variable {X : Cx} {CX : CXT} {k : Nat} {f : Addr} {fd : FuncData} {ps ks : List Str} {sp : Sp} {E : L2.St → XK} {x : Str} {p pos : Pos} {kws : List Keyword} {tk : TA} {g : List Value → List Value → List Value} {gV : List V → List V → List V}
theorem pe_kwS (G : FnOk X.prog X.w X.K X.mg X.base CX k f fd ps sp) (hr : Room k X.A) (hg : Gl X x) (hm : X.mg x = some (.ref f)) (hk : PySem.W.keepIn X.K (.ref f) = true) (hb : KBn X.K fd ps 0 ks g gV) (hx : ∀ σ, PassesAt CX X σ (E σ))
    (hkw : PK X kws tk) (hall : (backToKw pos (keywordEach kws X.env)).all (·.1.isSome) = true := by rfl) (hks : (backToKw pos (keywordEach kws X.env)).filterMap (·.1) = ks := by rfl)
    (hdb : (x == ("__debug__" : Str)) = false := by decide) (hpl : ((backTo pos (starEach [] X.env)).any (·.1) || (backToKw pos (keywordEach kws X.env)).any (·.1.isNone)) = false := by rfl) :
    PE X (.Call (.Name x p) [] kws pos) (tKwS ks.length sp (gV []) E tk) := by
  refine ⟨fun pins s σ H Q I h => ?_⟩
  refine wpAny_Call_Name_kw (ld_glob I hg hm ?_ hdb)
  refine PySem.W.callWith_KW0 (h₀ := X.base) I.ok.mod.kin hk hall ?_ hpl
  refine thn (hkw.run pos pins _ σ H _ I h) fun ws s2 ⟨zs, H2, I2, rz, l2, q2⟩ => ⟨I2.kIn, ?_⟩
  rw [hks]
  have r2 := hb.rel .nil rz
  refine wpAny_call (codeAny_mono (G.run X.A X.stack s2 H2 ⟨[], ks.zip ws⟩ (g [] ws) (gV [] zs) Q (E σ) hr I2.env0 (hb.to s2 [] ws I2.kIn rfl (rz.length.symm.trans l2)) r2 q2) fun c s' hq => ?_)
  cases c with
  | error er => exact hx σ pins H2 s2 er s' I2 hq
  | ok fl =>
    cases fl with
    | ret u => exact I2.after hq
    | next => exact hq.elim
    | brk => exact hq.elim
    | cont => exact hq.elim
end
end Sl
/-! ## C9 -/
set_option Elab.async false
set_option linter.all false
set_option maxRecDepth 100000
set_option maxHeartbeats 4000000
/-! readers of the drawn models; what is told, as data: short -/
namespace Sl
open PySem PySem.Spec PyProof.Rows L2
theorem lookup_perm {r r' : Rw} (p : r.Perm r') (nd : (r.map (·.1)).Nodup) (z : Str) : r'.lookup z = r.lookup z := by
  have nd' : (r'.map (·.1)).Nodup := (p.map (·.1)).nodup_iff.mp nd
  by_cases c : z ∈ r.map (·.1)
  · obtain ⟨e, he, rfl⟩ := List.mem_map.mp c
    rw [lookup_mem nd (z := e.1) (m := e.2) he, lookup_mem nd' (z := e.1) (m := e.2) (p.mem_iff.mp he)]
  · rw [lookup_no c, lookup_no fun h => c ((p.map (·.1)).mem_iff.mpr h)]
theorem perms_at : ∀ {rows rows' : List Rw}, Perms rows rows' → (∀ r ∈ rows, (r.map (·.1)).Nodup) → ∀ (j : Nat) (z : Str), (rows'.getD j []).lookup z = (rows.getD j []).lookup z
  | _, _, .nil, _, _, _ => rfl
  | _, _, .cons p h, nd, 0, z => lookup_perm p (nd _ List.mem_cons_self) z
  | _, _, .cons p h, nd, j + 1, z => perms_at h (fun r hr => nd r (List.mem_cons_of_mem _ hr)) j z
theorem okRow_perm {n : Int} {r r' : Rw} (p : r.Perm r') (h : okRow n r) : okRow n r' := fun e he => h e (p.mem_iff.mpr he)
theorem okRows_perms {n : Int} {rows rows' : List Rw} (h : Perms rows rows') (ok : okRows n rows) : okRows n rows' := by
  refine ⟨by rw [← h.len]; exact ok.1, ?_⟩
  have key : ∀ {a b : List Rw}, Perms a b → (∀ r ∈ a, okRow n r ∧ (r.map (·.1)).Nodup) → ∀ r ∈ b, okRow n r ∧ (r.map (·.1)).Nodup := by
    intro a b hp
    induction hp with
    | nil => exact fun _ r hr => by cases hr
    | cons p h ih =>
      intro k r hr
      rcases List.mem_cons.mp hr with e | m
      · rw [e]
        have := k _ List.mem_cons_self
        exact ⟨okRow_perm p this.1, (p.map (·.1)).nodup_iff.mp this.2⟩
      · exact ih (fun r hr => k r (List.mem_cons_of_mem _ hr)) r m
  exact key h ok.2
theorem name_short {z : Str} (h : nameS z = true) : PyData.leavesShort 40 (.str z) = true := by
  have w0 : isWordS z = true := (Bool.and_eq_true_iff.mp h).1
  unfold isWordS at w0
  simp only [PyData.leavesShort, List.all_eq_true, decide_eq_true_eq]
  intro c hc
  have q := List.all_eq_true.mp w0 c hc
  unfold lowC at q
  simp only [Bool.and_eq_true, decide_eq_true_eq] at q
  exact Nat.lt_of_le_of_lt q.2 (by decide)
theorem names_short : ∀ {l : List Str}, (∀ z ∈ l, nameS z = true ∧ z.length ≤ 8) → PyData.leavesShortAll 40 (l.map PyData.str) = true ∧ PyData.bulkAll (l.map PyData.str) ≤ 9 * l.length ∧ PyData.showableAll (l.map PyData.str) = true
  | [], _ => ⟨rfl, Nat.le_refl _, rfl⟩
  | x :: l, h => by
    obtain ⟨h1, h2, h3⟩ := names_short fun z hz => h z (List.mem_cons_of_mem _ hz)
    obtain ⟨k1, k2⟩ := h x List.mem_cons_self
    have k2 : x.cps.size ≤ 8 := k2
    refine ⟨?_, ?_, ?_⟩
    · show (PyData.leavesShort 40 (.str x) && PyData.leavesShortAll 40 (l.map PyData.str)) = true
      rw [name_short k1, h1]
      rfl
    · simp only [List.map_cons, PyData.bulkAll, PyData.bulk, List.length_cons]
      omega
    · show (PyData.showable (.str x) && PyData.showableAll (l.map PyData.str)) = true
      rw [h3]
      simp [PyData.showable]
theorem small_int : ∀ n : Fin 101, (PyData.shown (.int (n.val : Int))).length ≤ 40 ∧ PyData.showable (.int (n.val : Int)) = true := by decide +kernel
/-! a drawn model is one that the program takes -/
theorem abc_word {z : Str} (h : z ∈ abcL) : isWordS z = true ∧ z.length = 1 := by
  have q : (abcL.all fun z => isWordS z && decide (z.length = 1)) = true := by decide +kernel
  have k := List.all_eq_true.mp q z h
  rw [Bool.and_eq_true, decide_eq_true_eq] at k
  exact k
theorem letter_sign {z : Str} (h : z ∈ abcL) : signS z = true ∧ z.length = 1 := by
  obtain ⟨h1, h2⟩ := abc_word h
  refine ⟨?_, h2⟩
  unfold signS
  rw [h1, decide_eq_true h2]
  rfl
theorem sign_name {z : Str} (h : signS z = true) : nameS z = true ∧ z.length ≤ 8 := by
  unfold signS at h
  obtain ⟨h1, h2⟩ := Bool.and_eq_true_iff.mp h
  have h2 := of_decide_eq_true h2
  refine ⟨?_, by omega⟩
  unfold nameS
  rw [h1, decide_eq_true (by omega), decide_eq_true (by omega)]
  rfl
theorem mark_name {z : Str} (h : markS z = true) : nameS z = true := (Bool.and_eq_true_iff.mp h).1
theorem model_ok {cap : Nat} {paper tells marks : List Str} {rows : List Rw} {ns : List Int} {b : Int} (m : okModel cap paper (tells ++ marks) rows ns b) (hp : ∀ z ∈ paper, z ∈ abcL) (ht : ∀ z ∈ tells, z ∈ abcL) (hm : ∀ z ∈ marks, markS z = true ∧ z.length ≤ 8) :
    okRows rows.length rows := by
  refine ⟨rfl, fun r hr => ⟨fun e he => ?_, (m.rw_ r hr).1⟩⟩
  obtain ⟨k1, k2, k3⟩ := (m.rw_ r hr).2 e he
  refine ⟨letter_sign (hp _ k1), k2, fun z hz => ?_⟩
  rcases List.mem_append.mp (k3 z hz) with q | q
  · exact sign_name (letter_sign (ht z q)).1
  · exact ⟨mark_name (hm z q).1, (hm z q).2⟩
theorem names_few {tells marks : List Str} (ht : ∀ z ∈ tells, z ∈ abcL) (hm : ∀ z ∈ marks, markS z = true ∧ z.length ≤ 8) (lt : tells.length ≤ 4) (lm : marks.length ≤ 6) :
    ((tells ++ marks).filter signS).length ≤ 4 ∧ ((tells ++ marks).filter markS).length ≤ 6 := by
  have no1 : marks.filter signS = [] := List.filter_eq_nil_iff.mpr fun z hz q => by
    have h1 := (Bool.and_eq_true_iff.mp (hm z hz).1).2
    have h2 := (Bool.and_eq_true_iff.mp q).2
    have h1 := of_decide_eq_true h1
    have h2 := of_decide_eq_true h2
    omega
  have no2 : tells.filter markS = [] := List.filter_eq_nil_iff.mpr fun z hz q => by
    have h1 := of_decide_eq_true (Bool.and_eq_true_iff.mp q).2
    have h2 := (letter_sign (ht z hz)).2
    omega
  rw [List.filter_append, List.filter_append, no1, no2, List.append_nil, List.nil_append]
  exact ⟨Nat.le_trans (List.length_filter_le _ _) lt, Nat.le_trans (List.length_filter_le _ _) lm⟩
theorem keys_in {cap : Nat} {paper names : List Str} {rows : List Rw} {ns : List Int} {b : Int} (m : okModel cap paper names rows ns b) : ∀ z ∈ keysOf rows, z ∈ paper := fun z hz => by
  unfold keysOf at hz
  simp only [List.mem_flatMap, List.mem_map] at hz
  obtain ⟨r, hr, e, he, rfl⟩ := hz
  exact ((m.rw_ r hr).2 e he).1
theorem tolds_in {cap : Nat} {paper names : List Str} {rows : List Rw} {ns : List Int} {b : Int} (m : okModel cap paper names rows ns b) : ∀ z ∈ toldsOf rows, z ∈ names := fun z hz => by
  unfold toldsOf at hz
  simp only [List.mem_flatMap, List.mem_filterMap] at hz
  obtain ⟨r, hr, e, he, q⟩ := hz
  exact ((m.rw_ r hr).2 e he).2.2 z q

def toldD : Option Str → PyData
  | none => .none
  | some z => .str z
def mvD (m : Mv) : PyData := .tuple [.int m.1, toldD m.2]
def walkD (ms : List Mv) : PyData := .list (ms.map mvD)
theorem mvs_dp {K : PySem.W.Frag} {H : Hp} : ∀ {ts : List Addr} {ms : List Mv}, MvsAt H ts ms → DpAll K H (ts.map V.ref) (ms.map mvD)
  | _, _, .nil => .nil
  | _, _, .cons (m := m) h r => .cons (.tup (SqT.of (show H _ = some (.tup [.int m.1, toldV m.2]) from h)) (.cons (.int _) (.cons (by cases m.2 with | none => exact .non | some z => exact .str z) .nil))) (mvs_dp r)
structure Fine (x : PyData) : Prop where
  sh : x.showable = true
  nd : x.hasDict = false
  dp : x.depth ≤ 50
  lv : x.leavesShort 40 = true
  bk : x.bulk ≤ 10000
theorem fine_pair {x : PyData} (h : Fine x) : (PyData.list [x, x]).showable = true ∧ (PyData.list [x, x]).hasDict = false ∧ (PyData.list [x, x]).depth ≤ 60 ∧ (PyData.list [x, x]).shown.length ≤ sizeLine := by
  have s1 : PyData.leavesShort 40 (PyData.list [x, x]) = true := by
    simp only [PyData.leavesShort, PyData.leavesShortAll, h.lv]
    decide
  have s2 := PyData.shown_le_bulk 40 (by decide) _ s1
  have s3 : (PyData.list [x, x]).bulk ≤ 20010 := by
    have := h.bk
    simp only [PyData.bulk, PyData.bulkAll]
    omega
  refine ⟨by simp [PyData.showable, PyData.showableAll, h.sh], by simp [PyData.hasDict, PyData.hasDictAll, h.nd], ?_, ?_⟩
  · have := h.dp
    simp only [PyData.depth, PyData.depthAll]
    omega
  · refine Nat.le_trans s2 ?_
    rw [sizeLine_eq]
    omega
theorem fine_mv {m : Mv} (h0 : 0 ≤ m.1) (h1 : m.1 ≤ 100) (hn : ∀ z, m.2 = some z → nameS z = true ∧ z.length ≤ 8) : (mvD m).showable = true ∧ (mvD m).hasDict = false ∧ (mvD m).depth ≤ 2 ∧ (mvD m).leavesShort 40 = true ∧ (mvD m).bulk ≤ 40 := by
  obtain ⟨g, o⟩ := m
  obtain ⟨i, rfl⟩ : ∃ i : Nat, g = (i : Int) := ⟨g.toNat, by have : (0 : Int) ≤ g := h0; omega⟩
  have h1 : (i : Int) ≤ 100 := h1
  obtain ⟨i1, i2⟩ := small_int ⟨i, by omega⟩
  have i1 : (PyData.shown (.int (i : Int))).length ≤ 40 := i1
  have i2 : PyData.showable (.int (i : Int)) = true := i2
  cases o with
  | none => exact ⟨by simp [mvD, toldD, PyData.showable, PyData.showableAll] at i2 ⊢; exact i2, by simp [mvD, toldD, PyData.hasDict, PyData.hasDictAll], by simp [mvD, toldD, PyData.depth, PyData.depthAll], by simp [mvD, toldD, PyData.leavesShort, PyData.leavesShortAll, i1], by simp [mvD, toldD, PyData.bulk, PyData.bulkAll]⟩
  | some z =>
    obtain ⟨k1, k2⟩ := hn z rfl
    have k2 : z.cps.size ≤ 8 := k2
    have k3 := name_short k1
    refine ⟨by simp [mvD, toldD, PyData.showable, PyData.showableAll] at i2 ⊢; exact i2, by simp [mvD, toldD, PyData.hasDict, PyData.hasDictAll], by simp [mvD, toldD, PyData.depth, PyData.depthAll], ?_, ?_⟩
    · simp only [mvD, toldD, PyData.leavesShort, PyData.leavesShortAll] at k3 ⊢
      simp [i1, k3]
    · simp only [mvD, toldD, PyData.bulk, PyData.bulkAll]
      omega
theorem fine_walk : ∀ {ms : List Mv}, (∀ m ∈ ms, 0 ≤ m.1 ∧ m.1 ≤ 100 ∧ ∀ z, m.2 = some z → nameS z = true ∧ z.length ≤ 8) → PyData.showableAll (ms.map mvD) = true ∧ PyData.hasDictAll (ms.map mvD) = false ∧ PyData.depthAll (ms.map mvD) ≤ 3 ∧ PyData.leavesShortAll 40 (ms.map mvD) = true ∧ PyData.bulkAll (ms.map mvD) ≤ 50 * ms.length
  | [], _ => ⟨rfl, rfl, by simp [PyData.depthAll], rfl, Nat.le_refl _⟩
  | m :: ms, h => by
    obtain ⟨h1, h2, h3, h4, h5⟩ := fine_walk fun m hm => h m (List.mem_cons_of_mem _ hm)
    obtain ⟨k1, k2, k3⟩ := h m List.mem_cons_self
    obtain ⟨g1, g2, g3, g4, g5⟩ := fine_mv k1 k2 k3
    refine ⟨by simp [PyData.showableAll, g1, h1], by simp [PyData.hasDictAll, g2, h2], ?_, by simp [PyData.leavesShortAll, g4, h4], ?_⟩
    · simp only [List.map_cons, PyData.depthAll]
      omega
    · simp only [List.map_cons, PyData.bulkAll, List.length_cons]
      omega
theorem walkD_fine {ms : List Mv} (h : ∀ m ∈ ms, 0 ≤ m.1 ∧ m.1 ≤ 100 ∧ ∀ z, m.2 = some z → nameS z = true ∧ z.length ≤ 8) (l : ms.length ≤ 100) : Fine (walkD ms) := by
  obtain ⟨h1, h2, h3, h4, h5⟩ := fine_walk h
  refine ⟨by simpa [walkD, PyData.showable] using h1, by simpa [walkD, PyData.hasDict] using h2, by simp only [walkD, PyData.depth]; omega, by simpa [walkD, PyData.leavesShort] using h4, by simp only [walkD, PyData.bulk]; omega⟩
/-- a move with its sign, as data -/
def tripD (e : Str × Mv) : PyData := .tuple [.str e.1, .int e.2.1, toldD e.2.2]
theorem trips_dp {K : PySem.W.Frag} {H : Hp} : ∀ {ts : List Addr} {r : Rw}, TripsAt H ts r → DpAll K H (ts.map V.ref) (r.map tripD)
  | _, _, .nil => .nil
  | _, _, .cons (m := m) h r => .cons (.tup (SqT.of h) (.cons (.str _) (.cons (.int _) (.cons (by cases m.2 with | none => exact .non | some z => exact .str z) .nil)))) (trips_dp r)
theorem fine_trip {e : Str × Mv} (hz : nameS e.1 = true ∧ e.1.length ≤ 8) (h0 : 0 ≤ e.2.1) (h1 : e.2.1 ≤ 100) (hn : ∀ z, e.2.2 = some z → nameS z = true ∧ z.length ≤ 8) : (tripD e).showable = true ∧ (tripD e).hasDict = false ∧ (tripD e).depth ≤ 2 ∧ (tripD e).leavesShort 40 = true ∧ (tripD e).bulk ≤ 80 := by
  obtain ⟨y, g, o⟩ := e
  obtain ⟨i, rfl⟩ : ∃ i : Nat, g = (i : Int) := ⟨g.toNat, by have : (0 : Int) ≤ g := h0; omega⟩
  have h1 : (i : Int) ≤ 100 := h1
  obtain ⟨i1, i2⟩ := small_int ⟨i, by omega⟩
  have i1 : (PyData.shown (.int (i : Int))).length ≤ 40 := i1
  have i2 : PyData.showable (.int (i : Int)) = true := i2
  have y1 := name_short hz.1
  have y2 : y.cps.size ≤ 8 := hz.2
  cases o with
  | none =>
    refine ⟨by simp [tripD, toldD, PyData.showable, PyData.showableAll] at i2 ⊢; exact i2, by simp [tripD, toldD, PyData.hasDict, PyData.hasDictAll], by simp [tripD, toldD, PyData.depth, PyData.depthAll], ?_, ?_⟩
    · simp only [tripD, toldD, PyData.leavesShort, PyData.leavesShortAll] at y1 ⊢
      simp [i1, y1]
    · simp only [tripD, toldD, PyData.bulk, PyData.bulkAll]
      omega
  | some z =>
    obtain ⟨k1, k2⟩ := hn z rfl
    have k2 : z.cps.size ≤ 8 := k2
    have k3 := name_short k1
    refine ⟨by simp [tripD, toldD, PyData.showable, PyData.showableAll] at i2 ⊢; exact i2, by simp [tripD, toldD, PyData.hasDict, PyData.hasDictAll], by simp [tripD, toldD, PyData.depth, PyData.depthAll], ?_, ?_⟩
    · simp only [tripD, toldD, PyData.leavesShort, PyData.leavesShortAll] at k3 y1 ⊢
      simp [i1, k3, y1]
    · simp only [tripD, toldD, PyData.bulk, PyData.bulkAll]
      omega
theorem fine_trips : ∀ {r : Rw}, (∀ e ∈ r, (nameS e.1 = true ∧ e.1.length ≤ 8) ∧ 0 ≤ e.2.1 ∧ e.2.1 ≤ 100 ∧ ∀ z, e.2.2 = some z → nameS z = true ∧ z.length ≤ 8) → PyData.showableAll (r.map tripD) = true ∧ PyData.hasDictAll (r.map tripD) = false ∧ PyData.depthAll (r.map tripD) ≤ 2 ∧ PyData.leavesShortAll 40 (r.map tripD) = true ∧ PyData.bulkAll (r.map tripD) ≤ 100 * r.length
  | [], _ => ⟨rfl, rfl, by simp [PyData.depthAll], rfl, Nat.le_refl _⟩
  | m :: ms, h => by
    obtain ⟨h1, h2, h3, h4, h5⟩ := fine_trips fun m hm => h m (List.mem_cons_of_mem _ hm)
    obtain ⟨k0, k1, k2, k3⟩ := h m List.mem_cons_self
    obtain ⟨g1, g2, g3, g4, g5⟩ := fine_trip k0 k1 k2 k3
    refine ⟨by simp [PyData.showableAll, g1, h1], by simp [PyData.hasDictAll, g2, h2], ?_, by simp [PyData.leavesShortAll, g4, h4], ?_⟩
    · simp only [List.map_cons, PyData.depthAll]
      omega
    · simp only [List.map_cons, PyData.bulkAll, List.length_cons]
      omega
def tripsD (r : Rw) : PyData := .list (r.map tripD)
theorem tripsD_fine {r : Rw} (h : ∀ e ∈ r, (nameS e.1 = true ∧ e.1.length ≤ 8) ∧ 0 ≤ e.2.1 ∧ e.2.1 ≤ 100 ∧ ∀ z, e.2.2 = some z → nameS z = true ∧ z.length ≤ 8) (l : r.length ≤ 64) : Fine (tripsD r) := by
  obtain ⟨h1, h2, h3, h4, h5⟩ := fine_trips h
  refine ⟨by simpa [tripsD, PyData.showable] using h1, by simpa [tripsD, PyData.hasDict] using h2, by simp only [tripsD, PyData.depth]; omega, by simpa [tripsD, PyData.leavesShort] using h4, by simp only [tripsD, PyData.bulk]; omega⟩
end Sl
/-! ## C11 -/
set_option Elab.async false
set_option linter.all false
set_option maxRecDepth 100000
set_option maxHeartbeats 4000000
/-! a move found in a dict, as data; rows of the same keys are the same -/
namespace Sl
open PySem PySem.Spec PyProof.Rows L2
def moD : Option Mv → PyData
  | none => .none
  | some m => mvD m
theorem mvv_dp {K : PySem.W.Frag} {H : Hp} {v : V} : ∀ {o : Option Mv}, MvV H v o → Dp K H v (moD o)
  | none, h => by
    have h : v = .non := h
    rw [h]
    exact .non
  | some m, h => by
    obtain ⟨t, rfl, e⟩ := h
    exact .tup (SqT.of (show H t = some (.tup [.int m.1, toldV m.2]) from e)) (.cons (.int _) (.cons (by cases m.2 with | none => exact .non | some z => exact .str z) .nil))
theorem MvV.ext {H H' : Hp} (x : Ext H H') {v : V} : ∀ {o : Option Mv}, MvV H v o → MvV H' v o
  | none, h => h
  | some m, h => by
    obtain ⟨t, e, q⟩ := h
    exact ⟨t, e, x _ _ q⟩
theorem get_mv {H : Hp} {es : List (Str × Addr)} {r : Rw} (he : Ents H es r) (nd : (r.map (·.1)).Nodup) (z : Str) : MvV H ((valV (kvsOf es) (Sum.inr z : Key)).getD .non) (r.lookup z) := by
  by_cases c : z ∈ es.map (·.1)
  · obtain ⟨t, m, m1, m2, m3⟩ := he.mem c
    rw [val_at (by rw [he.keys]; exact nd) m1, lookup_mem nd m2]
    exact ⟨t, rfl, m3⟩
  · rw [val_no c, lookup_no (by rw [← he.keys]; exact c)]
    rfl
theorem fine_mo {n : Int} {r : Rw} (hr : okRow n r) (n12 : n ≤ 12) (nd : (r.map (·.1)).Nodup) (z : Str) : Fine (moD (r.lookup z)) := by
  cases e : r.lookup z with
  | none => exact ⟨rfl, rfl, by simp [moD, PyData.depth], rfl, by simp [moD, PyData.bulk]⟩
  | some m =>
    have hm : (z, m) ∈ r := by
      by_cases c : z ∈ r.map (·.1)
      · obtain ⟨q, hq, rfl⟩ := List.mem_map.mp c
        rw [lookup_mem nd (z := q.1) (m := q.2) hq] at e
        cases e
        exact hq
      · rw [lookup_no c] at e
        cases e
    obtain ⟨k1, k2, k3⟩ := hr _ hm
    obtain ⟨g1, g2, g3, g4, g5⟩ := fine_mv (m := m) k2.1 (by have h2 : m.1 < n := k2.2; omega) k3
    exact ⟨g1, g2, by show (mvD m).depth ≤ 50; omega, g4, by show (mvD m).bulk ≤ 10000; omega⟩
theorem rows_same {r : Rw} (nd : (r.map (·.1)).Nodup) : ∀ {a b : Rw}, (∀ e ∈ a, e ∈ r) → (∀ e ∈ b, e ∈ r) → a.map (·.1) = b.map (·.1) → a = b
  | [], [], _, _, _ => rfl
  | [], _ :: _, _, _, h => by cases h
  | _ :: _, [], _, _, h => by cases h
  | x :: a, y :: b, ha, hb, h => by
    injection h with h1 h2
    obtain ⟨z, m⟩ := x
    obtain ⟨z', m'⟩ := y
    have h1 : z = z' := h1
    subst h1
    have e1 := lookup_mem nd (ha (z, m) List.mem_cons_self)
    have e2 := lookup_mem nd (hb (z, m') List.mem_cons_self)
    rw [e1] at e2
    cases e2
    rw [rows_same nd (fun e he => ha e (List.mem_cons_of_mem _ he)) (fun e he => hb e (List.mem_cons_of_mem _ he)) h2]
theorem word_ok {z : Str} (h : isWordS z = true) : PyData.strOk z = true := by
  unfold PyData.strOk
  rw [← Array.all_toList, List.all_eq_true]
  intro c hc
  have k := List.all_eq_true.mp h c hc
  unfold lowC at k
  simp only [Bool.and_eq_true, decide_eq_true_eq] at k ⊢
  omega
theorem name_ok {z : Str} (h : nameS z = true) : PyData.strOk z = true := by
  unfold nameS at h
  simp only [Bool.and_eq_true] at h
  first
    | exact word_ok h.1
    | exact word_ok h.1.1
theorem trips_can : ∀ {r : Rw}, (∀ e ∈ r, nameS e.1 = true ∧ ∀ z, e.2.2 = some z → nameS z = true) → PyData.canLayAll0 (r.map tripD) = true
  | [], _ => rfl
  | (z, g, o) :: r, h => by
    obtain ⟨h1, h2⟩ := h _ List.mem_cons_self
    have k1 := name_ok h1
    show (PyData.canLay0 (tripD (z, g, o)) && PyData.canLayAll0 (r.map tripD)) = true
    rw [trips_can fun e he => h e (List.mem_cons_of_mem _ he), Bool.and_true]
    cases o with
    | none => simpa [tripD, toldD, PyData.canLay0, PyData.canLayAll0] using k1
    | some y =>
      have k2 := name_ok (h2 y rfl)
      simpa [tripD, toldD, PyData.canLay0, PyData.canLayAll0] using ⟨k1, k2⟩
theorem trips_shaped {r : Rw} (h : ∀ e ∈ r, (nameS e.1 = true ∧ e.1.length ≤ 8) ∧ 0 ≤ e.2.1 ∧ e.2.1 ≤ 100 ∧ ∀ z, e.2.2 = some z → nameS z = true ∧ z.length ≤ 8) : SeqAt.shaped (tripsD r) = true ∧ PyData.eqv (tripsD r) (tripsD r) = true := by
  have c0 : PyData.canLay0 (tripsD r) = true := by
    show PyData.canLay0 (.list (r.map tripD)) = true
    rw [PyData.canLay0]
    exact trips_can fun e he => ⟨(h e he).1.1, fun z hz => ((h e he).2.2.2 z hz).1⟩
  obtain ⟨_, _, h3, _, _⟩ := fine_trips h
  refine ⟨?_, SeqAt.eqv_refl _ c0⟩
  show (PyData.canLay0 _ && decide _) = true
  rw [c0, Bool.true_and, decide_eq_true_eq]
  simp only [tripsD, PyData.depth]
  omega
end Sl
/-! ## C10 -/
set_option Elab.async false
set_option linter.all false
set_option maxRecDepth 100000
set_option maxHeartbeats 600000
set_option pp.maxSteps 400
set_option pp.deepTerms false
/-! the moves of a reader, held against the model -/
namespace Sl
open PySem PySem.Spec PyProof.Rows L2 TxS
abbrev sMovesR : Stmt := top 34
theorem cxF {P : Program} {w : World} {outer : List Env} {H : Hp} {s : Shared} {e : Value} {s' : Shared} (c : L2.CX P w outer H s (fun _ _ _ => False) e s') : False := by
  obtain ⟨a, B, H', cls, d, _, _, _, _, _, _, _, hW⟩ := c
  exact hW
theorem passesF {X : Cx} : Passes (L2.CX X.prog X.w) X (fun _ _ _ => False) := fun _ _ _ _ _ _ _ c => (cxF c).elim
theorem passAtF {X : Cx} (σ : L2.St) : PassesAt (L2.CX X.prog X.w) X σ (fun _ _ _ => False) := fun _ _ _ _ _ _ c => (cxF c).elim
theorem nostopF {K : PySem.W.Frag} : NoStop K (fun _ _ _ => False) := fun _ _ _ h => h.elim
def spMovesR (C : Addr) : Sp := fun vs H Q _ => ∃ (p M L E : Addr) (ds : List Addr) (rows rows' : List Rw) (ends ns : List Int) (b b' : Int), vs = [.ref p, .ref M] ∧ ReaderAt C H p rows' ends b ∧ Ascs rows rows' ∧ ModelAt H M L E ds rows ns b' ∧ okRows rows.length rows ∧ rows.length ≤ 12 ∧ (∀ r ∈ rows, r.length < 64) ∧ ∀ H', Ext H H' → Q (.bl true) H'
theorem asc_at : ∀ {a b : List Rw} {i : Nat} {r : Rw}, Ascs a b → a[i]? = some r → ∃ r', b[i]? = some r' ∧ r.Perm r' ∧ sortedS (r'.map (·.1)) = true
  | _, _, 0, _, .cons p s _, h => by cases h; exact ⟨_, rfl, p, s⟩
  | _, _, i + 1, _, .cons _ _ t, h => asc_at (i := i) t h
  | _, _, 0, _, .nil, h => by cases h
  | _, _, i + 1, _, .nil, h => by cases h
theorem asc_mem : ∀ {a b : List Rw} {r' : Rw}, Ascs a b → r' ∈ b → ∃ r ∈ a, r.Perm r'
  | _, _, _, .nil, h => by cases h
  | _, _, _, .cons (r := r) p _ t, h => by
    rcases List.mem_cons.mp h with e | e
    · rw [e]
      exact ⟨r, List.mem_cons_self, p⟩
    · obtain ⟨r1, h1, h2⟩ := asc_mem t e
      exact ⟨r1, List.mem_cons_of_mem _ h1, h2⟩
theorem fine_shown {x : PyData} (h : Fine x) : x.shown.length ≤ sizeLine := by
  have s2 := PyData.shown_le_bulk 40 (by decide) _ h.lv
  have := h.bk
  refine Nat.le_trans s2 ?_
  rw [sizeLine_eq]
  omega
section
variable {P : Program} {w : World} {K : PySem.W.Frag} {mg : Str → Option Value} {base : Heap}
abbrev nMovesR : List Str := ["_law_made_here", "_law_model_here", "_law_spot", "_law_line", "_law_letter", "_law_told", "_law_due"]
theorem scMovesR : FnScope nMovesR ["_law_made_here", "_law_model_here"] (defScope sMovesR) := ⟨rfl, rfl, rfl, by decide +kernel, rfl, by decide +kernel, by decide +kernel⟩
theorem ok_movesR {f C fM fV : Addr} {fd fdM fdV : FuncData} {g g2 : List Value → List Value → List Value} (F : Fun K "_law_moves_right" "_law_moves_right" sMovesR f fd) (T : RdC K C)
    (mM : L2.Meth K C "move" fM) (bM : L2.Binds K fdM ["self", "state", "sign"] []) (kM : KBn K fdM ["self", "state", "sign"] 1 ["state", "sign"] g (fun vs zs => vs ++ zs)) (gM : FnOk P w K mg base CX0 4 fM fdM ["self", "state", "sign"] (spMove C))
    (mV : L2.Meth K C "moves" fV) (bV : L2.Binds K fdV ["self", "state"] []) (kV : KBn K fdV ["self", "state"] 1 ["state"] g2 (fun vs zs => vs ++ zs)) (gV : GFn P w K mg base 4 fV fdV ["self", "state"] (spMoves C))
    (ze : mg "enumerate" = none) (zp : mg "repr" = none) (zs : mg "sorted" = none) (zl : mg "list" = none) :
    FnG P w K mg base CX0 8 f fd ["_law_made_here", "_law_model_here"] (spMovesR C) := by
  refine Sl.Fun.okG F scMovesR (fun vs H Q E h => ?_) (fun cdv A0 outer s H vs Q E0 gd hr h => ?_)
  · obtain ⟨p, M, L, E, ds, rows, rows', ends, ns, b, b', rfl, _⟩ := h
    rfl
  · obtain ⟨p, M, L, E, ds, rows, rows', ends, ns, b, b', rfl, RA, asc, hM, ok, l12, l64, k⟩ := h
    have hr4 : Room 4 _ := hr.mono (by decide)
    have hu := hu_of hr
    have hu0 := hr.units
    refine ⟨_, pss_cons (ps_for (passes_of rfl) rfl (pi_enumK (by rfl) ze (pa_cons (pe_ix ix_tup (pv 1) pe_int (fun _ _ => rfl)) pa_nil)) (pg_tup rfl (pgs_cons (pg_name (i := 2) scMovesR.nd rfl (.inl rfl)) (pgs_cons (pg_name (i := 3) scMovesR.nd rfl (.inr rfl)) pgs_nil)))
        (pss_cons (ps_for (passes_of rfl) rfl (pi_str pe_str) (pg_name (i := 4) scMovesR.nd rfl (.inl rfl))
          (pss_cons (ps_set (i := 5) scMovesR.nd rfl (.inl rfl) (pe_lst (pa_cons (pe_meth (pv 0) T.cl mM gM hr4 bM .nil pass0 (pa_cons (pv 2) (pa_cons (pv 4) pa_nil))) (pa_cons (pe_methKw (pv 0) T.cl mM gM hr4 kM pass0 (pk_cons (pv 2) (pk_cons (pv 4) pk_nil))) pa_nil))))
          (pss_one (ps_if (pt_cmpR op_ne (pe_callB (cr_shown gd hr.units) (by rfl) zp (by decide +kernel) (pa_cons (pv 5) pa_nil)) (pe_callB (cr_shown gd hr.units) (by rfl) zp (by decide +kernel) (pa_cons (pe_op op_rep (pe_lst (pa_cons (pe_dget1 hu (pv 3) (pv 4) ⟨rfl, rfl, rfl, rfl⟩) pa_nil)) pe_int) pa_nil)) (by rfl)) (pss_one (ps_ret pe_bl)) pss_nil))))
        (pss_cons (ps_setLc (i := 6) (own := [("_law_letter", 4)]) (g := gName 4) (tt := tYes) (te := tTup (tCons (tVar 4) (tCons (tOp (rIxT K) (tDGet (tVar 3) (tVar 4)) (tC (.int 0))) (tCons (tOp (rIxT K) (tDGet (tVar 3) (tVar 4)) (tC (.int 1))) tNil)))) rfl scMovesR.nd rfl rfl (sw_true rfl rfl rfl (by decide +kernel)) (pi_list (pe_callB (call_sortedD rfl) (by rfl) zs (by decide +kernel) (pa_cons (pv 3) pa_nil))) (blkOk_by (N := nMovesR) (sc := defScope sMovesR) (by decide +kernel))
            (fun _ _ _ _ _ => pg_name (i := 4) scMovesR.nd rfl (Or.inl rfl)) (fun _ _ _ _ _ => pts_nil) (fun _ _ _ _ _ => pe_tup (pa_cons (pv 4) (pa_cons (pe_ix ix_tup (pe_dget hu (pv 3) (pv 4) (fun _ _ => rfl)) pe_int (fun _ _ => rfl)) (pa_cons (pe_ix ix_tup (pe_dget hu (pv 3) (pv 4) (fun _ _ => rfl)) pe_int (fun _ _ => rfl)) pa_nil)))))
        (pss_one (ps_if (PW.pt (pw_or (pt_cmpR op_ne (pe_callB (cr_shown gd hr.units) (by rfl) zp (by decide +kernel) (pa_cons (pe_listG (E := fun _ _ _ => False) (pgen_meth (pv 0) T.cl mV gV hr4 bV .nil (pa_cons (pv 2) pa_nil)) passesF nostopF (hr.mono (by decide)) (by rfl) zl (by decide +kernel)) pa_nil)) (pe_callB (cr_shown gd hr.units) (by rfl) zp (by decide +kernel) (pa_cons (pv 6) pa_nil)) (by rfl))
            (pw_or1 (pt_cmpR (op_neD hu0) (pe_listG (E := fun _ _ _ => False) (pgen_methKw (pv 0) T.cl mV gV hr4 kV (pk_cons (pv 2) pk_nil)) passesF nostopF (hr.mono (by decide)) (by rfl) zl (by decide +kernel)) (pv 6) (by rfl))))) (pss_one (ps_ret pe_bl)) pss_nil)))))
      (pss_one (ps_ret pe_bl)), ?_⟩
    have nd : ∀ r ∈ rows, (r.map (·.1)).Nodup := fun r hr => (ok.2 r hr).2
    have ok' : okRows rows.length rows' := okRows_perms asc.perms ok
    have e12 : rows'.length = rows.length := asc.perms.len.symm
    have okR : okRows rows'.length rows' := by rw [e12]; exact ok'
    refine ⟨_, rfl, M, _, _, .ref L, rfl, rfl, SqT.of hM.h1, atI_nat (j := 0) rfl, true, L, ds.map V.ref, rfl, SqK.l hM.h2, ?_⟩
    refine for_it (walk_enumK (xs := ds.map V.ref)) (fun i σ H' => ∃ v2 v3 v4 v5 v6, σ = [some (.ref p), some (.ref M), v2, v3, v4, v5, v6] ∧ Ext H H') ⟨none, none, none, none, none, rfl, fun _ _ e => e⟩ (fun i σ H2 _ ⟨_, _, _, _, _, _, x2⟩ => (SqK.l hM.h2).ext x2) ?_ ?_
    · rintro i x σ H2 H3 hi ⟨v2, v3, v4, v5, v6, rfl, x2⟩ ⟨T1, y1, y2, rfl, nT, rfl, e1, e2⟩
      obtain ⟨d, hd, rfl⟩ := at_map e2
      obtain ⟨r, hri, es, hdk, he⟩ := hM.h3.at_ hd
      cases e1
      have hil : i < rows.length := (List.getElem?_eq_some_iff.mp hri).1
      have x3 := x2.trans (Ext.new nT (o := .tup [.int (i : Nat), .ref d]))
      refine ⟨T1, _, rfl, SqT.of upd_same, rfl, _, _, rfl, _, _, rfl, rfl, ?_⟩
      generalize upd H2 T1 (.tup [.int (i : Nat), .ref d]) = H4 at x3 ⊢
      have ndr := nd r (List.mem_of_getElem? hri)
      have okr := (ok.2 r (List.mem_of_getElem? hri)).1
      have er : rows.getD i [] = r := by rw [List.getD_eq_getElem?_getD, hri]; rfl
      have same : ∀ z, mvOf rows' (i : Int) z = r.lookup z := fun z => by
        have k := perms_at asc.perms nd i z
        rw [er] at k
        exact k
      have n12 : (rows.length : Int) ≤ 12 := by omega
      have i0 : (0 : Int) ≤ (i : Nat) := by omega
      have iN : ((i : Nat) : Int) < (rows.length : Nat) := by omega
      refine ⟨_, rfl, ?_⟩
      refine for_it walk_str (fun j σ H' => ∃ v4 v5, σ = [some (.ref p), some (.ref M), some (.int (i : Nat)), some (.ref d), v4, v5, v6] ∧ Ext H4 H') ⟨v4, v5, rfl, fun _ _ e => e⟩ (fun _ _ _ _ _ => trivial) ?_ ?_
      · rintro j x σ H5 H6 hj ⟨w4, w5, rfl, x5⟩ ⟨rfl, c, hc, rfl⟩
        generalize ({ cps := #[c] } : Str) = z
        have x35 := x3.trans x5
        have RA5 := RA.ext x35
        obtain ⟨dx, fs, L0, ds', Te, a1, a2, a3, a4, a5, a6, a7, a8⟩ := RA5.ex
        have hd5 := x35 _ _ hdk
        have he5 := he.ext fun t xs e => x35 _ _ e
        have fp := fine_pair (fine_mo okr n12 ndr z)
        have gm := get_mv he5 ndr z
        have sz : (2 : Nat) ≤ sizeLine := by decide
        have sz1 : (1 : Nat) ≤ sizeLine := by decide
        refine ⟨_, rfl, p, dx, fs, rfl, a1, a8 _ (by decide +kernel), _, rfl, _, rfl, p, (i : Nat), z, rows', ends, b, _, rfl, RA5, ok', i0, iN, fun u1 hu1 => ?_⟩
        refine ⟨_, rfl, p, dx, fs, rfl, a1, a8 _ (by decide +kernel), _, rfl, _, rfl, rfl, p, (i : Nat), z, rows', ends, b, _, rfl, RA5, ok', i0, iN, fun u2 hu2 => ⟨sz, fun T2 nT2 => ?_⟩⟩
        rw [same] at hu1 hu2
        have z2 := Ext.new nT2 (o := .lst [u1, u2])
        have d1 := mvv_dp (K := K) (hu1.ext z2)
        have d2 := mvv_dp (K := K) (hu2.ext z2)
        refine ⟨_, rfl, T2, .list [moD (r.lookup z), moD (r.lookup z)], rfl, .lst (SqL.of upd_same) (.cons d1 (.cons d2 .nil)), fp.1, fp.2.1, fp.2.2.1, fp.2.2.2, ?_⟩
        have hd7 := z2 _ _ hd5
        refine ⟨_, rfl, d, rfl, .inl ⟨_, Rd.of hd7⟩, _, rfl, _, DGet.k (k := Sum.inr z) hd7, sz1, fun T3 nT3 => ?_⟩
        have z3 := Ext.new nT3 (o := .lst [((valV (kvsOf es) (Sum.inr z : Key)).getD .non)])
        refine ⟨T3, 2, _, rfl, rfl, upd_same, by decide, by decide, sz, fun T4 nT4 => ?_⟩
        have z4 := Ext.new nT4 (o := .lst [((valV (kvsOf es) (Sum.inr z : Key)).getD .non), ((valV (kvsOf es) (Sum.inr z : Key)).getD .non)])
        have z24 := (z2.trans z3).trans z4
        have d3 := mvv_dp (K := K) (gm.ext z24)
        refine ⟨T4, .list [moD (r.lookup z), moD (r.lookup z)], rfl, .lst (SqL.of upd_same) (.cons d3 (.cons d3 .nil)), fp.1, fp.2.1, fp.2.2.1, fp.2.2.2, rfl, _, rfl, ?_⟩
        rw [show ∀ y : Str, (!decide (V.str y = V.str y)) = false from fun y => by simp]
        exact iteF ⟨_, _, rfl, x5.trans z24⟩
      · rintro σ H5 ⟨w4, w5, rfl, x5⟩
        have x35 := x3.trans x5
        have hd5 := x35 _ _ hdk
        have he5 := he.ext fun t xs e => x35 _ _ e
        have nde : (es.map (·.1)).Nodup := by rw [he.keys]; exact ndr
        have r64 := l64 r (List.mem_of_getElem? hri)
        obtain ⟨r', hr', pr, sr'⟩ := asc_at asc hri
        refine ⟨_, rfl, d, _, es.map (·.1), rfl, Rd.of hd5, (by unfold kvsOf; rw [List.map_map, List.map_map]; rfl), (by rw [List.length_map, he.len]; exact r64), fun ys Ls pm sr hL => ?_⟩
        have lys : ys.length = r.length := by rw [pm.length_eq, List.length_map, he.len]
        have ky : ys = r'.map (·.1) := sorted_unique sr sr' (by rw [he.keys] at pm; exact pm.trans (pr.map (·.1)))
        have xL := Ext.new hL (o := .lst (ys.map V.str))
        have lL : (upd H5 Ls (.lst (ys.map V.str))) Ls = some (.lst (ys.map V.str)) := upd_same
        generalize upd H5 Ls (.lst (ys.map V.str)) = H6 at xL lL ⊢
        refine ⟨Ls, rfl, ⟨_, SqL.of lL⟩, fun D hD => ?_⟩
        refine lc_it (walk_list (xs := ys.map V.str)) (fun j H' => Ext H6 H' ∧ ∃ ts q, H' D = some (.lst (ts.map V.ref)) ∧ TripsAt H' ts q ∧ q.map (·.1) = ys.take j ∧ ∀ e ∈ q, e ∈ r) ⟨Ext.new hD, [], [], upd_same, .nil, rfl, fun e h => by cases h⟩ (fun j H' _ h => SqL.of (h.1 _ _ lL)) ?_ ?_
        · rintro j x H7 H8 hj ⟨x7, ts, q, l7, t7, k7, in7⟩ ⟨rfl, hx⟩
          obtain ⟨z, hz, rfl⟩ := at_map hx
          have hzm : z ∈ es.map (·.1) := pm.mem_iff.mp (List.mem_of_getElem? hz)
          obtain ⟨t, m, m1, m2, m3⟩ := he5.mem hzm
          have x58 := xL.trans x7
          have m3' := x58 _ _ m3
          have hg : DGet H8 d (V.str z) (some (.ref t)) := by
            rw [← val_at nde m1]
            exact DGet.k (k := Sum.inr z) (x58 _ _ hd5)
          have hjl : j < ys.length := (List.getElem?_eq_some_iff.mp hz).1
          have lq : ts.length = j := by
            have k := congrArg List.length k7
            rw [List.length_map, List.length_take] at k
            rw [t7.len]
            omega
          refine ⟨rfl, _, rfl, _, rfl, _, rfl, d, _, rfl, hg, t, _, _, .int m.1, rfl, rfl, SqT.of m3', atI_nat (j := 0) rfl, _, rfl, _, rfl, d, _, rfl, hg, t, _, _, toldV m.2, rfl, rfl, SqT.of m3', atI_nat (j := 1) rfl, (by show 3 ≤ sizeLine; decide), fun N nN => ?_⟩
          have xN := Ext.new nN (o := .tup [.str z, .int m.1, toldV m.2])
          have l8 := xN _ _ l7
          refine ⟨_, l8, by rw [List.length_map]; exact small_list (by omega), fun b o e => ?_, ts ++ [N], q ++ [(z, m)], ?_, ?_, ?_, fun e he' => ?_⟩
          · rw [upd_ne (ne_of_none e hD)]
            exact xN _ _ (x7 b o e)
          · rw [upd_same, List.map_append]
            rfl
          · refine TripsAt.ext (fun t' xs h => ?_) ((t7.ext fun t' xs h => xN _ _ h).snoc upd_same)
            rw [upd_ne (ne_of h l8 (by intro z; cases z))]
            exact h
          · rw [List.map_append, k7, List.take_add_one, hz]
            rfl
          · rcases List.mem_append.mp he' with h | h
            · exact in7 e h
            · rw [List.mem_singleton.mp h]
              exact m2
        · rintro H7 ⟨x7, ts, q, l7, t7, k7, in7⟩
          rw [List.length_map, List.take_length, ky] at k7
          have qr : q = r' := rows_same ndr in7 (fun e he' => pr.mem_iff.mpr he') k7
          subst qr
          have x37 := x35.trans (xL.trans x7)
          have RA7 := RA.ext x37
          obtain ⟨dx, fs, L0, ds', Te, a1, a2, a3, a4, a5, a6, a7, a8⟩ := RA7.ex
          have hq : ∀ e ∈ q, (nameS e.1 = true ∧ e.1.length ≤ 8) ∧ 0 ≤ e.2.1 ∧ e.2.1 ≤ 100 ∧ ∀ z, e.2.2 = some z → nameS z = true ∧ z.length ≤ 8 := fun e he' => by
            obtain ⟨k1, k2, k3⟩ := okr e (in7 e he')
            exact ⟨sign_name k1.1, k2.1, by have := k2.2; omega, k3⟩
          have fn := tripsD_fine hq (by rw [← pr.length_eq]; omega)
          have sn := fine_shown fn
          have dn : (tripsD q).depth ≤ 60 := Nat.le_trans fn.dp (by decide)
          have sh := trips_shaped hq
          have eq' : rows'.getD i [] = q := by rw [List.getD_eq_getElem?_getD, hr']; rfl
          have iN' : i < rows'.length := by rw [e12]; exact hil
          have h64' : ∀ r ∈ rows', r.length < 64 := fun r0 h0 => by
            obtain ⟨r1, h1, h2⟩ := asc_mem asc h0
            rw [← h2.length_eq]
            exact l64 _ h1
          refine ⟨_, rfl, p, dx, fs, rfl, a1, a8 _ (by decide +kernel), _, rfl, p, i, rows', ends, b, rfl, RA7, okR, iN', h64', fun H8 ts8 x8 t8 => fun L8 nL8 => ?_⟩
          rw [eq'] at t8
          have xL8 := Ext.new nL8 (o := .lst (ts8.map V.ref))
          have t8' := t8.ext fun t xs h => xL8 _ _ h
          have g8 : (upd H8 L8 (.lst (ts8.map V.ref))) L8 = some (.lst (ts8.map V.ref)) := upd_same
          have x78 := x8.trans xL8
          generalize upd H8 L8 (.lst (ts8.map V.ref)) = G8 at x78 t8' g8 ⊢
          have lD := x78 _ _ l7
          have tD := t7.ext fun t xs h => x78 _ _ h
          refine ⟨L8, tripsD q, rfl, .lst (SqL.of g8) (trips_dp t8'), fn.sh, fn.nd, dn, sn, _, rfl, D, tripsD q, rfl, .lst (SqL.of lD) (trips_dp tD), fn.sh, fn.nd, dn, sn, rfl, _, rfl, ?_⟩
          rw [show ∀ y : Str, (!decide (V.str y = V.str y)) = false from fun y => by simp]
          refine iteF ?_
          refine ⟨_, rfl, p, dx, fs, rfl, x78 _ _ a1, a8 _ (by decide +kernel), _, rfl, rfl, p, i, rows', ends, b, rfl, RA7.ext x78, okR, iN', h64', fun H9 ts9 x9 t9 => fun L9 nL9 => ?_⟩
          rw [eq'] at t9
          have xL9 := Ext.new nL9 (o := .lst (ts9.map V.ref))
          have t9' := t9.ext fun t xs h => xL9 _ _ h
          have g9 : (upd H9 L9 (.lst (ts9.map V.ref))) L9 = some (.lst (ts9.map V.ref)) := upd_same
          have x89 := x9.trans xL9
          generalize upd H9 L9 (.lst (ts9.map V.ref)) = G9 at x89 t9' g9 ⊢
          have lD9 := x89 _ _ lD
          have tD9 := tD.ext fun t xs h => x89 _ _ h
          refine ⟨_, rfl, tripsD q, tripsD q, .lst (SqL.of g9) (trips_dp t9'), .lst (SqL.of lD9) (trips_dp tD9), sh.1, sh.1, _, rfl, ?_⟩
          rw [sh.2]
          exact iteF ⟨_, _, _, _, _, rfl, (x37.trans x78).trans x89⟩
    · rintro σ H2 ⟨v2, v3, v4, v5, v6, rfl, x2⟩
      exact k _ x2
end
end Sl
/-! ## C12 -/
set_option Elab.async false
set_option linter.all false
set_option maxRecDepth 100000
set_option maxHeartbeats 600000
/-! a text several times; a choice of a text's signs -/
namespace Sl
open PySem PySem.Spec PyProof.Rows L2
def repS (z : Str) (n : Nat) : Str := ⟨(List.replicate n z.cps).foldl (· ++ ·) #[]⟩
theorem fold_app {α : Type} : ∀ (l : List (Array α)) (a : Array α), (l.foldl (· ++ ·) a).toList = a.toList ++ (l.map Array.toList).flatten
  | [], a => by simp
  | x :: l, a => by
    rw [List.foldl_cons, fold_app l (a ++ x), List.map_cons, List.flatten_cons, Array.toList_append, List.append_assoc]
theorem repS_list (z : Str) (n : Nat) : (repS z n).cps.toList = (List.replicate n z.cps.toList).flatten := by
  unfold repS
  rw [fold_app, List.map_replicate]
  simp
theorem repS_len (z : Str) (n : Nat) : (repS z n).length = n * z.length := by
  have k := congrArg List.length (repS_list z n)
  rw [Array.length_toList] at k
  show (repS z n).cps.size = n * z.cps.size
  rw [k]
  simp
theorem repS_word {z : Str} (h : isWordS z = true) (n : Nat) : isWordS (repS z n) = true := by
  unfold isWordS at h ⊢
  rw [repS_list, List.all_eq_true]
  intro c hc
  obtain ⟨l, hl, hcl⟩ := List.mem_flatten.mp hc
  rw [(List.mem_replicate.mp hl).2] at hcl
  exact List.all_eq_true.mp h c hcl
def rRepS : R2 := fun x y H Q => ∃ (z : Str) (n : Nat), x = .str z ∧ y = .int n ∧ 2 ≤ n ∧ n ≤ 1000 ∧ 1 ≤ z.length ∧ z.length ≤ 1000 ∧ Q (.str (repS z n)) H
theorem op_repS {X : Cx} : OpR X (binaryOp .Mult) rRepS := by
  intro pins s σ H x y v u Q I rx ry h
  obtain ⟨z, n, rfl, rfl, n2, n1000, z1, z1000, q⟩ := h
  obtain ⟨t, rfl⟩ := rx
  obtain ⟨t', rfl⟩ := ry
  have h1 : ¬ ((n : Int) < 1) := by omega
  have h2 : ((n : Int) == 1 || z.length == 0) = false := by
    rw [Bool.or_eq_false_iff]
    exact ⟨beq_eq_false_iff_ne.mpr (by omega), beq_eq_false_iff_ne.mpr (by omega)⟩
  have hz : z.length * n ≤ 1000000 := Nat.le_trans (Nat.mul_le_mul z1000 n1000) (by decide)
  have en : (n : Int).toNat = n := Int.toNat_natCast n
  refine PySem.P.mul_str ?_ (fun _ _ => ?_) (fun _ _ => ?_) ?_
  · rw [Bool.or_eq_false_iff]
    exact ⟨decide_eq_false (by omega), decide_eq_false (by omega)⟩
  · refine Int.not_lt.mpr ((Int.le_ediv_iff_mul_le (by omega)).mpr ?_)
    have k : ((z.length * n : Nat) : Int) ≤ 1000000 := Int.ofNat_le.mpr hz
    rw [Int.natCast_mul] at k
    omega
  · rw [en]
    unfold Builtin.Str.tooLong
    exact decide_eq_false (by rw [sizeLine_eq]; omega)
  · rw [if_neg h1, if_neg (by rw [h2]; exact Bool.false_ne_true), en]
    refine ⟨?_, ⟨.str (repS z n), H, I.tok _, ⟨_, rfl⟩, q⟩⟩
    have k := repS_len z n
    rw [Nat.mul_comm] at k
    show (repS z n).length ≤ sizeLine
    rw [k, sizeLine_eq]
    omega
end Sl
/-! ## C13 -/
set_option Elab.async false
set_option linter.all false
set_option maxRecDepth 100000
set_option maxHeartbeats 600000
set_option pp.maxSteps 400
set_option pp.deepTerms false
/-! a choice of a text's signs -/
namespace Sl
open PySem PySem.Spec PyProof.Rows L2
def spChoiceS : Sp := fun vs H Q _ => ∃ (a : Addr) (z : Str), vs = [.ref a, .str z] ∧ Rng H a ∧ 0 < z.length ∧ z.length ≤ 10000 ∧
  ∀ (i c : Nat) (H' : Hp), z.cps[i]? = some c → Rng H' a → Keep a H H' → Q (.str ⟨#[c]⟩) H'
section
variable {P : Program} {w : World} {K : PySem.W.Frag} {mg : Str → Option Value} {base : Heap}
theorem ok_choiceS {f fD : Addr} {fd fdD : FuncData} (F : Fun K "_law_choice" "_law_choice" sChoice f fd) (aD : At K mg "_law_draw" fD fdD ["_law_rng_here", "_law_many"] []) (gD : FnOk P w K mg base CX0 1 fD fdD ["_law_rng_here", "_law_many"] spDraw) (zn : mg "len" = none) :
    FnOk P w K mg base CX0 2 f fd ["_law_rng_here", "_law_some"] spChoiceS := by
  refine F.ok scChoice (fun vs H Q E h => ?_) (fun cdv A0 outer s H vs Q E hr h => ?_)
  · obtain ⟨a, z, rfl, _⟩ := h
    rfl
  · obtain ⟨a, z, rfl, hR, h0, hl, k⟩ := h
    refine ⟨_, pss_one (ps_ret (pe_ix ix_str (pv 1) (pe_call gD hr (by rfl) aD.g aD.kp aD.b .nil pass0 (pa_cons (pv 0) (pa_cons (pe_callB call_len_str (by rfl) zn PySem.boot_len (pa_cons (pv 1) pa_nil)) pa_nil))) (fun _ _ => rfl))), ?_⟩
    refine ⟨_, rfl, _, rfl, _, rfl, z, rfl, small_size hl, a, _, rfl, hR, by omega, by omega, fun d H' d0 dn r' k' => ?_⟩
    obtain ⟨j, rfl⟩ : ∃ j : Nat, d = (j : Int) := ⟨d.toNat, by omega⟩
    have hj : j < z.cps.size := by
      have : j < z.length := by omega
      exact this
    exact ⟨z, j, z.cps[j], rfl, rfl, small_size hl, atI_nat (by rw [Array.getElem?_toList]; exact Array.getElem?_eq_getElem hj), k j _ H' (Array.getElem?_eq_getElem hj) r' k'⟩
end
end Sl
/-! ## C14 -/
set_option Elab.async false
set_option linter.all false
set_option maxRecDepth 100000
set_option maxHeartbeats 1000000
set_option pp.maxSteps 400
set_option pp.deepTerms false
/-! the forms of signs, words, marks and rows -/
namespace Sl
open PySem PySem.Spec PyProof.Rows L2 TxS
abbrev sForms : Stmt := top 35
def spForms : Sp := fun vs H Q _ => ∃ a : Addr, vs = [.ref a] ∧ Rng H a ∧ ∀ H', Rng H' a → Keep a H H' → Q (.bl true) H'
theorem passAt0 {X : Cx} {E : XK} (σ : L2.St) : PassesAt CX0 X σ E := fun _ _ _ _ _ _ c => c.elim
theorem cut_nat {z : Str} (h : isWordS z = true) (k : Nat) : isWordS (cutS z none (some (k : Int))) = true ∧ (cutS z none (some (k : Int))).length = min k z.length := by
  have e : (cutS z none (some (k : Int))).cps.toList = z.cps.toList.take (min k z.length) := by
    unfold cutS
    rw [HT.sIx_nat, HT.sIx_none]
    simp
  refine ⟨?_, ?_⟩
  · unfold isWordS at h ⊢
    rw [e, List.all_eq_true]
    exact fun c hc => List.all_eq_true.mp h c (List.mem_of_mem_take hc)
  · have k2 := congrArg List.length e
    rw [Array.length_toList, List.length_take, Array.length_toList] at k2
    show (cutS z none (some (k : Int))).cps.size = _
    rw [k2]
    show min (min k z.cps.size) z.cps.size = min k z.cps.size
    omega
def dueB : List Bool := [true, true, true, true, false, false, true, true, false, false, false, true, true, false, false, false]
theorem bls_dp {K : PySem.W.Frag} {H : Hp} : ∀ l : List Bool, DpAll K H (l.map V.bl) (l.map PyData.bool)
  | [] => .nil
  | b :: l => .cons (.bl b) (bls_dp l)
theorem dueB_ok : (PyData.list (dueB.map PyData.bool)).showable = true ∧ (PyData.list (dueB.map PyData.bool)).hasDict = false ∧ (PyData.list (dueB.map PyData.bool)).depth ≤ 60 ∧ (PyData.list (dueB.map PyData.bool)).shown.length ≤ sizeLine :=
  ⟨by decide +kernel, by decide +kernel, by decide +kernel, by decide +kernel⟩
section
variable {P : Program} {w : World} {K : PySem.W.Frag} {mg : Str → Option Value} {base : Heap}
abbrev nForms : List Str := ["_law_rng_here", "_law_some", "_law_nine", "_law_one", "_law_told", "_law_due", "_law_k", "_law_letter"]
theorem scForms : FnScope nForms ["_law_rng_here"] (defScope sForms) := ⟨rfl, rfl, rfl, by decide +kernel, rfl, by decide +kernel, by decide +kernel⟩
theorem ok_forms {f fD fC fW fS fM fR : Addr} {fd fdD fdC fdW fdS fdM fdR : FuncData} {g1 g2 g3 g4 : List Value → List Value → List Value} (F : Fun K "_law_forms_right" "_law_forms_right" sForms f fd)
    (aD : At K mg "_law_draw" fD fdD ["_law_rng_here", "_law_many"] []) (gD : FnOk P w K mg base CX0 1 fD fdD ["_law_rng_here", "_law_many"] spDraw)
    (aC : At K mg "_law_choice" fC fdC ["_law_rng_here", "_law_some"] []) (gC : FnOk P w K mg base CX0 2 fC fdC ["_law_rng_here", "_law_some"] spChoiceS)
    (aW : At K mg "is_word" fW fdW ["value"] []) (bW : KBn K fdW ["value"] 0 ["value"] g1 (fun _ zs => zs)) (gW : FnOk P w K mg base CX0 1 fW fdW ["value"] (spIsWord K))
    (aS : At K mg "is_sign" fS fdS ["value"] []) (bS : KBn K fdS ["value"] 0 ["value"] g2 (fun _ zs => zs)) (gS : FnOk P w K mg base CX0 2 fS fdS ["value"] (spText signS))
    (aM : At K mg "is_mark" fM fdM ["value"] []) (bM : KBn K fdM ["value"] 0 ["value"] g3 (fun _ zs => zs)) (gM : FnOk P w K mg base CX0 3 fM fdM ["value"] (spText markS))
    (aR : At K mg "is_row" fR fdR ["value"] []) (bR : KBn K fdR ["value"] 0 ["value"] g4 (fun _ zs => zs)) (gR : FnOk P w K mg base CX0 3 fR fdR ["value"] (spIsRowV K))
    (zr : mg "range" = none) (zp : mg "repr" = none) (za : mg "all" = none) :
    FnG P w K mg base CX0 4 f fd ["_law_rng_here"] spForms := by
  refine Sl.Fun.okG F scForms (fun vs H Q E h => ?_) (fun cdv A0 outer s H vs Q E0 gd hr h => ?_)
  · obtain ⟨a, rfl, _⟩ := h
    rfl
  · obtain ⟨a, rfl, hR, k⟩ := h
    have hr1 : Room 1 _ := hr.mono (by decide)
    have hr2 : Room 2 _ := hr.mono (by decide)
    have hr3 : Room 3 _ := hr
    refine ⟨_, pss_cons (ps_set (i := 1) scForms.nd rfl (.inl rfl) (pe_join pe_str (pe_lc (own := [("_law_k", 6)]) (g := gName 6) (tt := tYes) (te := tCall spChoiceS [] (fun _ _ _ => False) (tCons (tVar 0) (tCons (tC (.str abc)) tNil))) rfl scForms.nd
        (pi_range1 rfl zr (pa_cons (pe_op op_add pe_int (pe_call gD hr1 (by rfl) aD.g aD.kp aD.b .nil pass0 (pa_cons (pv 0) (pa_cons pe_int pa_nil)))) pa_nil)) (blkOk_by (N := nForms) (sc := defScope sForms) (by decide +kernel))
        (fun _ _ _ _ _ => pg_name (i := 6) scForms.nd rfl (Or.inl rfl)) (fun _ _ _ _ _ => pts_nil) (fun _ _ _ _ _ => pe_call gC hr2 (by rfl) aC.g aC.kp aC.b .nil pass0 (pa_cons (pv 0) (pa_cons pe_str pa_nil))))))
      (pss_cons (ps_par (i := 2) (j := 3) (by rfl) scForms.nd rfl rfl (by decide) rfl rfl (pa_cons (pe_slice sl_str (pe_op op_repS (pv 1) pe_int) po_none (po_some pe_int)) (pa_cons (pe_slice sl_str (pv 1) po_none (po_some pe_int)) pa_nil)) (by rfl))
      (pss_cons (ps_set (i := 4) scForms.nd rfl (.inl rfl) (pe_lst (pa_cons (pe_call gW hr1 (by rfl) aW.g aW.kp aW.b .nil pass0 (pa_cons pe_str pa_nil)) (pa_cons (pe_call gW hr1 (by rfl) aW.g aW.kp aW.b .nil pass0 (pa_cons (pe_op op_repS (pv 2) pe_int) pa_nil))
          (pa_cons (pe_kwS (E := fun _ _ _ _ => False) gW hr1 (by rfl) aW.g aW.kp bW passAt0 (pk_cons (pv 3) pk_nil)) (pa_cons (pe_kwS (E := fun _ _ _ _ => False) gS hr2 (by rfl) aS.g aS.kp bS passAt0 (pk_cons (pv 3) pk_nil))
          (pa_cons (pe_call gS hr2 (by rfl) aS.g aS.kp aS.b .nil pass0 (pa_cons (pv 1) pa_nil)) (pa_cons (pe_call gS hr2 (by rfl) aS.g aS.kp aS.b .nil pass0 (pa_cons pe_str pa_nil)) pa_nil))))))))
      (pss_cons (ps_set (i := 4) scForms.nd rfl (.inl rfl) (pe_op op_cat (pv 4) (pe_lst (pa_cons (pe_kwS (E := fun _ _ _ _ => False) gM hr3 (by rfl) aM.g aM.kp bM passAt0 (pk_cons (pv 1) pk_nil))
          (pa_cons (pe_call gM hr3 (by rfl) aM.g aM.kp aM.b .nil pass0 (pa_cons (pe_slice sl_str (pv 2) po_none (po_some pe_int)) pa_nil)) (pa_cons (pe_call gM hr3 (by rfl) aM.g aM.kp aM.b .nil pass0 (pa_cons (pv 3) pa_nil))
          (pa_cons (pe_call gM hr3 (by rfl) aM.g aM.kp aM.b .nil pass0 (pa_cons (pv 2) pa_nil)) (pa_cons (pe_call gM hr3 (by rfl) aM.g aM.kp aM.b .nil pass0 (pa_cons pe_str pa_nil)) pa_nil))))))))
      (pss_cons (ps_set (i := 4) scForms.nd rfl (.inl rfl) (pe_op op_cat (pv 4) (pe_lst (pa_cons (pe_call gR hr3 (by rfl) aR.g aR.kp aR.b .nil pass0 (pa_cons (pe_tup pa_nil) pa_nil))
          (pa_cons (pe_kwS (E := fun _ _ _ _ => False) gR hr3 (by rfl) aR.g aR.kp bR passAt0 (pk_cons (pe_tup (pa_cons (pv 1) (pa_cons (pv 3) (pa_cons (pe_slice sl_str (pv 2) po_none (po_some pe_int)) pa_nil)))) pk_nil))
          (pa_cons (pe_call gR hr3 (by rfl) aR.g aR.kp aR.b .nil pass0 (pa_cons (pe_tup (pa_cons (pv 3) (pa_cons (pv 2) pa_nil))) pa_nil)) (pa_cons (pe_call gR hr3 (by rfl) aR.g aR.kp aR.b .nil pass0 (pa_cons (pe_tup (pa_cons (pv 3) (pa_cons pe_str pa_nil))) pa_nil)) pa_nil)))))))
      (pss_cons (ps_expr (pe_bm PySem.F.plainAttrs_list PySem.F.slot_list_append PySem.F.type_list_append mt_append (pv 4) (pa_cons (pe_call gR hr3 (by rfl) aR.g aR.kp aR.b .nil pass0 (pa_cons (pe_lst (pa_cons (pv 3) pa_nil)) pa_nil)) pa_nil)))
      (pss_cons (ps_set (i := 5) scForms.nd rfl (.inl rfl) (pe_lst (pa_cons pe_bl (pa_cons pe_bl (pa_cons pe_bl (pa_cons pe_bl (pa_cons pe_bl (pa_cons pe_bl (pa_cons pe_bl (pa_cons pe_bl (pa_cons pe_bl (pa_cons pe_bl (pa_cons pe_bl (pa_cons pe_bl (pa_cons pe_bl (pa_cons pe_bl (pa_cons pe_bl (pa_cons pe_bl pa_nil))))))))))))))))))
      (pss_one (ps_ret (pe_and (pe_cmpR op_eq (pe_callB (cr_shown gd hr.units) (by rfl) zp (by decide +kernel) (pa_cons (pv 4) pa_nil)) (pe_callB (cr_shown gd hr.units) (by rfl) zp (by decide +kernel) (pa_cons (pv 5) pa_nil)) (by rfl))
        (pe_one (pe_callB (cr_all rfl) (by rfl) za (by decide +kernel) (pa_cons (pe_lc (own := [("_law_letter", 7)]) (g := gName 7) (tt := tYes) (te := tCall (spText signS) [] (fun _ _ _ => False) (tCons (tVar 7) tNil)) rfl scForms.nd (pi_str pe_str) (blkOk_by (N := nForms) (sc := defScope sForms) (by decide +kernel))
          (fun _ _ _ _ _ => pg_name (i := 7) scForms.nd rfl (Or.inl rfl)) (fun _ _ _ _ _ => pts_nil) (fun _ _ _ _ _ => pe_call gS hr2 (by rfl) aS.g aS.kp aS.b .nil pass0 (pa_cons (pv 7) pa_nil))) pa_nil)))))))))))), ?_⟩
    refine ⟨⟨_, rfl⟩, _, rfl, a, 7, rfl, hR, by decide, by decide, fun d H1 d0 dn r1 k1 => ?_⟩
    obtain ⟨n, rfl⟩ : ∃ n : Nat, d = (n : Int) := ⟨d.toNat, by omega⟩
    refine ⟨_, _, rfl, rfl, (2 + (n : Int)), rfl, by omega, by omega, fun D nD => ?_⟩
    have nDa := r1.new nD
    refine lc_range (n := 2 + n) (fun i H' => ∃ ys : List Str, H' D = some (.lst (ys.map V.str)) ∧ ys.length = i ∧ (∀ y ∈ ys, ∃ c, y = ⟨#[c]⟩ ∧ lowC c = true) ∧ Rng H' a ∧ Keep a H1 H') ⟨[], upd_same, rfl, fun y h => (nomatch h), r1.ext (Ext.new nD), Keep.of (Ext.new nD)⟩ ?_ ?_
    · rintro i H3 hi ⟨ys, d3, ly, oy, r3, k3⟩
      refine ⟨rfl, _, rfl, a, abc, rfl, r3, by decide, by decide, fun m c H4 hc r4 k4 => ?_⟩
      have hm : m < 26 := by
        have q := (Array.getElem?_eq_some_iff.mp hc).1
        exact q
      obtain ⟨c', hc', lc⟩ := abc_at (j := m) hm
      rw [Array.getElem?_toList, hc] at hc'
      cases hc'
      refine ⟨_, k4 _ _ d3 nDa, by rw [List.length_map]; exact small_list (by omega), ys ++ [⟨#[c]⟩], by rw [upd_same, List.map_append]; rfl, by rw [List.length_append, ly]; rfl, fun y hy => ?_, r4.upd nDa, fun b o e nb => ?_⟩
      · rcases List.mem_append.mp hy with q | q
        · exact oy y q
        · exact ⟨c, List.mem_singleton.mp q, lc⟩
      · rw [upd_ne (ne_of_none e nD)]
        exact k4 _ _ (k3 b o e nb) nb
    · rintro H3 ⟨ys, d3, ly, oy, r3, k3⟩
      obtain ⟨wd, wl⟩ := join_word oy
      have hj3 : (ys.map (·.length)).sum + ys.length * ("" : Str).length ≤ 16777216 := join_le (fun y hy => by obtain ⟨c, rfl, _⟩ := oy y hy; show 1 ≤ 8; decide) (by omega)
      refine ⟨_, D, ys, rfl, rfl, .inl (SqL.of d3), hj3, ?_⟩
      have kk := k1.trans k3
      generalize Txt.join "" ys = z at wd wl ⊢
      have lz : 2 ≤ z.length ∧ z.length ≤ 8 := by omega
      have l5 : (repS z 5).length ≤ sizeLine := by rw [repS_len, sizeLine_eq]; omega
      have l1 : z.length ≤ sizeLine := by rw [sizeLine_eq]; omega
      refine ⟨_, rfl, z, 5, rfl, rfl, by decide, by decide, by omega, by omega, 9, rfl, repS z 5, rfl, l5, _, rfl, 1, rfl, z, rfl, l1, _, _, rfl, ?_⟩
      obtain ⟨w9, q9⟩ := cut_nat (repS_word wd 5) 9
      obtain ⟨w1, q1⟩ := cut_nat wd 1
      rw [repS_len] at q9
      generalize cutS (repS z 5) none (some ((9 : Nat) : Int)) = nine at w9 q9 ⊢
      generalize cutS z none (some ((1 : Nat) : Int)) = one at w1 q1 ⊢
      have q9 : nine.length = 9 := by omega
      have q1 : one.length = 1 := by omega
      obtain ⟨w8, q8⟩ := cut_nat w9 8
      have s9 : nine.length ≤ sizeLine := by rw [sizeLine_eq]; omega
      have r9 : (repS nine 4).length ≤ 10000 := by rw [repS_len]; omega
      have sz6 : (6 : Nat) ≤ sizeLine := by decide
      refine ⟨_, rfl, .inl ⟨"", rfl, by decide, fun H4 x4 => ?_⟩⟩
      refine ⟨_, rfl, nine, 4, rfl, rfl, by decide, by decide, by omega, by omega, _, rfl, .inl ⟨repS nine 4, rfl, r9, fun H5 x5 => ?_⟩⟩
      refine ⟨_, rfl, rfl, _, rfl, .inl ⟨one, rfl, by omega, fun H6 x6 => ?_⟩⟩
      refine ⟨_, rfl, rfl, one, rfl, by omega, fun H7 x7 => ?_⟩
      refine ⟨_, rfl, z, rfl, by omega, fun H8 x8 => ?_⟩
      refine ⟨"", rfl, by decide, fun H9 x9 => ⟨sz6, fun La nLa => ?_⟩⟩
      have x4 : Ext H3 H4 := x4
      have x5 : Ext H4 H5 := x5
      have x6 : Ext H5 H6 := x6
      have xA := ((((((x4.trans x5).trans x6).trans x7).trans x8).trans x9).trans (Ext.new nLa (o := .lst [.bl (isWordS ""), .bl (isWordS (repS nine 4)), .bl (isWordS one), .bl (signS one), .bl (signS z), .bl (signS "")])))
      have lA : (upd H9 La (.lst [.bl (isWordS ""), .bl (isWordS (repS nine 4)), .bl (isWordS one), .bl (signS one), .bl (signS z), .bl (signS "")])) La = some (.lst [.bl (isWordS ""), .bl (isWordS (repS nine 4)), .bl (isWordS one), .bl (signS one), .bl (signS z), .bl (signS "")]) := upd_same
      generalize upd H9 La (.lst [.bl (isWordS ""), .bl (isWordS (repS nine 4)), .bl (isWordS one), .bl (signS one), .bl (signS z), .bl (signS "")]) = G1 at xA lA ⊢
      generalize hA : ([.bl (isWordS ""), .bl (isWordS (repS nine 4)), .bl (isWordS one), .bl (signS one), .bl (signS z), .bl (signS "")] : List V) = lsA at lA
      refine ⟨_, rfl, _, rfl, rfl, z, rfl, by omega, fun H4 x4 => ?_⟩
      refine ⟨_, rfl, 8, rfl, nine, rfl, s9, cutS nine none (some ((8 : Nat) : Int)), rfl, by omega, fun H5 x5 => ?_⟩
      refine ⟨_, rfl, one, rfl, by omega, fun H6 x6 => ⟨_, rfl, nine, rfl, by omega, fun H7 x7 => ⟨"", rfl, by decide, fun H8 x8 => ⟨by show 5 ≤ sizeLine; decide, fun Lb nLb => ?_⟩⟩⟩⟩
      have lenA : lsA.length = 6 := by rw [← hA]; rfl
      generalize hB : ([.bl (markS z), .bl (markS (cutS nine none (some ((8 : Nat) : Int)))), .bl (markS one), .bl (markS nine), .bl (markS "")] : List V) = lsB
      have lenB : lsB.length = 5 := by rw [← hB]; rfl
      have y4 : Ext G1 H4 := x4
      have y8 := ((((y4.trans x5).trans x6).trans x7).trans x8).trans (Ext.new nLb (o := .lst lsB))
      refine ⟨La, Lb, _, _, rfl, rfl, y8 _ _ lA, upd_same, by rw [lenA, lenB]; decide, fun Lc nLc => ?_⟩
      have xB := y8.trans (Ext.new nLc (o := .lst (lsA ++ lsB)))
      have lC : (upd (upd H8 Lb (.lst lsB)) Lc (.lst (lsA ++ lsB))) Lc = some (.lst (lsA ++ lsB)) := upd_same
      generalize upd (upd H8 Lb (.lst lsB)) Lc (.lst (lsA ++ lsB)) = G2 at xB lC ⊢
      have x1B := xA.trans xB
      generalize he8 : cutS nine none (some ((8 : Nat) : Int)) = eight at w8 q8 hB
      have q8 : eight.length = 8 := by omega
      refine ⟨_, rfl, by show 0 ≤ sizeLine; decide, fun ta nta => ⟨false, ta, [], rfl, SqK.t upd_same, by decide, fun y hy => (nomatch hy), fun I1 v1 => ?_⟩⟩
      have v1 : Ext G2 I1 := (Ext.new nta).trans v1
      refine ⟨_, rfl, _, rfl, _, rfl, 8, rfl, nine, rfl, s9, by show 3 ≤ sizeLine; decide, fun tb ntb => ⟨rfl, false, tb, [z, one, cutS nine none (some ((8 : Nat) : Int))], rfl, SqK.t upd_same, (by show 3 ≤ 100; decide), fun y hy => ?_, fun I2 v2 => ?_⟩⟩
      · simp only [List.mem_cons, List.not_mem_nil, or_false] at hy
        rcases hy with h | h | h <;> rw [h]
        · omega
        · omega
        · rw [he8]; omega
      have v2 : Ext I1 I2 := (Ext.new ntb).trans v2
      refine ⟨_, rfl, _, rfl, by show 2 ≤ sizeLine; decide, fun tc ntc => ⟨false, tc, [one, nine], rfl, SqK.t upd_same, (by show 2 ≤ 100; decide), fun y hy => ?_, fun I3 v3 => ?_⟩⟩
      · simp only [List.mem_cons, List.not_mem_nil, or_false] at hy
        rcases hy with h | h <;> rw [h] <;> omega
      have v3 : Ext I2 I3 := (Ext.new ntc).trans v3
      refine ⟨_, rfl, by show 2 ≤ sizeLine; decide, fun td ntd => ⟨false, td, [one, ""], rfl, SqK.t upd_same, (by show 2 ≤ 100; decide), fun y hy => ?_, fun I4 v4 => ⟨by show 4 ≤ sizeLine; decide, fun Ld nLd => ?_⟩⟩⟩
      · simp only [List.mem_cons, List.not_mem_nil, or_false] at hy
        rcases hy with h | h <;> rw [h]
        · omega
        · decide
      have v4 : Ext I3 I4 := (Ext.new ntd).trans v4
      generalize hC : ([.bl (!false && ([] : List Str).all nameS), .bl (!false && [z, one, cutS nine none (some ((8 : Nat) : Int))].all nameS), .bl (!false && [one, nine].all nameS), .bl (!false && [one, ""].all nameS)] : List V) = lsC
      have lenC : lsC.length = 4 := by rw [← hC]; rfl
      have y4 := (((v1.trans v2).trans v3).trans v4).trans (Ext.new nLd (o := .lst lsC))
      refine ⟨Lc, Ld, _, _, rfl, rfl, y4 _ _ lC, upd_same, by rw [List.length_append, lenA, lenB, lenC]; decide, fun Le nLe => ?_⟩
      have xD := (x1B.trans y4).trans (Ext.new nLe (o := .lst (lsA ++ lsB ++ lsC)))
      have lE : (upd (upd I4 Ld (.lst lsC)) Le (.lst (lsA ++ lsB ++ lsC))) Le = some (.lst (lsA ++ lsB ++ lsC)) := upd_same
      generalize hG3 : upd (upd I4 Ld (.lst lsC)) Le (.lst (lsA ++ lsB ++ lsC)) = G3 at xD lE ⊢
      have nE3 : H3 Le = none := by
        cases q : H3 Le with
        | none => rfl
        | some o =>
          have := (x1B.trans y4) _ _ q
          rw [nLe] at this
          cases this
      refine ⟨_, rfl, .inl ⟨rfl, _, SqL.of lE⟩, _, rfl, by show 1 ≤ sizeLine; decide, fun tf ntf => ⟨true, tf, [one], rfl, SqK.l upd_same, (by show 1 ≤ 100; decide), fun y hy => ?_, fun I5 v5 => ?_⟩⟩
      · rw [List.mem_singleton.mp hy]
        omega
      have v5 : Ext G3 I5 := (Ext.new ntf).trans v5
      have lE5 := v5 _ _ lE
      refine ⟨Le, _, _, rfl, rfl, lE5, by rw [List.length_append, List.length_append, lenA, lenB, lenC]; decide, ?_⟩
      have nEa : Le ≠ a := r3.new nE3
      have sz1 : signS one = true := by
        unfold signS
        rw [w1, q1]
        rfl
      have sz0 : signS z = false := by
        unfold signS
        rw [decide_eq_false (by omega), Bool.and_false]
      have n1 : nameS one = true := (sign_name sz1).1
      have nz : nameS z = true := by
        unfold nameS
        rw [wd, decide_eq_true (by omega), decide_eq_true (by omega)]
        rfl
      have n8 : nameS eight = true := by
        unfold nameS
        rw [w8, q8]
        rfl
      have n9 : nameS nine = false := by
        unfold nameS
        rw [q9]
        simp
      have mz : markS z = true := by
        unfold markS
        rw [nz, decide_eq_true (by omega)]
        rfl
      have m8 : markS eight = true := by
        unfold markS
        rw [n8, q8]
        rfl
      have m1 : markS one = false := by
        unfold markS
        rw [q1]
        simp
      have m9 : markS nine = false := by
        unfold markS
        rw [n9]
        rfl
      have em1 : isWordS "" = true := by decide
      have em2 : signS "" = false := by decide
      have em3 : markS "" = false := by decide
      have em4 : nameS "" = false := by decide
      have all : lsA ++ lsB ++ lsC ++ [V.bl (!true && [one].all nameS)] = [V.bl true, V.bl true, V.bl true, V.bl true, V.bl false, V.bl false, V.bl true, V.bl true, V.bl false, V.bl false, V.bl false, V.bl true, V.bl true, V.bl false, V.bl false, V.bl false] := by
        rw [← hA, ← hB, ← hC, he8, em1, repS_word w9 4, w1, sz1, sz0, em2, mz, m8, m1, m9, em3]
        simp [nz, n1, n8, n9, em4]
      rw [all]
      have lG : (upd I5 Le (.lst [V.bl true, V.bl true, V.bl true, V.bl true, V.bl false, V.bl false, V.bl true, V.bl true, V.bl false, V.bl false, V.bl false, V.bl true, V.bl true, V.bl false, V.bl false, V.bl false])) Le = some (.lst [V.bl true, V.bl true, V.bl true, V.bl true, V.bl false, V.bl false, V.bl true, V.bl true, V.bl false, V.bl false, V.bl false, V.bl true, V.bl true, V.bl false, V.bl false, V.bl false]) := upd_same
      have kG : Keep a H (upd I5 Le (.lst [V.bl true, V.bl true, V.bl true, V.bl true, V.bl false, V.bl false, V.bl true, V.bl true, V.bl false, V.bl false, V.bl false, V.bl true, V.bl true, V.bl false, V.bl false, V.bl false])) := kk.trans (Keep.of fun b o e => by
        rw [upd_ne (ne_of_none e nE3)]
        exact v5 _ _ (xD _ _ e))
      have rG : Rng (upd I5 Le (.lst [V.bl true, V.bl true, V.bl true, V.bl true, V.bl false, V.bl false, V.bl true, V.bl true, V.bl false, V.bl false, V.bl false, V.bl true, V.bl true, V.bl false, V.bl false, V.bl false])) a := ((r3.ext xD).ext v5).upd nEa
      generalize upd I5 Le (.lst [V.bl true, V.bl true, V.bl true, V.bl true, V.bl false, V.bl false, V.bl true, V.bl true, V.bl false, V.bl false, V.bl false, V.bl true, V.bl true, V.bl false, V.bl false, V.bl false]) = G4 at lG kG rG ⊢
      refine ⟨by show 16 ≤ sizeLine; decide, fun Lf nLf => ?_⟩
      have xF := Ext.new nLf (o := .lst [V.bl true, V.bl true, V.bl true, V.bl true, V.bl false, V.bl false, V.bl true, V.bl true, V.bl false, V.bl false, V.bl false, V.bl true, V.bl true, V.bl false, V.bl false, V.bl false])
      have lF : (upd G4 Lf (.lst [V.bl true, V.bl true, V.bl true, V.bl true, V.bl false, V.bl false, V.bl true, V.bl true, V.bl false, V.bl false, V.bl false, V.bl true, V.bl true, V.bl false, V.bl false, V.bl false])) Lf = some (.lst [V.bl true, V.bl true, V.bl true, V.bl true, V.bl false, V.bl false, V.bl true, V.bl true, V.bl false, V.bl false, V.bl false, V.bl true, V.bl true, V.bl false, V.bl false, V.bl false]) := upd_same
      generalize upd G4 Lf (.lst [V.bl true, V.bl true, V.bl true, V.bl true, V.bl false, V.bl false, V.bl true, V.bl true, V.bl false, V.bl false, V.bl false, V.bl true, V.bl true, V.bl false, V.bl false, V.bl false]) = G5 at xF lF ⊢
      have lG5 := xF _ _ lG
      have kF := kG.trans (Keep.of xF)
      have rF := rG.ext xF
      have dp : ∀ {b : Addr}, G5 b = some (.lst (dueB.map V.bl)) → Dp K G5 (.ref b) (.list (dueB.map PyData.bool)) := fun {b} h => .lst (SqL.of h) (bls_dp dueB)
      refine ⟨_, rfl, Le, .list (dueB.map PyData.bool), rfl, dp lG5, dueB_ok.1, dueB_ok.2.1, dueB_ok.2.2.1, dueB_ok.2.2.2, _, rfl, Lf, .list (dueB.map PyData.bool), rfl, dp lF, dueB_ok.1, dueB_ok.2.1, dueB_ok.2.2.1, dueB_ok.2.2.2, rfl, _, rfl, ?_⟩
      rw [if_pos (show decide (V.str (PyData.shown (.list (dueB.map PyData.bool))) = V.str (PyData.shown (.list (dueB.map PyData.bool)))) = true by simp)]
      refine ⟨abc, rfl, fun D2 nD2 => ?_⟩
      refine lc_it (walk_str (z := abc)) (fun i H' => Ext G5 H' ∧ H' D2 = some (.lst ((List.replicate i true).map V.bl))) ⟨Ext.new nD2, upd_same⟩ (fun _ _ _ _ => trivial) ?_ ?_
      · rintro i x F1 F2 hi ⟨f1, f2⟩ ⟨rfl, c, hc, rfl⟩
        obtain ⟨c', hc', lc⟩ := abc_at (j := i) hi
        rw [Array.getElem?_toList, hc] at hc'
        cases hc'
        refine ⟨rfl, _, rfl, ⟨#[c]⟩, rfl, (by show 1 ≤ 10000; decide), fun F3 f3 => ?_⟩
        have f3 : Ext F2 F3 := f3
        rw [show signS ⟨#[c]⟩ = true by unfold signS isWordS; simp [lc]; rfl]
        refine ⟨_, f3 _ _ f2, by rw [List.length_map, List.length_replicate]; exact small_list (by have q : i < 26 := hi; omega), fun b o e => ?_, ?_⟩
        · rw [upd_ne (ne_of_none e nD2)]
          exact f3 _ _ (f1 b o e)
        · rw [upd_same, List.replicate_succ', List.map_append]
          rfl
      · rintro F1 ⟨f1, f2⟩
        refine ⟨D2, List.replicate abc.length true, rfl, SqL.of f2, ?_⟩
        have e : (List.replicate abc.length true).all id = true := by simp
        rw [e]
        exact k _ (rF.ext f1) (kF.trans (Keep.of f1))
end
end Sl
/-! ## C15 -/
set_option Elab.async false
set_option linter.all false
set_option maxRecDepth 100000
set_option maxHeartbeats 4000000
/-! the set of a list of texts, of any length -/
namespace TxS
open PySem PySem.Spec PyProof.Rows L2 PySem.Froz
/-- l, and then the texts of xs that are not there yet -/
def addAll : List Str → List Str → List Str
  | l, [] => l
  | l, x :: xs => addAll (if x ∈ l then l else x :: l) xs
theorem addAll_mem : ∀ (xs l : List Str) (k : Str), k ∈ addAll l xs ↔ k ∈ l ∨ k ∈ xs
  | [], l, k => by simp [addAll]
  | x :: xs, l, k => by
    show k ∈ addAll (if x ∈ l then l else x :: l) xs ↔ _
    rw [addAll_mem xs]
    by_cases c : x ∈ l
    · rw [if_pos c, List.mem_cons]
      constructor
      · rintro (z | z)
        · exact .inl z
        · exact .inr (.inr z)
      · rintro (z | rfl | z)
        · exact .inl z
        · exact .inl c
        · exact .inr z
    · rw [if_neg c, List.mem_cons, List.mem_cons]
      constructor
      · rintro ((rfl | z) | z)
        · exact .inr (.inl rfl)
        · exact .inl z
        · exact .inr (.inr z)
      · rintro (z | rfl | z)
        · exact .inl (.inr z)
        · exact .inl (.inl rfl)
        · exact .inr z
theorem addAll_nodup : ∀ (xs l : List Str), l.Nodup → (addAll l xs).Nodup
  | [], l, h => h
  | x :: xs, l, h => by
    show (addAll (if x ∈ l then l else x :: l) xs).Nodup
    refine addAll_nodup xs _ ?_
    by_cases c : x ∈ l
    · rw [if_pos c]
      exact h
    · rw [if_neg c]
      exact List.nodup_cons.mpr ⟨c, h⟩
theorem one_len (l : List Str) (x : Str) : (if x ∈ l then l else x :: l).length ≤ l.length + 1 := by
  split
  · omega
  · simp
theorem StrsAre.pick : ∀ {us : List Value} {xs : List Str}, StrsAre us xs → ∀ (i : Nat) (v : Value), us[i]? = some v → ∃ k t, xs[i]? = some k ∧ v = .str k t
  | _, _, .nil, i, v, h => nomatch h
  | _, _, .cons x u r, 0, v, h => ⟨x, u, rfl, (Option.some.inj h).symm⟩
  | _, _, .cons x u r, i + 1, v, h => StrsAre.pick r i v h
section
variable {P : Program} {w : World} {A : Around} {E : Value → Shared → Prop} {s : Shared} {a : Addr} {l : List Str}
/-- one text into the set -/
theorem setS_put {k : Str} {u : Tok} {Q : Bool → Shared → Prop} (R : SetS P w s.heap a l) (room : l.length + 1 < scanBound)
    (hQ : ∀ b h', Heap.SameBut a s.heap h' → SetS P w h' a (if k ∈ l then l else k :: l) → Q b { s with heap := h', toks := s.toks + 1 }) :
    wpAny (model P w) A (setAdd a (.str k u)) Q E s := by
  obtain ⟨D, ho, G, r, nd⟩ := R
  unfold setAdd
  refine wpAny_holding (wpAny_bind ((strKind P w).pyHash (is_str k u) ?_))
  by_cases c : k ∈ l
  · refine there_x (s := { s with toks := s.toks + 1 }) ho G c (by omega) (hQ _ s.heap (Heap.SameBut.refl a s.heap) ?_)
    rw [if_pos c]
    exact ⟨D, ho, G, r, nd⟩
  · refine add_x (s := { s with toks := s.toks + 1 }) ho G c room (hQ _ _ ?_ ?_)
    · exact Heap.SameBut.update ..
    · rw [if_neg c]
      exact ⟨_, get_upd _ ho rfl, add_ok u G, addTx_walk r, List.nodup_cons.mpr ⟨c, nd⟩⟩
/-- what an iterator gives, put in one after another -/
theorem fillTx {I : Addr} {fp wr : List Addr} {G : Array GenState → Array GenState → Prop} {n : Nat}
    {Pv : Nat → Value → Prop} {St : Nat → Shared → Prop} {R : Result → Shared → Prop}
    (W : WalksS P w A.in1 I fp wr G n Pv St) (S : Addr) (out : S ∉ fp) (xs : List Str) (hn : n = xs.length)
    (val : ∀ i v, Pv i v → ∃ k t, xs[i]? = some k ∧ v = .str k t) :
    ∀ (k i : Nat) (l : List Str) (s : Shared), n - i = k → i ≤ n → l.length + k + 1 < scanBound → St i s → SetS P w s.heap S l →
      (∀ s', Moved (S :: wr) G s s' → SetS P w s'.heap S (addAll l (xs.drop i)) → R (.ok (.ret .none)) s') →
      codeAny (model P w) A (.builtin "set.update.loop" ⟨[.ref S, .ref I], []⟩) R s := by
  have nw : S ∉ wr := fun z => out (W.sub _ z)
  have more : ∀ b ∈ wr, b ∈ S :: wr := fun b z => List.mem_cons_of_mem _ z
  intro k
  induction k with
  | zero =>
    intro i l s e1 e2 room hst have1 fin
    have e3 : i = n := by omega
    subst e3
    refine codeAny_builtin PyProof.Rows.F.entry_set_update_loop ?_
    rw [Around.under_plainId PyProof.Rows.F.plain_set_update_loop _]
    show wpAny _ A.in1 (pyNext (.ref I) >>= _) _ _ s
    refine wpAny_bind (W.done s _ _ hst fun s1 m1 => ?_)
    show wpAny _ A.in1 (ret Value.none) _ _ s1
    rw [show xs.drop i = [] from List.drop_of_length_le (by omega)] at fin
    exact wpAny_pure (fin s1 (m1.mono more) (have1.later fun o e => m1.heap S o nw e))
  | succ k ih =>
    intro i l s e1 e2 room hst have1 fin
    have lt : i < n := by omega
    refine codeAny_builtin PyProof.Rows.F.entry_set_update_loop ?_
    rw [Around.under_plainId PyProof.Rows.F.plain_set_update_loop _]
    show wpAny _ A.in1 (pyNext (.ref I) >>= _) _ _ s
    refine wpAny_bind (W.item i s _ _ lt hst fun v s1 hv st1 m1 => ?_)
    obtain ⟨x, t, hx, rfl⟩ := val i v hv
    have dr : xs.drop i = x :: xs.drop (i + 1) := by
      obtain ⟨hi, ex⟩ := List.getElem?_eq_some_iff.mp hx
      rw [List.drop_eq_getElem_cons hi, ex]
    rw [dr] at fin
    show wpAny _ A.in1 (holding [Value.str x t] (setAdd S (.str x t)) >>= _) _ _ s1
    refine wpAny_bind (wpAny_holding (setS_put (have1.later fun o e => m1.heap S o nw e) (by omega) fun b h2 sb have2 => ?_))
    refine wpAny_pure ⟨plainId_quiet PyProof.Rows.F.plain_set_update_loop _, ?_⟩
    refine ih (i + 1) _ _ (by omega) lt (by have q := one_len l x; omega) ?_ have2 fun s3 m3 have3 => ?_
    · exact W.frame _ s1 _ _ st1 (Nat.le_succ _) fun b hb o e => (sb.2 b fun z => out (z ▸ hb)).trans e
    · refine fin s3 (Moved.trans W.gtrans ?_ m3) have3
      exact (m1.mono more).then_heap (Nat.le_succ _) fun b o hb e => (sb.2 b fun z => hb (z ▸ List.mem_cons_self)).trans e
/-- an empty set, laid anew -/
def emptyS (w : World) : Obj := { cls := .type "set", dict := none, data := .set #[] 0 (.fresh 0 0 (!w.params.followText "set-order")) }
theorem emptyS_at {h : Heap} (e : h.get? a = some (emptyS w)) : SetS P w h a [] := by
  refine ⟨(#[], 0, .fresh 0 0 (!w.params.followText "set-order")), e, TxOk.nil (by rfl), ⟨List.Pairwise.nil, ?_⟩, List.nodup_nil⟩
  show _ ∨ (!w.params.followText "set-order") = true
  cases w.params.followText "set-order"
  · exact .inr rfl
  · exact .inl rfl
end
end TxS
/-! ## C16 -/
set_option Elab.async false
set_option linter.all false
set_option maxRecDepth 100000
set_option maxHeartbeats 4000000
/-! the set of a list of texts: the call -/
namespace TxS
open PySem PySem.Spec PyProof.Rows L2 PySem.Froz
section
variable {P : Program} {w : World} {A : Around} {E : Value → Shared → Prop} {s : Shared}
theorem call_set_listTx {l : Addr} {items : Array Value} {xs : List Str} {Q : Value → Shared → Prop} (calm : A.handled = none) (isl : s.heap.IsList l items)
    (txs : StrsAre items.toList xs) (room : xs.length + 1 < scanBound)
    (fin : ∀ (h' : Heap) (tk : Nat), SetS P w h' s.heap.objs.size (addAll [] xs) →
      (∀ b o, s.heap.get? b = some o → h'.get? b = some o) → Q (.ref s.heap.objs.size) { s with heap := h', toks := tk }) :
    wpAny (model P w) A (call (.type "set") [.ref l]) Q E s := by
  have many : items.size = xs.length := by
    have q := strs_len txs
    rw [Array.length_toList] at q
    exact q.symm
  have mro := PySem.F.called_set.mro
  obtain ⟨top, rest, mro⟩ := mro
  have made := PySem.F.called_set.made
  have subs := PySem.F.called_set.sub
  have notType := PySem.F.called_set.notType
  have canBe := PySem.F.called_set.canCreate
  have checked := PySem.F.typeCall_set_1 (.ref l)
  refine wpAny_call (codeAny_of_tree ?_)
  show wpAny _ _ (callAny (.type "set") _) _ _ _
  refine wpAny_pure ⟨Code.quiet_builtin _ (by decide +kernel),
    codeAny_builtin PySem.F.entry_type_call ?_⟩
  rw [Around.under_plain (weight_type_call_type "set" [.ref l] [])
    rfl]
  repeat (any_goals (first | assumption | wp_step))
  let s0 : Shared := { s with heap := s.heap.push (emptyS w) }
  refine codeAny_mono (code_set_led1 (.ref l) (E := E) (Q₁ := fun v t => v = .ref s.heap.objs.size ∧ t = s0) ⟨rfl, rfl⟩) fun r t hr => ?_
  cases r with
  | error e => exact hr
  | ok fl =>
    cases fl with
    | ret v =>
      obtain ⟨rfl, rfl⟩ := hr
      have at0 : s0.heap.get? s.heap.objs.size = some (emptyS w) := Heap.get?_push_size _ rfl
      have ty : s0.TypeIs (.ref s.heap.objs.size) "set" := ⟨_, at0, rfl⟩
      have look := PySem.F.called_set.init.lookup
      have binds := PySem.F.called_set.init.bind (.ref s.heap.objs.size)
      repeat (any_goals (first | assumption | wp_step))
      refine codeAny_mono (codeAny_call_builtin (R := wants (fun v t => v = .none ∧ ∃ h' tk, t = { s with heap := h', toks := tk } ∧
          SetS P w h' s.heap.objs.size (addAll [] xs) ∧ (∀ b o, s.heap.get? b = some o → h'.get? b = some o)) E)
        PySem.F.called_set.init.plain PySem.F.entry_set_init (check_set_init_1 ty ?_)) fun r2 t2 hr2 => ?_
      · obtain ⟨⟨cl, di, da, sl⟩, ho, hc, nl, hd⟩ := isl
        simp only at hc hd
        subst hc
        subst hd
        have ho1 : s0.heap.get? l = some { cls := .type "list", dict := di, data := .seq items nl, slots := sl } := Heap.get?_push_of_some _ ho
        have isl1 : s0.heap.IsList l items := ⟨_, ho1, rfl, nl, rfl⟩
        have not1 := PySem.F.sub_list_set
        have not2 := PySem.F.sub_list_frozenset
        have not3 : (Value.type "list" == Value.type "dict") = false := by decide
        have lt : l < s.heap.objs.size := Heap.lt_size ho
        have size0 : s0.heap.objs.size = s.heap.objs.size + 1 := Heap.size_push ..
        unfold Builtin.«set.__init__» noKeywords Builtin.Frozenset.updateFrom
        generalize named : pyIter = PI
        have g0 : s0.gens = s.gens := rfl
        have d0 : s0.drawn = s.drawn := rfl
        have o0 : s0.os = s.os := rfl
        have old0 : ∀ b o, s.heap.get? b = some o → s0.heap.get? b = some o := fun b o e => Heap.get?_push_of_some _ e
        generalize s0 = z at *
        wp_walk
        subst named
        refine wpAny_pyIter_list isl1 (wpAny_bind (wpAny_runValue ?_))
        have hA : A.in1.in1.in1.handled = none := by
          rw [← calm]
        have apart : l ≠ z.heap.objs.size := Nat.ne_of_lt (by rw [size0]; exact Nat.lt_succ_of_lt lt)
        have out : s.heap.objs.size ∉ [z.heap.objs.size, l] := by
          intro c
          rcases List.mem_cons.mp c with e | c
          · rw [size0] at e
            exact absurd e (Nat.ne_of_lt (Nat.lt_succ_self _))
          · exact absurd (List.mem_singleton.mp c) (Nat.ne_of_gt lt)
        have val : ∀ (i : Nat) (v : Value), items[i]? = some v → ∃ k t, xs[i]? = some k ∧ v = .str k t := fun i v e =>
          StrsAre.pick txs i v (by rw [Array.getElem?_toList]; exact e)
        refine fillTx ((Walks.list hA _ l apart items).toS) s.heap.objs.size out xs many val (items.size - 0) 0 [] _ rfl (Nat.zero_le _) ?_ ?_ ?_ ?_
        · show 0 + (items.size - 0) + 1 < scanBound
          omega
        · exact ⟨⟨_, Heap.get?_push_size _ rfl, rfl, rfl⟩, isl1.push _⟩
        · exact emptyS_at (Heap.get?_push_of_some _ at0)
        · intro s3 m3 got
          obtain ⟨h3, g3, d3, t3, o3⟩ := s3
          have eg : g3 = s.gens := m3.gens.trans g0
          have ed : d3 = s.drawn := m3.drawn.trans d0
          have eo : o3 = s.os := m3.os.trans o0
          subst eg ed eo
          show wpAny _ _ _ _ _ _
          refine wpAny_pure ?_
          show wpAny _ _ (ret Value.none) _ _ _
          refine wpAny_pure ⟨rfl, h3, t3, rfl, got, fun b o e => ?_⟩
          have lb : b < s.heap.objs.size := Heap.lt_size e
          refine m3.heap b o (fun c => ?_) (Heap.get?_push_of_some _ (old0 b o e))
          rcases List.mem_cons.mp c with e | c
          · exact absurd e (Nat.ne_of_lt lb)
          · refine absurd (List.mem_singleton.mp c) (Nat.ne_of_lt ?_)
            rw [size0]
            exact Nat.lt_succ_of_lt lb
      · cases r2 with
        | error e => exact hr2
        | ok fl2 =>
          cases fl2 with
          | ret v =>
            obtain ⟨rfl, h', tk, rfl, got, old⟩ := hr2
            repeat (any_goals (first | assumption | wp_step))
            exact fin _ _ got old
          | _ => exact hr2.elim
    | _ => exact hr.elim
end
end TxS
/-! ## C17 -/
set_option Elab.async false
set_option linter.all false
set_option maxRecDepth 100000
set_option maxHeartbeats 4000000
/-! sorted(set(list of texts)); the things that the law's model tells -/
namespace Sl
open PySem PySem.Spec PyProof.Rows L2 TxS
/-- set(list of texts) -/
def rSetTx (P : Program) (w : World) : List V → Hp → VK → Prop := fun vs H Q => ∃ (l : Addr) (xs : List Str), vs = [V.ref l] ∧ H l = some (.lst (xs.map V.str)) ∧ xs.length + 1 < scanBound ∧
  ∀ p, H p = none → Q (.ref p) (upd H p (SetSO P w p (addAll [] xs)))
theorem cr_setTx {X : Cx} (hc : X.calm = true) : CallR X (.type "set") (rSetTx X.prog X.w) := by
  intro pins s σ H vs us Q I r h
  obtain ⟨l, xs, rfl, hl, room, q⟩ := h
  rw [Vals.ref1 r]
  obtain ⟨its, rv, pl, hz⟩ := I.list (SqL.of (K := X.K) hl)
  refine call_set_listTx (I.ok.hd hc) pl.isList (by simpa using strsAre_of rv) room fun h' tk got old => ?_
  have nS : H s.heap.objs.size = none := I.hok.fresh (Nat.le_refl _)
  exact ⟨.ref _, _, I.laid (a := s.heap.objs.size) (t' := tk) old (Nat.le_refl _) (setSO_new got), rfl, q _ nS⟩
theorem told_len {rows : List Rw} : ∀ {n : Nat}, rows.length ≤ n → (∀ r ∈ rows, r.length < 64) → (toldsOf rows).length ≤ 64 * n := by
  induction rows with
  | nil => intro n _ _; exact Nat.zero_le _
  | cons r rows ih =>
    intro n hn h
    cases n with
    | zero => simp at hn
    | succ n =>
      have a := ih (n := n) (by rw [List.length_cons] at hn; omega) fun r' hr => h r' (List.mem_cons_of_mem _ hr)
      have b : (r.filterMap fun e => e.2.2).length ≤ r.length := List.length_filterMap_le ..
      have c := h r List.mem_cons_self
      unfold toldsOf at a ⊢
      rw [List.flatMap_cons, List.length_append]
      omega
abbrev sThings : Stmt := top 33
def spThings : Sp := fun vs H Q _ => ∃ (M L E : Addr) (ds : List Addr) (rows : List Rw) (ns : List Int) (b : Int) (B : List Str), vs = [.ref M] ∧ ModelAt H M L E ds rows ns b ∧ rows.length ≤ 12 ∧ (∀ r ∈ rows, r.length < 64) ∧
  (∀ z ∈ toldsOf rows, z ∈ B) ∧ B.length < 64 ∧ ∀ (H' : Hp) (p : Addr) (ts : List Str), Ext H H' → H p = none → H' p = some (.lst (ts.map V.str)) → Gath ts (toldsOf rows) → sortedS ts = true → Q (.ref p) H'
section
variable {P : Program} {w : World} {K : PySem.W.Frag} {mg : Str → Option Value} {base : Heap}
theorem scThings : FnScope ["_law_model_here", "_law_found", "_law_line", "_law_told", "_law_goal"] ["_law_model_here"] (defScope sThings) := ⟨rfl, rfl, rfl, by decide +kernel, rfl, by decide +kernel, by decide +kernel⟩
theorem ok_things {f : Addr} {fd : FuncData} (F : Fun K "_law_things" "_law_things" sThings f fd) (zs : mg "sorted" = none) (zt : mg "set" = none) :
    FnOk P w K mg base CX0 1 f fd ["_law_model_here"] spThings := by
  refine F.ok scThings (fun vs H Q E h => ?_) (fun cdv A0 outer s H vs Q E0 hr h => ?_)
  · obtain ⟨M, L, E, ds, rows, ns, b, B, rfl, _⟩ := h
    rfl
  · obtain ⟨M, L, E, ds, rows, ns, b, B, rfl, hM, l12, l64, hB, hB64, q⟩ := h
    refine ⟨_, pss_cons (ps_set (i := 1) scThings.nd rfl (.inl rfl) (pe_lst pa_nil))
      (pss_cons (ps_for PassesOwn.never rfl (pi_list (pe_ix ix_tup (pv 0) pe_int (fun _ _ => rfl))) (pg_name (i := 2) scThings.nd rfl (.inl rfl))
        (pss_one (ps_set (i := 1) scThings.nd rfl (.inl rfl) (pe_op op_cat (pv 1) (pe_lockN (pe_lc (own := [("_law_told", 3), ("_law_goal", 4)]) (g := gTup K 2 (gCons (gName 4) (gCons (gName 3) gNil))) (tt := tTest (tOp rNotN (tVar 3) (tC .non))) rfl scThings.nd (pi_values (pv 2))
          (blkOk_by (N := ["_law_model_here", "_law_found", "_law_line", "_law_told", "_law_goal"]) (sc := defScope sThings) (by decide +kernel))
          (fun _ _ _ _ _ => pg_tup rfl (pgs_cons (pg_name (i := 4) scThings.nd rfl (Or.inl rfl)) (pgs_cons (pg_name (i := 3) scThings.nd rfl (Or.inl rfl)) pgs_nil))) (fun _ _ _ _ _ => pts_one (pt_cmpR op_notN (pv 3) pe_non (nomark _))) (fun _ _ _ _ _ => pv 3)) 1)))))
      (pss_one (ps_ret (pe_callB (cr_sortedTx rfl) (by rfl) zs (by decide +kernel) (pa_cons (pe_callTy (cr_setTx rfl) (by rfl) zt (by decide +kernel) (pa_cons (pv 1) pa_nil)) pa_nil))))), ?_⟩
    have nu : ∀ {a : Addr} {o : HO} {d : Addr} {kvs : List (Key × V)} {H0 : Hp}, H0 a = some o → (∀ kvs, o ≠ .dK kvs) → H0 d = some (.dK kvs) → a ≠ d := fun {a o d kvs H0} e no e2 z => by
      rw [z, e2] at e
      cases e
      exact no _ rfl
    refine ⟨(by show 0 ≤ sizeLine; omega), fun F nF => ⟨_, rfl, ?_⟩⟩
    have x1 := Ext.new nF (o := .lst [])
    have hF1 : (upd H F (.lst [])) F = some (.lst (([] : List Str).map V.str)) := upd_same
    generalize upd H F (.lst []) = H1 at x1 hF1 ⊢
    refine ⟨M, _, _, .ref L, rfl, rfl, SqT.of (x1 _ _ hM.h1), atI_nat (j := 0) rfl, L, rfl, ⟨_, SqL.of (x1 _ _ hM.h2)⟩, ?_⟩
    refine for_it (walk_list (xs := ds.map V.ref)) (fun i σ H' => ∃ F v2 v3 v4, σ = [some (.ref M), some (.ref F), v2, v3, v4] ∧ Ext H H' ∧ H' F = some (.lst ((toldsOf (rows.take i)).map V.str)))
      ⟨F, none, none, none, rfl, x1, hF1⟩ (fun i σ H' _ ⟨_, _, _, _, _, x, _⟩ => SqL.of (x _ _ hM.h2)) ?_ ?_
    · rintro i x σ H2 H3 hi ⟨F2, v2, v3, v4, rfl, x2, hF2⟩ ⟨rfl, hx⟩
      obtain ⟨d, hd, rfl⟩ := at_map hx
      obtain ⟨r, hri, es, he1, he2⟩ := hM.h3.at_ hd
      have d2 := x2 _ _ he1
      refine ⟨_, rfl, lockN_read (ds := [d]) (by simp) (fun d' hd' => by rw [List.mem_singleton.mp hd']; exact ⟨_, d2⟩) fun od => ?_⟩
      have dl : lockH od [d] H3 d = some (.frz (od d) (.dK (kvsOf es))) := by
        unfold lockH
        rw [if_pos List.mem_cons_self, d2]
        rfl
      have out : ∀ b o, H3 b = some o → b ≠ d → lockH od [d] H3 b = some o := fun b o e n => by
        unfold lockH
        rw [if_neg (by simpa using n)]
        exact e
      have nFd : F2 ≠ d := nu hF2 (fun _ z => by cases z) d2
      refine ⟨_, rfl, d, od d, kvsOf es, rfl, dl, fun D nD => ?_⟩
      have nDd : D ≠ d := fun z => by
        rw [z, dl] at nD
        cases nD
      refine lc_it walk_values (fun j H' => Ext (lockH od [d] H3) H' ∧ H' D = some (.lst ((tellsAll (r.take j)).map V.str))) ⟨Ext.new nD, upd_same⟩ (fun j H' _ h => h.1 _ _ dl) ?_ ?_
      · rintro j x H4 H5 hj ⟨g1, g2⟩ ⟨rfl, k, hk⟩
        unfold kvsOf at hk
        rw [List.getElem?_map] at hk
        cases e : es[j]? with
        | none =>
          rw [e] at hk
          cases hk
        | some e0 =>
          rw [e] at hk
          have hk := Option.some.inj hk
          obtain ⟨rfl, rfl⟩ := Prod.mk.inj hk
          obtain ⟨m, hm, mt⟩ := he2.at_ e
          have mt : H e0.2 = some (.tup [.int m.1, toldV m.2]) := mt
          have mt2 := x2 _ _ mt
          have mt4 := g1 _ _ (out _ _ mt2 (nu mt2 (fun _ z => by cases z) d2))
          have e2 : tellsAll (r.take (j + 1)) = tellsAll (r.take j) ++ m.2.toList := by
            unfold tellsAll
            rw [take_more hm, List.filterMap_append]
            obtain ⟨mg, mo⟩ := m
            cases mo <;> rfl
          refine ⟨e0.2, _, rfl, SqT.of mt4, rfl, _, _, rfl, _, _, rfl, rfl, rfl, ?_⟩
          obtain ⟨mg, mo⟩ := m
          cases mo with
          | none =>
            refine ⟨_, rfl, rfl, false, rfl, ?_⟩
            refine ⟨g1, ?_⟩
            have e3 : tellsAll (r.take (j + 1)) = tellsAll (r.take j) := by
              rw [e2]
              exact List.append_nil _
            rw [e3]
            exact g2
          | some z0 =>
            refine ⟨_, rfl, rfl, true, rfl, ?_⟩
            refine ⟨_, rfl, _, g2, ?_, fun b o eb => by rw [upd_ne (ne_of_none eb nD)]; exact g1 b o eb, ?_⟩
            · rw [List.length_map]
              exact small_list (Nat.le_trans (List.length_filterMap_le ..) (by rw [List.length_take]; have := l64 r (List.mem_of_getElem? hri); omega))
            · rw [upd_same, e2, List.map_append]
              rfl
      · rintro H4 ⟨g1, g2⟩
        have e1 : (kvsOf es).length = r.length := by
          unfold kvsOf
          rw [List.length_map, he2.len]
        rw [e1, List.take_length] at g2
        have fr : ∀ b, b ≠ d → freeH [d] H3 H4 b = H4 b := fun b n => by
          unfold freeH
          rw [if_neg (by simpa using n)]
        have frd : freeH [d] H3 H4 d = H3 d := by
          unfold freeH
          rw [if_pos List.mem_cons_self]
        have x4 : Ext H3 (freeH [d] H3 H4) := fun b o e => by
          by_cases c : b = d
          · rw [c, frd, ← c]
            exact e
          · rw [fr b c]
            exact g1 _ _ (out _ _ e c)
        have hF4 := x4 _ _ hF2
        have hD4 := (fr D nDd).trans g2
        have e2 : toldsOf (rows.take (i + 1)) = toldsOf (rows.take i) ++ tellsAll r := by
          unfold toldsOf tellsAll
          rw [take_more hri, List.flatMap_append]
          simp
        have i12 : i < rows.length := (List.getElem?_eq_some_iff.mp hri).1
        have lt1 : (toldsOf (rows.take i)).length ≤ 64 * 12 := told_len (by rw [List.length_take]; omega) fun r hr => l64 r (List.mem_of_mem_take hr)
        have lt2 : (tellsAll r).length ≤ 64 := Nat.le_trans (List.length_filterMap_le ..) (Nat.le_of_lt (l64 r (List.mem_of_getElem? hri)))
        generalize freeH [d] H3 H4 = H6 at x4 hF4 hD4 ⊢
        refine ⟨fun d' hd' => by rw [List.mem_singleton.mp hd']; exact (g1 _ _ dl).trans dl.symm, F2, D, _, _, rfl, rfl, hF4, hD4, by rw [List.length_map, List.length_map]; exact Nat.le_of_lt (small_list (by omega)), fun p np => ?_⟩
        refine ⟨p, _, _, _, rfl, (x2.trans x4).trans (Ext.new np), ?_⟩
        rw [upd_same, e2, List.map_append]
    · rintro σ H2 ⟨F2, v2, v3, v4, rfl, x2, hF2⟩
      have le : (ds.map V.ref).length = rows.length := by rw [List.length_map, hM.h3.len]
      rw [le, List.take_length] at hF2
      have lt1 : (toldsOf rows).length ≤ 64 * 12 := told_len l12 l64
      refine ⟨_, rfl, F2, _, rfl, hF2, by unfold scanBound; omega, fun S nS => ?_⟩
      have g : Gath (addAll [] (toldsOf rows)) (toldsOf rows) := ⟨addAll_nodup _ _ List.nodup_nil, fun z => by rw [addAll_mem]; simp⟩
      have x3 := x2.trans (Ext.new nS (o := SetSO P w S (addAll [] (toldsOf rows))))
      refine ⟨S, _, rfl, upd_same, (g.room hB hB64).1, fun ys p pm sr np => ?_⟩
      exact q _ p ys (x3.trans (Ext.new np)) (x3.free np) upd_same (g.perm pm) sr
end
end Sl
/-! ## C18 -/
set_option Elab.async false
set_option linter.all false
set_option maxRecDepth 100000
set_option maxHeartbeats 4000000
/-! a class method called with names too; a class in a slot, called with names too -/
namespace Sl
open PySem PySem.Spec PyProof.Rows L2
/-- the promise of a class method's def: the class at C, further values, and the named ones ks -/
def OfFn (P : Program) (w : World) (K : PySem.W.Frag) (mg : Str → Option Value) (base : Heap) (k : Nat) (f C : Addr) (ks : List Str) (sp : List V → List V → Hp → VK → Prop) : Prop :=
  ∀ (A : Around) (outer : List Env) (s : Shared) (H : Hp) (us : List Value) (vs : List V) (ws : List Value) (zs : List V) (Q : VK), Room k A → Env0 P w K mg base A outer s H → Vals vs us → Vals zs ws → zs.length = ks.length → sp vs zs H Q →
    codeAny (model P w) A (.call (.ref f) ⟨.ref C :: us, ks.zip ws⟩) (CR CX0 outer P w H s Q (fun _ _ _ => False)) s
section
variable {X : Cx} {k n : Nat} {C p g : Addr} {mc : Value} {x m : Str} {o e : Expr} {es : List Expr} {kws : List Keyword} {ks : List Str} {ta : TE} {t tk : TA} {pl : Sem Bool} {apos pos np : Pos}
def tOfK (C : Addr) (n : Nat) (sp : List V → List V → Hp → VK → Prop) (ta : TE) (t tk : TA) : TE := fun σ H Q => ta σ H fun x H1 => x = .ref C ∧ t σ H1 fun vs H2 => tk σ H2 fun zs H3 => zs.length = n ∧ sp vs zs H3 Q
theorem pe_of {sp : List V → List V → Hp → VK → Prop} (he : PE X o ta) (r : ClX.CRead X.K C mc) (c : ClX.CMet X.K C mc m p g) (F : OfFn X.prog X.w X.K X.mg X.base k g C ks sp) (hr : Room k X.A) (ha : PA X (e :: es) t) (hkw : PK X kws tk)
    (hall : (backToKw pos (keywordEach kws X.env)).all (·.1.isSome) = true := by rfl) (hks : (backToKw pos (keywordEach kws X.env)).filterMap (·.1) = ks := by rfl)
    (hst : starEach (e :: es) X.env = (false, eval e X.env) :: starEach es X.env := by rfl)
    (hpl : ((backTo pos (starEach (e :: es) X.env)).any (·.1) || (backToKw pos (keywordEach kws X.env)).any (·.1.isNone)) = false := by rfl)
    (ht : eval (.Call (.Attribute o m apos) (e :: es) kws pos) X.env = (do
      let ov ← eval o X.env
      standAt apos.atName
      let (f, first) ← holding [ov] (getMethod ov m pl)
      callWith pos f first (backTo pos (starEach (e :: es) X.env)) (backToKw pos (keywordEach kws X.env))) := by rfl) :
    PE X (.Call (.Attribute o m apos) (e :: es) kws pos) (tOfK C ks.length sp ta t tk) := by
  refine ⟨fun pins s σ H Q I h => PySem.W.methodCall_KW (pl := pl) (thn (he.run pins s σ H _ I h) fun u s1 ⟨x, H1, I1, rx, ex, q⟩ => ?_) ht⟩
  subst ex
  obtain rfl : u = Value.ref C := rx
  refine ClX.getmethcm_ok I1 r c fun s2 I2 => PySem.W.callWith_of hpl (PySem.W.keeps_M (q := s1.heap.objs.size) (self := .ref C) c.fi) (evalArgs_kw2 hall ?_ hst)
  refine thn (ha.run pos _ s2 σ H1 _ I2 q) fun us s3 ⟨vs, H2, I3, rv, q2⟩ => ?_
  refine thn (hkw.run pos _ s3 σ H2 _ I3 q2) fun ws s4 ⟨zs, H3, I4, rz, l4, q4⟩ => ⟨⟨ClX.pin_at I4, I4.kIn⟩, ?_⟩
  rw [hks]
  have z : wpAny (model X.prog X.w) X.A (call (.ref s1.heap.objs.size) us (ks.zip ws)) (EP X ((s1.heap.objs.size, PySem.W.methodObj (.ref g) (.ref C)) :: pins) σ Q) X.xe s4 := by
    refine wpAny_call (PySem.W.method_call (ClX.pin_at I4) (codeAny_mono (F X.A X.stack s4 H3 us vs ws zs Q hr I4.env0 rv rz l4 q4) fun r s' hq => ?_))
    cases r with
    | error e => exact hq.elim
    | ok fl =>
      cases fl with
      | ret u => exact I4.after hq
      | next => exact hq.elim
      | brk => exact hq.elim
      | cont => exact hq.elim
  exact thn z fun _ _ y => ClX.unpinE y
def tMakeKL (i : Nat) (C : Addr) (n m : Nat) (sp : Sp) (gV : List V → List V → List V) (E : XK) (t tk : TA) : TE := fun σ H Q => σ[i]? = some (some (.ref C)) ∧ tMakeK C n m sp gV E t tk σ H Q
theorem pe_makeKL {CX : CXT} {i : Nat} {f : Addr} {fd : FuncData} {ps : List Str} {sp : Sp} {E : XK} {ga : List Value → List Value → List Value} {gV : List V → List V → List V} (M : Mk X.K C f) (F : FnOk X.prog X.w X.K X.mg X.base CX k f fd ps sp) (hr : Room (k + 1) X.A)
    (hN : X.N[i]? = some x) (hv : Vis X.env.scope x) (hb : KBn X.K fd ps (n + 1) ks ga gV) (hx : Passes CX X E) (ha : PA X (e :: es) t) (hkw : PK X kws tk)
    (hall : (backToKw pos (keywordEach kws X.env)).all (·.1.isSome) = true := by rfl) (hks : (backToKw pos (keywordEach kws X.env)).filterMap (·.1) = ks := by rfl) (hdb : (x == ("__debug__" : Str)) = false := by decide) (hcd : (x == ("__classdict__" : Str)) = false := by decide)
    (hst : starEach (e :: es) X.env = (false, eval e X.env) :: starEach es X.env := by rfl) (hpl : ((backTo pos (starEach (e :: es) X.env)).any (·.1) || (backToKw pos (keywordEach kws X.env)).any (·.1.isNone)) = false := by rfl) :
    PE X (.Call (.Name x np) (e :: es) kws pos) (tMakeKL i C n ks.length sp gV E t tk) := by
  refine ⟨fun pins s σ H Q I h => ?_⟩
  obtain ⟨hs, h⟩ := h
  refine wpAny_Call_Name_kw (thn ((pe_var (pos := np) hN hv hdb hcd).run pins s σ H (fun v H1 => v = .ref C ∧ H1 = H) I ⟨.ref C, hs, rfl, rfl⟩) fun u s1 ⟨v, H1, I1, r1, q1⟩ => ?_)
  obtain ⟨rfl, rfl⟩ := q1
  cases r1
  refine PySem.W.callWith_KW (h₀ := X.base) I.ok.mod.kin M.kp hall (thn (ha.run pos pins s1 σ _ _ I1 h) fun us s1 ⟨vs, H1, I1, r, q⟩ => ?_) hpl hst
  refine thn (hkw.run pos pins s1 σ H1 _ I1 q) fun ws s2 ⟨zs, H2, I2, rz, l1, l2, q2⟩ => ⟨I2.kIn, ?_⟩
  rw [hks]
  exact run_makeK M F hr hb hx I2 r rz l1 l2 q2
end
end Sl
/-! ## C19 -/
set_option Elab.async false
set_option linter.all false
set_option maxRecDepth 100000
set_option maxHeartbeats 4000000
/-! Reader.of -/
namespace Sl
open PySem PySem.Spec PyProof.Rows L2
abbrev sOf : Stmt := inClass (top 23) 4
/-- looks into the dict at D, one behind another, and then a new tuple of what is left over -/
def KwStar {α : Type} (D : Addr) (rest : List Value) (F : Value → α) : List (Str × Value) → Sem α → Prop
  | [], t => t = (newTuple rest >>= fun v => pure (F v))
  | q :: l, t => ∃ (β γ : Type) (k1 : Option Value → Sem β) (k2 : β → Sem γ) (k3 : γ → Sem α) (a : β), t = ((nsGet D q.1 >>= k1) >>= k2) >>= k3 ∧ k1 (some q.2) = pure a ∧ KwStar D rest F l (k2 a >>= k3)
theorem KwStar.wp {α : Type} {P : Program} {w : World} {A : Around} {E : Value → Shared → Prop} {K : PySem.W.Frag} {s : Shared} {D : Addr} {rest : List Value} {F : Value → α} {Q : α → Shared → Prop} (X : K.In s.heap) (room : rest.length ≤ sizeLine)
    (q : Q (F (.ref s.heap.objs.size)) { s with heap := s.heap.push { cls := .type "tuple", data := .seq rest.toArray } }) :
    ∀ {l : List (Str × Value)} {t : Sem α}, (∀ q ∈ l, PySem.W.nsIn K D q.1 = some (some q.2)) → KwStar D rest F l t → wpAny (model P w) A t Q E s
  | [], t, _, e => by
    rw [show t = (newTuple rest >>= fun v => pure (F v)) from e]
    exact wpAny_bind (wpAny_newTuple (wpAny_pure q) room)
  | y :: l, t, hl, e => by
    obtain ⟨β, γ, k1, k2, k3, a, e1, e2, e3⟩ := e
    have l1 : PySem.W.Looks (model P w) s.heap (nsGet D y.1 >>= k1) a := (PySem.W.looks_nsIn X (hl y (List.mem_cons_self ..))).andThen (PySem.W.Looks.of_pure e2)
    rw [e1, bind_assoc]
    exact wpAny_bind (l1.here (KwStar.wp X room q (fun p hp => hl p (List.mem_cons_of_mem _ hp)) e3))
def psOf : List Str := ["cls", "ends", "start", "states"]
section
variable {doc pm cdv ct kV : Value} {an : Option Addr} {D : Addr}
abbrev fdOf (kV doc pm : Value) (an : Option Addr) (cdv ct : Value) : FuncData := PySem.W.fnOf "of" "Reader.of" (defArgs sOf) (defBody sOf) (defScope sOf) .none kV doc pm an cdv ct
theorem bind_ofK (c e b : Value) : ∀ rest : List Value, bindArgs (fdOf kV doc pm an cdv ct) ⟨c :: rest, [("ends", e), ("start", b)]⟩ = (newTuple rest >>= fun t => pure (psOf.zip [c, e, b, t]))
  | [] => rfl
  | _ :: _ => rfl
theorem bind_of0 (c e b : Value) : ∀ rest : List Value, KwStar D rest (fun t => psOf.zip [c, e, b, t]) [("ends", e), ("start", b)] (bindArgs (fdOf (.ref D) doc pm an cdv ct) ⟨c :: rest, []⟩)
  | [] => ⟨_, _, _, _, _, _, rfl, rfl, _, _, _, _, _, _, rfl, rfl, rfl⟩
  | _ :: _ => ⟨_, _, _, _, _, _, rfl, rfl, _, _, _, _, _, _, rfl, rfl, rfl⟩
end
theorem scOf : FnScope ["cls", "ends", "start", "states"] ["cls", "ends", "start", "states"] (defScope sOf) := ⟨rfl, rfl, rfl, by decide +kernel, rfl, by decide +kernel, by decide +kernel⟩
end Sl
/-! ## C20 -/
set_option Elab.async false
set_option linter.all false
set_option maxRecDepth 100000
set_option maxHeartbeats 4000000
/-! Reader.of: what it promises -/
namespace Sl
open PySem PySem.Spec PyProof.Rows L2 TxS
/-- right arguments of a reader, but for the list or tuple of its states -/
structure MkA (K : PySem.W.Frag) (H : Hp) (ke : Bool) (En : Addr) (ds : List Addr) (rows : List Rw) (ns : List Int) (b : Int) : Prop where
  hr : RowsAt H ds rows
  l1 : 1 ≤ rows.length
  l12 : rows.length ≤ 12
  ok : ∀ r ∈ rows, okRow rows.length r ∧ (r.map (·.1)).Nodup ∧ r.length < 64
  hE : SqK K ke H En (ns.map V.int)
  nl : ns.length < 64
  nnd : ns.Nodup
  nin : ∀ i ∈ ns, 0 ≤ i ∧ i < rows.length
  b0 : 0 ≤ b
  bn : b < rows.length
  AB : ∃ A B : List Str, (∀ z ∈ keysOf rows, z ∈ A) ∧ A.length ≤ 6 ∧ (∀ z ∈ toldsOf rows, z ∈ B) ∧ B.length < 64 ∧ (B.filter signS).length ≤ 4 ∧ (B.filter markS).length ≤ 6
theorem MkA.ext {K : PySem.W.Frag} {H H' : Hp} {ke : Bool} {En : Addr} {ds : List Addr} {rows : List Rw} {ns : List Int} {b : Int} (m : MkA K H ke En ds rows ns b) (x : Ext H H') : MkA K H' ke En ds rows ns b :=
  ⟨m.hr.ext x, m.l1, m.l12, m.ok, m.hE.ext x, m.nl, m.nnd, m.nin, m.b0, m.bn, m.AB⟩
theorem NewR.ext {C x : Addr} {H H1 H' : Hp} (n : NewR C H1 H' x) (e : Ext H H1) : NewR C H H' x := by
  obtain ⟨dx, fs, L, ds, Te, M, a1, a2, a3, a4, a5, a6, a7, a8, a9⟩ := n
  exact ⟨dx, fs, L, ds, Te, M, a1, a2, a3, a4, a5, e.free a6, e.free a7, e.free a8, fun d hd => e.free (a9 d hd)⟩
/-- what comes of a reader made of them -/
def Out (C : Addr) (H : Hp) (rows : List Rw) (ns : List Int) (b : Int) (Q : VK) : Prop := ∀ (H' : Hp) (x : Addr) (rows' : List Rw) (ns' : List Int) (ys ts : List Str), Ext H H' → H x = none → Ascs rows rows' → ns'.Perm ns → ns'.Pairwise (· ≤ ·) →
  Gath ys (keysOf rows) → sortedS ys = true → Gath ts (toldsOf rows) → sortedS ts = true → ReaderX C H' x rows' ns' b ys ts → NewR C H H' x → Q (.ref x) H'
theorem Out.ext {C : Addr} {H H1 : Hp} {rows : List Rw} {ns : List Int} {b : Int} {Q : VK} (o : Out C H rows ns b Q) (x : Ext H H1) : Out C H1 rows ns b Q := fun H' p rows' ns' ys ts y n a1 a2 a3 a4 a5 a6 a7 a8 a9 => o H' p rows' ns' ys ts (x.trans y) (x.free n) a1 a2 a3 a4 a5 a6 a7 a8 (a9.ext x)
/-- __init__ of right arguments -/
theorem made_init {K : PySem.W.Frag} {C S En : Addr} {H : Hp} {ks ke : Bool} {ds : List Addr} {rows : List Rw} {ns : List Int} {b : Int} {Q : VK} {E : XK} (m : MkA K H ke En ds rows ns b) (hS : SqK K ks H S (ds.map V.ref)) (o : Out C H rows ns b Q) :
    ∀ x dx, H x = none → H dx = none → dx ≠ x → spInit K C [.ref x, .ref S, .ref En, .int b] (upd (upd H dx (.own x)) x (.ins C dx [])) (fun v H3 => v = .non ∧ Q (.ref x) H3) E := by
  intro x dx nx ndx ne
  have e1 : Ext H (upd (upd H dx (.own x)) x (.ins C dx [])) := (Ext.new ndx).trans (Ext.new (by rw [upd_ne (Ne.symm ne)]; exact nx))
  have i1 : (upd (upd H dx (.own x)) x (.ins C dx [])) x = some (.ins C dx []) := upd_same
  generalize upd (upd H dx (.own x)) x (.ins C dx []) = H1 at e1 i1 ⊢
  obtain ⟨A, B, a1, a2, a3, a4, a5, a6⟩ := m.AB
  refine ⟨ks, ke, x, dx, S, En, ds, rows, ns, b, A, B, rfl, i1, hS.ext e1, m.hr.ext e1, m.l1, m.l12, m.ok, m.hE.ext e1, m.nl, m.nnd, m.nin, m.b0, m.bn, a1, a2, a3, a4, a5, a6, fun H' rows' ns' ys ts k p1 p2 p3 p4 p5 p6 p7 p8 p9 => ⟨rfl, ?_⟩⟩
  exact o H' x rows' ns' ys ts (fun b' o' e => k _ _ (e1 _ _ e) (ne_of_none e nx)) nx p1 p2 p3 p4 p5 p6 p7 p8 (p9.ext e1)
def spOf (K : PySem.W.Frag) (C : Addr) (vs zs : List V) (H : Hp) (Q : VK) : Prop := ∃ (ke : Bool) (En : Addr) (ds : List Addr) (rows : List Rw) (ns : List Int) (b : Int), vs = ds.map V.ref ∧ zs = [.ref En, .int b] ∧ MkA K H ke En ds rows ns b ∧ Out C H rows ns b Q
section
variable {P : Program} {w : World} {K : PySem.W.Frag} {mg : Str → Option Value} {base : Heap}
/-- the body, behind the binding -/
theorem body_of {cdv : Value} {A : Around} {outer : List Env} {s : Shared} {H : Hp} {Q : VK} {C fI f p : Addr} {fdI : FuncData} {g : List Value → List Value → List Value} (M : Mk K C fI)
    (kI : KBn K fdI ["self", "states", "ends", "start"] 3 ["start"] g (fun vs zs => vs ++ zs)) (gI : FnOk P w K mg base CX0 5 fI fdI ["self", "states", "ends", "start"] (spInit K C))
    (hr : Room 6 (A.deeper (envOfC "Reader.of" (defScope sOf) s.heap.objs.size f cdv))) {ke : Bool} {En : Addr} {ds : List Addr} {rows : List Rw} {ns : List Int} {b : Int} (m : MkA K H ke En ds rows ns b) (hp : H p = some (.tup (ds.map V.ref))) (o : Out C H rows ns b Q) :
    ∃ t, PSs (cxOf CX0 P w K mg base ["cls", "ends", "start", "states"] "Reader.of" (defScope sOf) f cdv A outer s H (fun _ _ _ => False)) (defBody sOf) t ∧ t { nx := fun _ H' => Q .non H', rt := Q } (start ["cls", "ends", "start", "states"] [.ref C, .ref En, .int b, .ref p]) H := by
  refine ⟨_, PSs.nox (pss_one (ps_ret (pe_makeKL (i := 0) (E := fun _ _ _ => False) M gI hr rfl (.inl rfl) kI (fun _ _ _ _ _ _ _ z => z.elim) (pa_cons (pv 3) (pa_cons (pv 1) pa_nil)) (pk_cons (pv 2) pk_nil)))), ?_⟩
  exact ⟨rfl, _, rfl, _, rfl, _, rfl, rfl, rfl, made_init m (SqK.t hp) o⟩
/-- the promise, once the arguments are bound -/
theorem run_of {A : Around} {outer : List Env} {s : Shared} {H : Hp} {Q : VK} {C fI f : Addr} {fdI : FuncData} {g : List Value → List Value → List Value} {oc kV doc pm cdv ct : Value} {od an : Option Addr} {osl : Array (Option Value)} {us : List Value} {ev bv : Value} {args : Args}
    (lk : K.lookup f = some ⟨oc, od, .func (fdOf kV doc pm an cdv ct), osl⟩) (hcd : PySem.W.codeIn K cdv "Reader.of" = true) (M : Mk K C fI)
    (kI : KBn K fdI ["self", "states", "ends", "start"] 3 ["start"] g (fun vs zs => vs ++ zs)) (gI : FnOk P w K mg base CX0 5 fI fdI ["self", "states", "ends", "start"] (spInit K C))
    (hr : Room 7 A) (e0 : Env0 P w K mg base A outer s H) {ke : Bool} {En : Addr} {ds : List Addr} {rows : List Rw} {ns : List Int} {b : Int} (rv : Vals (ds.map V.ref) us) (re : RelV (V.ref En) ev) (rb : RelV (V.int b) bv)
    (hb : ∀ (A' : Around) (Ex : Value → Shared → Prop) (Q' : List (Str × Value) → Shared → Prop), us.length ≤ sizeLine → Q' (psOf.zip [.ref C, ev, bv, .ref s.heap.objs.size]) { s with heap := s.heap.push { cls := .type "tuple", data := .seq us.toArray } } → wpAny (model P w) A' (bindArgs (fdOf kV doc pm an cdv ct) args) Q' Ex s)
    (m : MkA K H ke En ds rows ns b) (o : Out C H rows ns b Q) : codeAny (model P w) A (.call (.ref f) args) (CR CX0 outer P w H s Q (fun _ _ _ => False)) s := by
  have hn : H s.heap.objs.size = Option.none := e0.hok.fresh (Nat.le_refl _)
  have lu : (ds.map V.ref).length ≤ sizeLine := by
    rw [List.length_map, m.hr.len]
    have := m.l12
    exact Nat.le_of_lt (small_list (by omega))
  have lus : us.length ≤ sizeLine := by
    rw [← rv.length]
    exact lu
  refine StX.run_bnd lk hcd scOf hr e0 (G := fun xs H2 => ∃ p, H p = none ∧ xs = [.ref C, .ref En, .int b, .ref p] ∧ H2 = upd H p (.tup (ds.map V.ref))) (fun A' Ex Q' h => ?_) fun s2 H2 xs ⟨p, hp, ex, eH⟩ hr' => ?_
  · refine hb _ _ _ lus ?_
    have new : ObjOk P w (upd H s.heap.objs.size (.tup (ds.map V.ref))) (s.heap.push ({ cls := .type "tuple", data := .seq us.toArray } : Obj)) s.heap.objs.size (.tup (ds.map V.ref)) := ⟨lu, us, rv, ⟨_, Heap.get?_push_size _ rfl, rfl, _, rfl⟩⟩
    exact h _ _ [.ref C, .ref En, .int b, .ref s.heap.objs.size] [.ref C, ev, bv, .ref s.heap.objs.size] (StX.env0_laid e0 new) (StX.un_laid hn) rfl (fun e s' z => z) (.cons rfl (.cons re (.cons rb (.cons rfl .nil)))) rfl ⟨_, hn, rfl, rfl⟩
  · subst ex eH
    exact body_of M kI gI hr' (m.ext (Ext.new hp)) upd_same (o.ext (Ext.new hp))
theorem ok_ofK {C fI f T0 : Addr} {fd fdI : FuncData} {g : List Value → List Value → List Value} (F : FunD K "of" "Reader.of" (defArgs sOf) (defBody sOf) (defScope sOf) [] [("ends", .ref T0), ("start", .int 0)] f fd) (M : Mk K C fI)
    (kI : KBn K fdI ["self", "states", "ends", "start"] 3 ["start"] g (fun vs zs => vs ++ zs)) (gI : FnOk P w K mg base CX0 5 fI fdI ["self", "states", "ends", "start"] (spInit K C)) : OfFn P w K mg base 7 f C ["ends", "start"] (spOf K C) := by
  intro A outer s H us vs ws zs Q hr e0 rv rz lz ⟨ke, En, ds, rows, ns, b, ev, ez, m, o⟩
  obtain ⟨oc, od, dV, kV, doc, pm, an, cdv, ct, osl, rfl, lk, hcd, hD, hK⟩ := F.ex
  subst ev ez
  rcases hD with ⟨_, rfl⟩ | ⟨e, _⟩
  · cases rz with
    | cons re rz =>
      cases rz with
      | cons rb rz =>
        cases rz
        refine run_of lk hcd M kI gI hr e0 rv re rb (fun A' Ex Q' lu q => ?_) m o
        show wpAny (model P w) A' (bindArgs _ ⟨_ :: us, [("ends", _), ("start", _)]⟩) Q' Ex s
        rw [bind_ofK]
        exact wpAny_bind (wpAny_newTuple (wpAny_pure q) lu)
  · exact absurd rfl e
theorem ok_of0 {C fI f T0 : Addr} {fd fdI : FuncData} {g : List Value → List Value → List Value} (F : FunD K "of" "Reader.of" (defArgs sOf) (defBody sOf) (defScope sOf) [] [("ends", .ref T0), ("start", .int 0)] f fd) (M : Mk K C fI)
    (kI : KBn K fdI ["self", "states", "ends", "start"] 3 ["start"] g (fun vs zs => vs ++ zs)) (gI : FnOk P w K mg base CX0 5 fI fdI ["self", "states", "ends", "start"] (spInit K C)) : OfFn P w K mg base 7 f C [] (fun vs _ H Q => spOf K C vs [.ref T0, .int 0] H Q) := by
  intro A outer s H us vs ws zs Q hr e0 rv rz lz ⟨ke, En, ds, rows, ns, b, ev, ez, m, o⟩
  obtain ⟨oc, od, dV, kV, doc, pm, an, cdv, ct, osl, rfl, lk, hcd, hD, hK⟩ := F.ex
  subst ev
  injection ez with e1 e2
  cases e1
  injection e2 with e2 _
  cases e2
  rcases hD with ⟨_, rfl⟩ | ⟨e, _⟩
  · rcases hK with e | ⟨D, rfl, hq⟩
    · cases e
    · obtain ⟨u1, n1, r1⟩ := hq ("ends", .ref T0) List.mem_cons_self
      obtain ⟨u2, n2, r2⟩ := hq ("start", .int 0) (List.mem_cons_of_mem _ List.mem_cons_self)
      have KX : K.In s.heap := e0.mod.kin.keeps fun b o e => (e0.bs b o e).1
      refine run_of (args := ⟨.ref C :: us, []⟩) lk hcd M kI gI hr e0 rv r1 r2 (fun A' Ex Q' lu q => ?_) m o
      refine KwStar.wp KX lu q (l := [("ends", u1), ("start", u2)]) (fun p hp => ?_) (bind_of0 _ _ _ us)
      rcases List.mem_cons.mp hp with e | hp
      · rw [e]
        exact n1
      · rw [List.mem_singleton.mp hp]
        exact n2
  · exact absurd rfl e
end
end Sl
/-! ## C21 -/
set_option Elab.async false
set_option linter.all false
set_option maxRecDepth 100000
set_option maxHeartbeats 4000000
/-! the reader that the law makes of its model -/
namespace Sl
open PySem PySem.Spec PyProof.Rows L2 TxS
abbrev sMade : Stmt := top 32
def rDict1 : List V → Hp → VK → Prop := fun xs H Q => ∃ (a : Addr) (kvs : List (Key × V)), xs = [V.ref a] ∧ Rd H a (.dK kvs) ∧ ∀ p, H p = none → Q (.ref p) (upd H p (.dK kvs))
theorem row_len {paper names : List Str} {n : Int} {r : Rw} (h : rowOver paper names n r) (hp : paper.length ≤ 6) : r.length ≤ 6 := by
  have q := len_le h.1 (A := paper) fun z hz => by
    obtain ⟨e, he, rfl⟩ := List.mem_map.mp hz
    exact (h.2 e he).1
  rw [List.length_map] at q
  omega
theorem ifAnd {c : Bool} {A B X : Prop} (hB : B) (hX : c = true → B → X) : (if c = true then X else if false = true then A else B) := by
  cases c
  · exact hB
  · exact hX rfl hB
theorem ModelAt.ext {H H' : Hp} {M L E : Addr} {ds : List Addr} {rows : List Rw} {ns : List Int} {b : Int} (m : ModelAt H M L E ds rows ns b) (x : Ext H H') : ModelAt H' M L E ds rows ns b := ⟨x _ _ m.h1, x _ _ m.h2, m.h3.ext x, m.h4, x _ _ m.h5⟩
theorem RowsAt.keepW {H H' : Hp} {W : Addr → Prop} (k : ∀ b o, H b = some o → ¬ W b → H' b = some o) (wt : ∀ b xs, W b → H b ≠ some (.tup xs)) : ∀ {ds : List Addr} {rows : List Rw}, (∀ d ∈ ds, ¬ W d) → RowsAt H ds rows → RowsAt H' ds rows
  | _, _, _, .nil => .nil
  | _, _, n, .cons ⟨es, e, b⟩ h => .cons ⟨es, k _ _ e (n _ List.mem_cons_self), b.ext fun t xs e => k _ _ e fun w => wt t xs w e⟩ (RowsAt.keepW k wt (fun d hd => n d (List.mem_cons_of_mem _ hd)) h)
theorem refs_inj : ∀ {a b : List Addr}, a.map V.ref = b.map V.ref → a = b
  | [], [], _ => rfl
  | x :: a, y :: b, h => by
    injection h with h1 h2
    injection h1 with h1
    rw [h1, refs_inj h2]
/-- things that were there before the reader may change -/
theorem ReaderX.keepW {C p : Addr} {H4 H H' : Hp} {rows : List Rw} {ends : List Int} {b : Int} {ys ts : List Str} {W : Addr → Prop} (h : ReaderX C H p rows ends b ys ts) (N : NewR C H4 H p) (np : H4 p = none) (k : ∀ b o, H b = some o → ¬ W b → H' b = some o)
    (wt : ∀ b xs, W b → H b ≠ some (.tup xs)) (wn : ∀ b, W b → H4 b ≠ none) : ReaderX C H' p rows ends b ys ts := by
  obtain ⟨dx, fs, L, ds, Te, M, a1, a2, a3, a4, a5, a6, a7, a8, a9, a10, a11, a12, a13⟩ := h.ex
  obtain ⟨dx2, fs2, L2, ds2, Te2, M2, b1, b2, b3, b4, b5, n1, n2, n3, n4⟩ := N
  rw [a1] at b1
  injection b1 with b1
  injection b1 with _ _ b1
  subst b1
  rw [a2] at b2
  injection b2 with b2
  injection b2 with b2
  subst b2
  rw [a3] at b3
  injection b3 with b3
  injection b3 with b3
  have b3 := refs_inj b3
  subst b3
  rw [a5] at b4
  injection b4 with b4
  injection b4 with b4
  subst b4
  rw [a10] at b5
  injection b5 with b5
  injection b5 with b5
  subst b5
  exact ⟨dx, fs, L, ds, Te, M, k _ _ a1 fun w => wn _ w np, a2, k _ _ a3 fun w => wn _ w n1, a4.keepW k wt fun d hd w => wn _ w (n4 d hd), a5, k _ _ a6 fun w => wn _ w n2, a7, a8, a9, a10, k _ _ a11 fun w => wn _ w n3, a12, a13⟩
def rot (vs zs : List V) : List V := vs ++ (zs.drop 1 ++ zs.take 1)
def spMade (C : Addr) : Sp := fun vs H Q _ => ∃ (a M L E : Addr) (ds : List Addr) (rows : List Rw) (ns : List Int) (b : Int) (paper tells marks : List Str), vs = [.ref a, .ref M] ∧ Rng H a ∧ ModelAt H M L E ds rows ns b ∧ L ≠ a ∧ E ≠ a ∧ Drawn paper tells marks rows ns b ∧
  ∀ (H' : Hp) (x : Addr) (rows' : List Rw) (ns' : List Int) (ys ts : List Str), Rng H' a → Keep a H H' → H x = none → Ascs rows rows' → ns'.Perm ns → ns'.Pairwise (· ≤ ·) →
  Gath ys (keysOf rows) → sortedS ys = true → Gath ts (toldsOf rows) → sortedS ts = true → ReaderX C H' x rows' ns' b ys ts → Q (.ref x) H'
section
variable {P : Program} {w : World} {K : PySem.W.Frag} {mg : Str → Option Value} {base : Heap}
theorem scMade : FnScope ["_law_rng_here", "_law_model_here", "_law_handed", "_law_stops", "_law_way", "_law_made_here", "_law_line"] ["_law_rng_here", "_law_model_here"] (defScope sMade) := ⟨rfl, rfl, rfl, by decide +kernel, rfl, by decide +kernel, by decide +kernel⟩
theorem ok_made {f fD C fI fO pO : Addr} {fd fdD fdI : FuncData} {g2 g3 : List Value → List Value → List Value} {dsA : List Value} {mc : Value} (F : Fun K "_law_made" "_law_made" sMade f fd)
    (aD : At K mg "_law_draw" fD fdD ["_law_rng_here", "_law_many"] []) (gD : FnOk P w K mg base CX0 1 fD fdD ["_law_rng_here", "_law_many"] spDraw)
    (gC : mg "Reader" = some (.ref C)) (M : Mk K C fI) (gI : FnOk P w K mg base CX0 5 fI fdI ["self", "states", "ends", "start"] (spInit K C))
    (k2 : KBn K fdI ["self", "states", "ends", "start"] 2 ["ends", "start"] g2 (fun vs zs => vs ++ zs)) (k3 : KBn K fdI ["self", "states", "ends", "start"] 1 ["start", "states", "ends"] g3 rot)
    (bA : Binds K fdI ["self", "states", "ends", "start"] dsA) (dA : Vals [.int 0] dsA)
    (rC : ClX.CRead K C mc) (cO : ClX.CMet K C mc "of" pO fO) (gO : OfFn P w K mg base 7 fO C ["ends", "start"] (spOf K C))
    (zd : mg "dict" = none) (zl : mg "list" = none) (zn : mg "len" = none) (zt : mg "tuple" = none) :
    FnOk P w K mg base CX0 8 f fd ["_law_rng_here", "_law_model_here"] (spMade C) := by
  refine F.ok scMade (fun vs H Q E h => ?_) (fun cdv A0 outer s H vs Q E0 hr h => ?_)
  · obtain ⟨a, M, L, E, ds, rows, ns, b, paper, tells, marks, rfl, _⟩ := h
    rfl
  · obtain ⟨a, Mo, L, E, ds, rows, ns, b, paper, tells, marks, rfl, hR, hM, nL, nE, dr, k⟩ := h
    have hr1 : Room 1 _ := hr.mono (by decide)
    have hr6 : Room 6 _ := hr.mono (by decide)
    have hr7 : Room 7 _ := hr.mono (by decide)
    have okr := model_ok dr.ok dr.pin dr.tin dr.min
    have few := names_few (tells := tells) (marks := marks) dr.tin dr.min (Nat.le_of_eq dr.lt) (Nat.le_of_eq dr.lm)
    have hi := dr.ok.hi
    have lo := dr.ok.lo
    have lns := dr.ok.len
    have nda : a ∉ ds := fun hm => by
      obtain ⟨kvs, e⟩ := hM.h3.mem hm
      exact hR.nodict _ e
    -- the end: what was handed in is changed
    have fin : ∀ (H5 : Hp) (x L2 S2 : Addr) (ds' : List Addr) (xs : List V) (v4 v6 : Option V) (rows' : List Rw) (ns' : List Int) (ys ts : List Str) (H4 : Hp), Rng H5 a → Keep a H H5 → H x = none → H4 x = none → Ext H4 H5 → H4 L2 = some (.lst (ds'.map V.ref)) → H4 S2 = some (.lst xs) → (∀ d ∈ ds', H d = none ∧ ∃ kvs, H4 d = some (.dK kvs)) → H L2 = none → H S2 = none → L2 ≠ S2 → ds'.length ≤ 12 → xs.length ≤ 12 →
        Ascs rows rows' → ns'.Perm ns → ns'.Pairwise (· ≤ ·) → Gath ys (keysOf rows) → sortedS ys = true → Gath ts (toldsOf rows) → sortedS ts = true → ReaderX C H5 x rows' ns' b ys ts → NewR C H4 H5 x →
        tSeq (tFor (iList K (tVar 2)) (gName 6) (tDrop (tBM0 K "dict" rDClear (tVar 6)))) (tSeq (tDrop (tBM K "list" rAppend (tVar 2) (tCons tDNewK tNil))) (tSeq (tDrop (tBM K "list" rAppend (tVar 3) (tCons (tC (.int 0)) tNil))) (tRet (tVar 5))))
          { nx := fun _ H' => Q .non H', rt := Q } [some (.ref a), some (.ref Mo), some (.ref L2), some (.ref S2), v4, some (.ref x), v6] H5 := by
      intro H5 x L2 S2 ds' xs v4 v6 rows' ns' ys ts H4 r5 k5 nx nx4 x5 hL2 hS2 hds nL2 nS2 neq l12 lxs p1 p2 p3 p4 p5 p6 p7 RX NW
      have w1 : ∀ d ∈ ds', ∃ kvs, H5 d = some (.dK kvs) := fun d hd => by
        obtain ⟨_, kvs, e⟩ := hds d hd
        exact ⟨kvs, x5 _ _ e⟩
      refine ⟨_, rfl, L2, rfl, ⟨_, SqL.of (x5 _ _ hL2)⟩, ?_⟩
      refine for_it (walk_list (xs := ds'.map V.ref)) (fun i σ H' => ∃ v6, σ = [some (.ref a), some (.ref Mo), some (.ref L2), some (.ref S2), v4, some (.ref x), v6] ∧ (∀ b o, H5 b = some o → b ∉ ds' → H' b = some o) ∧ ∀ d ∈ ds', ∃ kvs, H' d = some (.dK kvs))
        ⟨v6, rfl, fun _ _ e _ => e, w1⟩ (fun i σ H' _ ⟨_, _, kk, _⟩ => SqL.of (kk _ _ (x5 _ _ hL2) fun hm => ?_)) ?_ ?_
      · obtain ⟨_, kvs, e⟩ := hds _ hm
        rw [hL2] at e
        cases e
      · rintro i y σ H6 H7 hi ⟨v6, rfl, kk, dd⟩ ⟨rfl, hx⟩
        obtain ⟨d, hd, rfl⟩ := at_map hx
        have hdm := List.mem_of_getElem? hd
        obtain ⟨kvs, e⟩ := dd d hdm
        refine ⟨_, rfl, .inr (.inr (.inl ⟨rfl, .inl ⟨kvs, e⟩⟩)), d, kvs, rfl, rfl, e, ?_⟩
        refine ⟨_, rfl, fun b' o eb n => ?_, fun d' hd' => ?_⟩
        · rw [upd_ne fun z => n (by rw [z]; exact hdm)]
          exact kk b' o eb n
        · by_cases c : d' = d
          · exact ⟨[], by rw [c, upd_same]⟩
          · obtain ⟨kv, e'⟩ := dd d' hd'
            exact ⟨kv, by rw [upd_ne c]; exact e'⟩
      · rintro σ H6 ⟨v6, rfl, kk, dd⟩
        have ll : ∀ {l : Addr} {ys : List V}, H4 l = some (.lst ys) → l ∉ ds' := fun {l ys} e hm => by
          obtain ⟨_, kvs, e2⟩ := hds _ hm
          rw [e] at e2
          cases e2
        have hL6 := kk _ _ (x5 _ _ hL2) (ll hL2)
        have hS6 := kk _ _ (x5 _ _ hS2) (ll hS2)
        refine ⟨_, rfl, .inl ⟨rfl, _, SqL.of hL6⟩, fun p np => ?_⟩
        have xp := Ext.new np (o := .dK [])
        have npn : p ≠ L2 := fun z => by
          rw [z, hL6] at np
          cases np
        refine ⟨L2, _, _, rfl, rfl, xp _ _ hL6, by rw [List.length_map]; exact small_list (by omega), ?_⟩
        have k7 : ∀ b o, H5 b = some o → ¬ (b ∈ ds' ∨ b = L2 ∨ b = S2) → upd (upd H6 p (.dK [])) L2 (.lst (ds'.map V.ref ++ [.ref p])) b = some o := fun b o e n => by
          rw [upd_ne fun z => n (.inr (.inl z))]
          exact xp _ _ (kk _ _ e fun z => n (.inl z))
        have hS7 : upd (upd H6 p (.dK [])) L2 (.lst (ds'.map V.ref ++ [.ref p])) S2 = some (.lst xs) := by
          rw [upd_ne neq.symm]
          exact xp _ _ hS6
        generalize upd (upd H6 p (.dK [])) L2 (.lst (ds'.map V.ref ++ [.ref p])) = H7 at k7 hS7 ⊢
        refine ⟨_, rfl, .inl ⟨rfl, _, SqL.of hS7⟩, S2, _, _, rfl, rfl, hS7, small_list (by omega), ?_⟩
        have k8 : ∀ b o, H5 b = some o → ¬ (b ∈ ds' ∨ b = L2 ∨ b = S2) → upd H7 S2 (.lst (xs ++ [.int 0])) b = some o := fun b o e n => by
          rw [upd_ne fun z => n (.inr (.inr z))]
          exact k7 _ _ e n
        generalize upd H7 S2 (.lst (xs ++ [.int 0])) = H8 at k8 ⊢
        have wn : ∀ b, (b ∈ ds' ∨ b = L2 ∨ b = S2) → H4 b ≠ none := fun b w => by
          rcases w with w | w | w
          · obtain ⟨_, kvs, e⟩ := hds b w
            rw [e]
            exact fun z => by cases z
          · rw [w, hL2]
            exact fun z => by cases z
          · rw [w, hS2]
            exact fun z => by cases z
        have w0 : ∀ b, (b ∈ ds' ∨ b = L2 ∨ b = S2) → H b = none := fun b w => by
          rcases w with w | w | w
          · exact (hds b w).1
          · rw [w]
            exact nL2
          · rw [w]
            exact nS2
        have wt : ∀ b xs, (b ∈ ds' ∨ b = L2 ∨ b = S2) → H5 b ≠ some (.tup xs) := fun b xs w e => by
          rcases w with w | w | w
          · obtain ⟨_, kvs, e2⟩ := hds b w
            rw [x5 _ _ e2] at e
            cases e
          · rw [w, x5 _ _ hL2] at e
            cases e
          · rw [w, x5 _ _ hS2] at e
            cases e
        have live : ∀ {b : Addr} {o : HO}, H b = some o → ¬ (b ∈ ds' ∨ b = L2 ∨ b = S2) := fun {b o} e w => by
          rw [w0 b w] at e
          cases e
        obtain ⟨o0, ha0⟩ := hR.there
        have r8 : Rng H8 a := by
          obtain ⟨x1, y1, e, q⟩ := r5.ex
          exact ⟨x1, y1, k8 _ _ e (live ha0), q⟩
        exact ⟨_, rfl, k H8 x rows' ns' ys ts r8 (fun b' o e n => k8 _ _ (k5 _ _ e n) (live e)) nx p1 p2 p3 p4 p5 p6 p7 (RX.keepW NW nx4 k8 wt wn)⟩
    -- what stands behind the reversed ends
    obtain ⟨tR, hT, pT⟩ : ∃ t, PSs (cxOf CX0 P w K mg base ["_law_rng_here", "_law_model_here", "_law_handed", "_law_stops", "_law_way", "_law_made_here", "_law_line"] "_law_made" (defScope sMade) f cdv A0 outer s H E0).nox (List.drop 3 (defBody sMade)) t ∧
        ∀ (H4 : Hp) (L2 S3 : Addr) (ds' : List Addr) (ns3 : List Int), Rng H4 a → Keep a H H4 → ModelAt H4 Mo L E ds rows ns b → H4 L2 = some (.lst (ds'.map V.ref)) → RowsAt H4 ds' rows → (∀ d ∈ ds', H d = none) → H L2 = none → H4 S3 = some (.lst (ns3.map V.int)) → ns3.Perm ns → H S3 = none → L2 ≠ S3 →
          t { nx := fun _ H' => Q .non H', rt := Q } [some (.ref a), some (.ref Mo), some (.ref L2), some (.ref S3), none, none, none] H4 := by
      refine ⟨_, pss_cons (ps_set (i := 4) scMade.nd rfl (.inl rfl) (pe_call gD hr1 (by rfl) aD.g aD.kp aD.b .nil pass0 (pa_cons (pv 0) (pa_cons pe_int pa_nil))))
      (pss_cons (ps_if (PW.pt (pw_and (pt_cmpR op_eq (pv 4) pe_int (nomark _)) (pw_and1 (pt_cmpR op_eq (pe_callB call_len_seq (by rfl) zn PySem.boot_len (pa_cons (pv 2) pa_nil)) pe_int (nomark _)))))
        (pss_one (ps_set (i := 5) scMade.nd rfl (.inl rfl) (pe_of (pe_glob (v := .ref C) (by rfl) gC (show RelV (V.ref C) (Value.ref C) from rfl)) rC cO gO hr7 (pa_cons (pe_ix ix_list (pv 2) pe_int (fun _ _ => rfl)) (pa_cons (pe_ix ix_list (pv 2) pe_int (fun _ _ => rfl)) pa_nil)) (pk_cons (pv 3) (pk_cons (pe_ix ix_tup (pv 1) pe_int (fun _ _ => rfl)) pk_nil)))))
        (pss_one (ps_if (PW.pt (pw_and (pt_cmpR op_eq (pv 4) pe_int (nomark _)) (pw_and1 (pt_cmpR op_eq (pe_ix ix_tup (pv 1) pe_int (fun _ _ => rfl)) pe_int (nomark _)))))
          (pss_one (ps_set (i := 5) scMade.nd rfl (.inl rfl) (pe_make (E := fun _ _ _ => False) M gI hr6 (by rfl) gC bA dA pass0 (pa_cons (pv 2) (pa_cons (pe_callTy call_tuple_of (by rfl) zt (by decide +kernel) (pa_cons (pv 3) pa_nil)) pa_nil)))))
          (pss_one (ps_if (pt_cmpR op_eq (pv 4) pe_int (nomark _))
            (pss_one (ps_set (i := 5) scMade.nd rfl (.inl rfl) (pe_makeK (E := fun _ _ _ => False) M gI hr6 (by rfl) gC k2 pass0 (pa_cons (pe_callTy call_tuple_of (by rfl) zt (by decide +kernel) (pa_cons (pv 2) pa_nil)) pa_nil) (pk_cons (pv 3) (pk_cons (pe_ix ix_tup (pv 1) pe_int (fun _ _ => rfl)) pk_nil)))))
            (pss_one (ps_set (i := 5) scMade.nd rfl (.inl rfl) (pe_makeK0 (E := fun _ _ _ => False) M gI hr6 (by rfl) gC k3 pass0 (pk_cons (pe_ix ix_tup (pv 1) pe_int (fun _ _ => rfl)) (pk_cons (pv 2) (pk_cons (pe_callTy call_tuple_of (by rfl) zt (by decide +kernel) (pa_cons (pv 3) pa_nil)) pk_nil)))))))))))
      (pss_cons (ps_for PassesOwn.never rfl (pi_list (pv 2)) (pg_name (i := 6) scMade.nd rfl (.inl rfl)) (pss_one (ps_expr (pe_dclear (pv 6)))))
      (pss_cons (ps_expr (pe_bm PySem.F.plainAttrs_list PySem.F.slot_list_append PySem.F.type_list_append mt_append (pv 2) (pa_cons pe_dnewK pa_nil)))
      (pss_cons (ps_expr (pe_bm PySem.F.plainAttrs_list PySem.F.slot_list_append PySem.F.type_list_append mt_append (pv 3) (pa_cons pe_int pa_nil)))
      (pss_one (ps_ret (pv 5))))))), fun H4 L2 S3 ds' ns3 r4 k4 hM4 l4 w4 f4 nL2 s4 pn3 nS3 ne3 => ?_⟩
      have ld' : ds'.length = rows.length := w4.len
      have nLa := hR.new nL2
      have nSa := hR.new nS3
      refine ⟨_, rfl, a, 4, rfl, r4, by decide, by decide, fun d5 H5 d50 d5n r5 k5 => ?_⟩
      have kH5 := k4.trans k5
      have l5 := k5 _ _ l4 nLa
      have s5 := k5 _ _ s4 nSa
      have w5 : RowsAt H5 ds' rows := w4.keepN k5 r4.notup fun hm => by
        obtain ⟨kvs, e⟩ := w4.mem hm
        exact r4.nodict _ e
      have hM5 := hM4.keep k5 r4 nL nE
      have mk : ∀ {H' : Hp} {ke : Bool} {En : Addr} {nsx : List Int}, Ext H5 H' → SqK K ke H' En (nsx.map V.int) → nsx.Perm ns → MkA K H' ke En ds' rows nsx b := fun {H' ke En nsx} x hE p =>
        ⟨w5.ext x, lo, hi, fun r hr => ⟨(okr.2 r hr).1, (okr.2 r hr).2, by have := row_len (dr.ok.rw_ r hr) dr.lp; omega⟩, hE, by rw [p.length_eq]; omega, p.nodup_iff.mpr dr.ok.nd, fun i hi => dr.ok.inn i (p.mem_iff.mp hi), dr.ok.b0, dr.ok.b1,
          paper, tells ++ marks, keys_in dr.ok, dr.lp, tolds_in dr.ok, by rw [List.length_append, dr.lt, dr.lm]; decide, few.1, few.2⟩
      have out : ∀ {H' : Hp}, Ext H5 H' → Out C H' rows ns3 b (fun v H'' => tSeq (tFor (iList K (tVar 2)) (gName 6) (tDrop (tBM0 K "dict" rDClear (tVar 6)))) (tSeq (tDrop (tBM K "list" rAppend (tVar 2) (tCons tDNewK tNil))) (tSeq (tDrop (tBM K "list" rAppend (tVar 3) (tCons (tC (.int 0)) tNil))) (tRet (tVar 5))))
          { nx := fun _ H' => Q .non H', rt := Q } [some (.ref a), some (.ref Mo), some (.ref L2), some (.ref S3), some (.int d5), some v, none] H'') := fun {H'} x' H'' x rows' ns' ys ts y nx p1 p2 p3 p4 p5 p6 p7 RX NW =>
        fin H'' x L2 S3 ds' (ns3.map V.int) _ _ rows' ns' ys ts H' (r5.ext (x'.trans y)) (kH5.trans (Keep.of (x'.trans y))) ((kH5.trans (Keep.of x')).free (r5.ext x').there.choose_spec nx) nx y (x' _ _ l5) (x' _ _ s5)
          (fun d hd => ⟨f4 d hd, (w5.ext x').mem hd⟩) nL2 nS3 ne3 (by omega) (by rw [List.length_map, pn3.length_eq]; omega) p1 (p2.trans pn3) p3 p4 p5 p6 p7 RX NW
      refine ⟨_, rfl, rfl, _, rfl, ?_⟩
      refine ifAnd ?_ fun c0 hB => ?_
      · refine ⟨_, rfl, rfl, _, rfl, ?_⟩
        refine ifAnd ?_ fun c1 hB => ?_
        · refine ⟨_, rfl, rfl, _, rfl, ?_⟩
          refine ite2 (fun c2 => ?_) (fun c2 => ?_)
          · refine ⟨_, rfl, L2, _, rfl, .inl ⟨SqL.of l5, fun T nT => ?_⟩⟩
            have xT := Ext.new nT (o := .tup (ds'.map V.ref))
            have t5 : (upd H5 T (.tup (ds'.map V.ref))) T = some (.tup (ds'.map V.ref)) := upd_same
            generalize upd H5 T (.tup (ds'.map V.ref)) = H6 at xT t5 ⊢
            refine ⟨_, rfl, _, rfl, Mo, _, _, .int b, rfl, rfl, SqT.of (xT _ _ hM5.h1), atI_nat (j := 2) rfl, rfl, rfl, ?_⟩
            exact made_init (mk xT (SqK.l (xT _ _ s5)) pn3) (SqK.t t5) (out xT)
          · refine ⟨_, rfl, Mo, _, _, .int b, rfl, rfl, SqT.of hM5.h1, atI_nat (j := 2) rfl, _, rfl, _, rfl, S3, _, rfl, .inl ⟨SqL.of s5, fun T nT => ?_⟩⟩
            have xT := Ext.new nT (o := .tup (ns3.map V.int))
            have t5 : (upd H5 T (.tup (ns3.map V.int))) T = some (.tup (ns3.map V.int)) := upd_same
            generalize upd H5 T (.tup (ns3.map V.int)) = H6 at xT t5 ⊢
            refine ⟨rfl, rfl, ?_⟩
            exact made_init (mk xT (SqK.t t5) pn3) (SqK.l (xT _ _ l5)) (out xT)
        · refine ⟨_, rfl, Mo, _, _, .int b, rfl, rfl, SqT.of hM5.h1, atI_nat (j := 2) rfl, rfl, _, rfl, ?_⟩
          refine ite2 (fun c2 => ?_) (fun c2 => hB)
          have b0 : b = 0 := by
            have q := of_decide_eq_true c2
            injection q
          refine ⟨_, rfl, _, rfl, S3, _, rfl, .inl ⟨SqL.of s5, fun T nT => ?_⟩⟩
          have xT := Ext.new nT (o := .tup (ns3.map V.int))
          have t5 : (upd H5 T (.tup (ns3.map V.int))) T = some (.tup (ns3.map V.int)) := upd_same
          generalize upd H5 T (.tup (ns3.map V.int)) = H6 at xT t5 ⊢
          have z := made_init (E := fun _ _ _ => False) (mk xT (SqK.t t5) pn3) (SqK.l (xT _ _ l5)) (out xT)
          rw [b0] at z
          exact z
      · refine ⟨_, rfl, L2, _, rfl, .inl (SqL.of l5), rfl, _, rfl, ?_⟩
        refine ite2 (fun c2 => ?_) (fun c2 => hB)
        have two : ds'.length = 2 := by
          have q := of_decide_eq_true c2
          injection q with q
          rw [List.length_map] at q
          omega
        obtain ⟨e0, e1, rfl⟩ : ∃ e0 e1, ds' = [e0, e1] := by
          rcases ds' with _ | ⟨e0, _ | ⟨e1, _ | ⟨e2, r⟩⟩⟩
          · cases two
          · cases two
          · exact ⟨e0, e1, rfl⟩
          · simp at two
        refine ⟨rfl, _, rfl, L2, _, _, _, rfl, rfl, SqL.of l5, atI_nat (j := 0) rfl, _, rfl, L2, _, _, _, rfl, rfl, SqL.of l5, atI_nat (j := 1) rfl, _, rfl, _, rfl, Mo, _, _, .int b, rfl, rfl, SqT.of hM5.h1, atI_nat (j := 2) rfl, rfl, ?_⟩
        exact ⟨true, S3, [e0, e1], rows, ns3, b, rfl, rfl, mk (Ext.refl _) (SqK.l s5) pn3, out (Ext.refl _)⟩
    refine ⟨_, pss_cons (ps_setLc (i := 2) (own := [("_law_line", 6)]) (g := gName 6) (tt := tYes) (te := tCB rDict1 (tCons (tVar 6) tNil)) rfl scMade.nd rfl rfl (sw_true rfl rfl rfl (by decide +kernel)) (pi_list (pe_ix ix_tup (pv 1) pe_int (fun _ _ => rfl)))
          (blkOk_by (N := ["_law_rng_here", "_law_model_here", "_law_handed", "_law_stops", "_law_way", "_law_made_here", "_law_line"]) (sc := defScope sMade) (by decide +kernel))
          (fun _ _ _ _ _ => pg_name (i := 6) scMade.nd rfl (Or.inl rfl)) (fun _ _ _ _ _ => pts_nil) (fun _ _ _ _ _ => pe_callTy (T := "dict") (r := rDict1) call_dictD (by rfl) zd (by decide +kernel) (pa_cons (pv 6) pa_nil)))
      (pss_cons (ps_set (i := 3) scMade.nd rfl (.inl rfl) (pe_callTy call_list_of (by rfl) zl (by decide +kernel) (pa_cons (pe_ix ix_tup (pv 1) pe_int (fun _ _ => rfl)) pa_nil)))
      (pss_cons (ps_if (pt_cmpR op_eq (pe_call gD hr1 (by rfl) aD.g aD.kp aD.b .nil pass0 (pa_cons (pv 0) (pa_cons pe_int pa_nil))) pe_int (nomark _))
        (pss_one (ps_set (i := 3) scMade.nd rfl (.inl rfl) (pe_revL (pv 3)))) pss_nil) hT)), ?_⟩
    refine ⟨_, rfl, Mo, _, _, .ref L, rfl, rfl, SqT.of hM.h1, atI_nat (j := 0) rfl, L, rfl, ⟨_, SqL.of hM.h2⟩, fun L2 nL2 => ?_⟩
    refine lc_it (walk_list (xs := ds.map V.ref)) (fun i H' => Ext H H' ∧ ∃ ds', H' L2 = some (.lst (ds'.map V.ref)) ∧ RowsAt H' ds' (rows.take i) ∧ ∀ d ∈ ds', H d = none) ⟨Ext.new nL2, [], upd_same, .nil, fun d hd => by cases hd⟩ (fun i H' _ h => SqL.of (h.1 _ _ hM.h2)) ?_ ?_
    · rintro i x H6' H6 hi' ⟨x6, ds', l6, w6, f6⟩ ⟨rfl, hx⟩
      obtain ⟨d, hd, rfl⟩ := at_map hx
      obtain ⟨r, hri, es, he1, he2⟩ := hM.h3.at_ hd
      have hil : i < rows.length := (List.getElem?_eq_some_iff.mp hri).1
      refine ⟨rfl, _, rfl, d, _, rfl, Rd.of (x6 _ _ he1), fun p np => ?_⟩
      have xp : Ext H6 (upd H6 p (.dK (kvsOf es))) := Ext.new np
      have lp1 := xp _ _ l6
      have ld : ds'.length = i := by
        rw [w6.len, List.length_take]
        omega
      refine ⟨_, lp1, by rw [List.length_map]; exact small_list (by omega), fun b' o e => by rw [upd_ne (ne_of_none e nL2)]; exact xp _ _ (x6 _ _ e), ds' ++ [p], by rw [upd_same, List.map_append]; rfl, ?_, fun d' hd' => ?_⟩
      · rw [take_more hri]
        refine RowsAt.snoc ?_ ?_
        · refine RowAt.same (H := upd H6 p (.dK (kvsOf es))) ⟨es, upd_same, he2.ext fun t xs e => xp _ _ (x6 _ _ e)⟩ (upd_ne (fun e => by rw [e, l6] at np; cases np)) fun t xs e => ?_
          rw [upd_ne (ne_of e lp1 (by intro q; cases q))]
          exact e
        · refine (w6.ext xp).keepN Keep.at_ (fun xs e => by rw [lp1] at e; cases e) fun hm => ?_
          obtain ⟨kvs, e⟩ := (w6.ext xp).mem hm
          rw [lp1] at e
          cases e
      · rcases List.mem_append.mp hd' with c | c
        · exact f6 d' c
        · rw [List.mem_singleton.mp c]
          exact x6.free np
    rintro H1 ⟨x1, ds', l1, w1, f1⟩
    rw [List.length_map, hM.h3.len, List.take_length] at w1
    have ld' : ds'.length = rows.length := w1.len
    have hM1 := hM.ext x1
    have hR1 := hR.ext x1
    refine ⟨_, rfl, Mo, _, _, .ref E, rfl, rfl, SqT.of hM1.h1, atI_nat (j := 1) rfl, E, _, rfl, .inl (SqL.of hM1.h5), fun S nS => ?_⟩
    have x2 := x1.trans (Ext.new nS (o := .lst (ns.map V.int)))
    have nSH := x1.free nS
    have neS : L2 ≠ S := fun z => by
      rw [← z, l1] at nS
      cases nS
    have l2 := Ext.new nS (o := .lst (ns.map V.int)) _ _ l1
    have w2 := w1.ext (Ext.new nS (o := .lst (ns.map V.int)))
    have s2 : (upd H1 S (.lst (ns.map V.int))) S = some (.lst (ns.map V.int)) := upd_same
    generalize upd H1 S (.lst (ns.map V.int)) = H2 at x2 l2 w2 s2 ⊢
    refine ⟨_, rfl, a, 2, rfl, hR.ext x2, by decide, by decide, fun d3 H3 d30 d3n r3 k3 => ?_⟩
    have kH3 := (Keep.of x2).trans k3
    have nLa := hR.new nL2
    have nSa := hR.new nSH
    have l3 := k3 _ _ l2 nLa
    have s3 := k3 _ _ s2 nSa
    have w3 : RowsAt H3 ds' rows := w2.keepN k3 (hR.ext x2).notup fun hm => by
      obtain ⟨kvs, e⟩ := w2.mem hm
      exact (hR.ext x2).nodict _ e
    have hM3 := (hM.ext x2).keep k3 (hR.ext x2) nL nE
    refine ⟨rfl, _, rfl, ?_⟩
    refine ite2 (fun _ => ?_) (fun _ => ?_)
    · refine ⟨_, rfl, S, _, rfl, SqL.of s3, fun S3 nS3 => ?_⟩
      have x34 := Ext.new nS3 (o := .lst (ns.map V.int).reverse)
      have s4 : (upd H3 S3 (.lst (ns.map V.int).reverse)) S3 = some (.lst (ns.reverse.map V.int)) := by rw [upd_same, List.map_reverse]
      have nS3H := kH3.free r3.there.choose_spec nS3
      have ne3 : L2 ≠ S3 := fun z => by
        rw [← z, l3] at nS3
        cases nS3
      exact pT _ L2 S3 ds' ns.reverse (r3.ext x34) (kH3.trans (Keep.of x34)) (hM3.ext x34) (x34 _ _ l3) (w3.ext x34) f1 nL2 s4 (List.reverse_perm ns) nS3H ne3
    · exact pT _ L2 S ds' ns r3 kH3 hM3 l3 w3 f1 nL2 s3 (List.Perm.refl _) nSH neS
end
end Sl
/-! ## C22 -/
set_option Elab.async false
set_option linter.all false
set_option maxRecDepth 100000
set_option maxHeartbeats 4000000
/-! len of an own object; what is told of a reader, as data; names that are signs or marks -/
namespace Sl
open PySem PySem.Spec PyProof.Rows L2 TxS
def rLenO (C : Addr) (sp : Sp) : List V → Hp → VK → Prop := fun xs H Q => ∃ (a dx : Addr) (fs : List (Str × V)), xs = [.ref a] ∧ H a = some (.ins C dx fs) ∧ sp [.ref a] H (fun v H' => ∃ n : Nat, v = .int (n : Nat) ∧ n < 2 ^ 62 ∧ Q (.int (n : Nat)) H') (fun _ _ _ => False)
theorem env0_in1' {P : Program} {w : World} {K : PySem.W.Frag} {mg : Str → Option Value} {base : Heap} {A : Around} {outer : List Env} {s : Shared} {H : Hp} (e : Env0 P w K mg base A outer s H) : Env0 P w K mg base A.in1 outer s H :=
  ⟨e.frames, e.mod, e.bs, e.bsz, e.funs, e.frf, e.hok, e.bare⟩
theorem call_lenO {X : Cx} {C g : Addr} {k : Nat} {fd : FuncData} {sp : Sp} (m : L2.Meth X.K C "__len__" g) (F : FnOk X.prog X.w X.K X.mg X.base CX0 k g fd ["self"] sp) (hr : Room (k + 1) X.A) (hb : L2.Binds X.K fd ["self"] []) : CallR X (.builtin "len") (rLenO C sp) := by
  intro pins s σ H xs us Q I r h
  obtain ⟨a, dx, fs, rfl, e, q⟩ := h
  obtain rfl := Vals.ref1 r
  obtain ⟨mA, O, rr, _, _, _⟩ := ins_get I.hok e
  obtain ⟨od, J, hl⟩ := O.look
  refine Calls.call_function_entry kind_len plain_len entry_len (args_len1 _) ?_
  unfold Builtin.«len»
  refine wpAny_bind (m := oneArg "len" _) (wpAny_pure ?_)
  refine wpAny_bind (m := callSpecial? (.ref a) (Str.ofString "__len__")) ?_
  unfold callSpecial? specialOf
  refine wpAny_bind (wpAny_bind (J.type.here ((PySem.W.looks_findIn I.kIn m.at_).here ?_)))
  refine wpAny_holding (wpAny_bind ?_)
  unfold bindSpecial
  refine wpAny_bind ((PySem.W.looks_typeIn I.kIn (beq_iff_eq.mp m.fn)).here ?_)
  rw [if_pos (by decide)]
  refine wpAny_pure (wpAny_bind ?_)
  refine wpAny_call (codeAny_mono (F.run X.A.in1 X.stack s H ⟨[.ref a], []⟩ [.ref a] [.ref a] _ _ hr.in1 (env0_in1' I.env0) (hb s [.ref a] I.kIn rfl) (.cons rfl .nil) q) fun c s' hq => ?_)
  cases c with
  | error er => exact (show False from hq).elim
  | ok fl =>
    cases fl with
    | ret u =>
      obtain ⟨v, H', I', rv, n, rfl, hn, q'⟩ := I.after hq
      obtain ⟨t, rfl⟩ := rv
      refine wpAny_pure ?_
      refine wpAny_bind (wpAny_holding (wpAny_pure ?_))
      refine wpAny_bind (wpAny_letGo ?_)
      show wpAny _ _ (if ((n : Nat) : Int) < 0 then _ else _) _ _ _
      rw [if_neg (by omega)]
      show wpAny _ _ (if ((n : Nat) : Int) ≥ 2 ^ 63 then _ else _) _ _ _
      rw [if_neg (by omega)]
      exact wpAny_bind (wpAny_mkInt (wpAny_pure ⟨_, rfl, .int (n : Nat), H', I'.tok _, ⟨_, rfl⟩, q'⟩))
    | next => exact hq.elim
    | brk => exact hq.elim
    | cont => exact hq.elim
def rLenS : List V → Hp → VK → Prop := fun xs H Q => ∃ z, xs = [.str z] ∧ z.length ≤ sizeLine ∧ Q (.int z.length) H
/-! ### data -/
theorem fine_ints : ∀ {ns : List Int}, (∀ i ∈ ns, 0 ≤ i ∧ i ≤ 100) → PyData.showableAll (ns.map PyData.int) = true ∧ PyData.hasDictAll (ns.map PyData.int) = false ∧ PyData.depthAll (ns.map PyData.int) ≤ 2 ∧ PyData.leavesShortAll 40 (ns.map PyData.int) = true ∧ PyData.bulkAll (ns.map PyData.int) ≤ 40 * ns.length
  | [], _ => ⟨rfl, rfl, by simp [PyData.depthAll], rfl, Nat.le_refl _⟩
  | g :: ns, h => by
    obtain ⟨h1, h2, h3, h4, h5⟩ := fine_ints fun m hm => h m (List.mem_cons_of_mem _ hm)
    obtain ⟨k0, k1⟩ := h g List.mem_cons_self
    obtain ⟨i, rfl⟩ : ∃ i : Nat, g = (i : Int) := ⟨g.toNat, by omega⟩
    obtain ⟨i1, i2⟩ := small_int ⟨i, by omega⟩
    have i1 : (PyData.shown (.int (i : Int))).length ≤ 40 := i1
    have i2 : PyData.showable (.int (i : Int)) = true := i2
    refine ⟨?_, ?_, ?_, ?_, ?_⟩
    · rw [List.map_cons, PyData.showableAll, i2, h1]
      rfl
    · simp [PyData.hasDictAll, PyData.hasDict, h2]
    · simp only [List.map_cons, PyData.depthAll, PyData.depth]
      omega
    · simp [PyData.leavesShortAll, PyData.leavesShort, h4, i1]
    · simp only [List.map_cons, PyData.bulkAll, PyData.bulk, List.length_cons]
      omega
/-- the start, the ends, the number of states -/
def infoD (b : Int) (ns : List Int) (n : Nat) : PyData := .list [.int b, .tuple (ns.map PyData.int), .int (n : Nat)]
theorem ints_dp {K : PySem.W.Frag} {H : Hp} : ∀ ns : List Int, DpAll K H (ns.map V.int) (ns.map PyData.int)
  | [] => .nil
  | i :: ns => .cons (.int i) (ints_dp ns)
theorem info_dp {K : PySem.W.Frag} {H : Hp} {a T : Addr} {b : Int} {ns : List Int} {n : Nat} (h : H a = some (.lst [.int b, .ref T, .int (n : Nat)])) (t : H T = some (.tup (ns.map V.int))) : Dp K H (.ref a) (infoD b ns n) :=
  .lst (SqL.of h) (.cons (.int _) (.cons (.tup (SqT.of t) (ints_dp ns)) (.cons (.int _) .nil)))
theorem info_fine {b : Int} {ns : List Int} {n : Nat} (b0 : 0 ≤ b) (b1 : b ≤ 100) (h : ∀ i ∈ ns, 0 ≤ i ∧ i ≤ 100) (l : ns.length ≤ 100) (n1 : n ≤ 100) : Fine (infoD b ns n) := by
  obtain ⟨h1, h2, h3, h4, h5⟩ := fine_ints h
  obtain ⟨g1, g2, g3, g4, g5⟩ := fine_ints (ns := [b, (n : Nat)]) fun i hi => by
    rcases List.mem_cons.mp hi with e | hi
    · rw [e]
      exact ⟨b0, b1⟩
    · rw [List.mem_singleton.mp hi]
      omega
  simp only [List.map_cons, List.map_nil, PyData.showableAll, Bool.and_eq_true, PyData.leavesShortAll] at g1 g4
  refine ⟨?_, ?_, ?_, ?_, ?_⟩
  · simp only [infoD, PyData.showable, PyData.showableAll, Bool.and_eq_true] at g1 ⊢
    exact ⟨g1.1, h1, g1.2.1, trivial⟩
  · simp [infoD, PyData.hasDict, PyData.hasDictAll, h2]
  · simp only [infoD, PyData.depth, PyData.depthAll]
    omega
  · simp only [infoD, PyData.leavesShort, PyData.leavesShortAll, Bool.and_eq_true] at g4 ⊢
    exact ⟨g4.1, h4, g4.2.1, trivial⟩
  · simp only [infoD, PyData.bulk, PyData.bulkAll]
    omega
def strsD (l : List Str) : PyData := .list (l.map PyData.str)
theorem strs_dp {K : PySem.W.Frag} {H : Hp} : ∀ l : List Str, DpAll K H (l.map V.str) (l.map PyData.str)
  | [] => .nil
  | i :: ns => .cons (.str i) (strs_dp ns)
theorem strs_can : ∀ {l : List Str}, (∀ z ∈ l, nameS z = true) → PyData.canLayAll0 (l.map PyData.str) = true ∧ PyData.depthAll (l.map PyData.str) ≤ 2
  | [], _ => ⟨rfl, by simp [PyData.depthAll]⟩
  | z :: l, h => by
    obtain ⟨k1, k2⟩ := strs_can fun y hy => h y (List.mem_cons_of_mem _ hy)
    refine ⟨?_, ?_⟩
    · show (PyData.canLay0 (.str z) && PyData.canLayAll0 (l.map PyData.str)) = true
      rw [k1, Bool.and_true]
      simpa [PyData.canLay0] using name_ok (h z List.mem_cons_self)
    · simp only [List.map_cons, PyData.depthAll, PyData.depth]
      omega
theorem strs_shaped {l : List Str} (h : ∀ z ∈ l, nameS z = true) : SeqAt.shaped (strsD l) = true ∧ PyData.eqv (strsD l) (strsD l) = true := by
  obtain ⟨k1, k2⟩ := strs_can h
  have c0 : PyData.canLay0 (strsD l) = true := by
    show PyData.canLay0 (.list (l.map PyData.str)) = true
    rw [PyData.canLay0]
    exact k1
  refine ⟨?_, SeqAt.eqv_refl _ c0⟩
  show (PyData.canLay0 _ && decide _) = true
  rw [c0, Bool.true_and, decide_eq_true_eq]
  simp only [strsD, PyData.depth]
  omega
/-! ### names -/
theorem gath_perm {a b S : List Str} (g : Gath a S) (h : Gath b S) : a.Perm b :=
  perm_of_all h.1 (fun k hk => (g.2 k).mpr ((h.2 k).mp hk)) (Nat.le_antisymm (len_le g.1 fun z hz => (h.2 z).mpr ((g.2 z).mp hz)) (len_le h.1 fun z hz => (g.2 z).mpr ((h.2 z).mp hz)))
theorem told_names {n : Int} {rows : List Rw} (h : ∀ r ∈ rows, okRow n r) : ∀ z ∈ toldsOf rows, nameS z = true ∧ z.length ≤ 8 := fun z hz => by
  unfold toldsOf at hz
  obtain ⟨r, hr, h2⟩ := List.mem_flatMap.mp hz
  obtain ⟨e, he, h3⟩ := List.mem_filterMap.mp h2
  exact (h r hr e he).2.2 z h3
theorem sign_len {z : Str} (h : nameS z = true) : signS z = decide (V.int (z.length : Nat) = V.int 1) := by
  have w1 : isWordS z = true := (Bool.and_eq_true_iff.mp h).1
  unfold signS
  rw [w1, Bool.true_and]
  by_cases c : z.length = 1
  · rw [decide_eq_true c, c]
    rfl
  · rw [decide_eq_false c, decide_eq_false fun e => c (by injection e with e; omega)]
theorem mark_len {z : Str} (h : nameS z = true) : markS z = decide ((1 : Int) < (z.length : Nat)) := by
  unfold markS
  first
    | rw [h, Bool.true_and]
  by_cases c : 1 < z.length
  · rw [decide_eq_true (show (1 : Int) < (z.length : Nat) by omega)]
    simp
    omega
  · rw [decide_eq_false (show ¬ (1 : Int) < (z.length : Nat) by omega)]
    simp
    omega
end Sl
/-! ## C23 -/
set_option Elab.async false
set_option linter.all false
set_option maxRecDepth 100000
set_option maxHeartbeats 1000000
set_option pp.maxSteps 1500
set_option pp.deepTerms false
/-! what a reader tells of itself, held against the model -/
namespace Sl
open PySem PySem.Spec PyProof.Rows L2 TxS
abbrev sTold : Stmt := top 38
/-- the reader at p, made of the model at M -/
structure Both (C : Addr) (H : Hp) (p M : Addr) : Prop where
  ex : ∃ (L E : Addr) (ds : List Addr) (rows rows' : List Rw) (ns ns' : List Int) (b : Int) (ys ts paper tells marks : List Str), ReaderX C H p rows' ns' b ys ts ∧ Ascs rows rows' ∧ ns'.Perm ns ∧ ns'.Pairwise (· ≤ ·) ∧
    Gath ys (keysOf rows) ∧ sortedS ys = true ∧ Gath ts (toldsOf rows) ∧ sortedS ts = true ∧ ModelAt H M L E ds rows ns b ∧ Drawn paper tells marks rows ns b
theorem keys_len {rows : List Rw} : ∀ {n : Nat}, rows.length ≤ n → (∀ r ∈ rows, r.length < 64) → (keysOf rows).length ≤ 64 * n := by
  induction rows with
  | nil => intro n _ _; exact Nat.zero_le _
  | cons r rows ih =>
    intro n hn h
    cases n with
    | zero => simp at hn
    | succ n =>
      have a := ih (n := n) (by rw [List.length_cons] at hn; omega) fun r' hr => h r' (List.mem_cons_of_mem _ hr)
      have c := h r List.mem_cons_self
      unfold keysOf at a ⊢
      rw [List.flatMap_cons, List.length_append, List.length_map]
      omega
/-- the names in slot 7 that pass a test, as a new list -/
theorem pick_names {K : PySem.W.Frag} {ts : List Str} {t : Str → Bool} {tt : TT} {H4 : Hp} {Lt : Addr} {s0 s1 s2 s3 s4 s5 s6 s8 : Option V} {Q0 : VK} (l64 : ts.length < 64)
    (htt : ∀ z ∈ ts, ∀ (H' : Hp) (Q' : Bool → Hp → Prop), Q' (t z) H' → tt [s0, s1, s2, s3, s4, s5, s6, some (.ref Lt), some (.str z)] H' Q') (h4 : H4 Lt = some (.lst (ts.map V.str)))
    (q0 : ∀ (H5 : Hp) (D5 : Addr), Ext H4 H5 → H4 D5 = none → H5 D5 = some (.lst ((ts.filter t).map V.str)) → Q0 (.ref D5) H5) :
    tLc (iList K (tVar 7)) (gName 8) tt (tVar 8) [8] [s0, s1, s2, s3, s4, s5, s6, some (.ref Lt), s8] H4 Q0 := by
  refine ⟨_, rfl, Lt, rfl, ⟨_, SqL.of h4⟩, fun D5 nD5 => ?_⟩
  refine lc_it (walk_list (xs := ts.map V.str)) (fun i H5 => Ext H4 H5 ∧ H5 D5 = some (.lst (((ts.take i).filter t).map V.str))) ⟨Ext.new nD5, upd_same⟩ (fun i H5 _ h => SqL.of (h.1 _ _ h4)) ?_ ?_
  · rintro i x H5 H6 hi ⟨h1, h2⟩ ⟨rfl, hx⟩
    obtain ⟨z, hz, rfl⟩ := at_map hx
    refine ⟨rfl, htt z (List.mem_of_getElem? hz) _ _ ?_⟩
    rw [take_more hz, List.filter_append]
    have li : ((ts.take i).filter t).length ≤ ts.length := Nat.le_trans (List.length_filter_le _ _) (by rw [List.length_take]; omega)
    cases ct : t z with
    | false =>
      have e1 : List.filter t [z] = [] := by rw [List.filter_cons_of_neg (by rw [ct]; exact Bool.false_ne_true)]; rfl
      rw [e1, List.append_nil]
      exact ⟨h1, h2⟩
    | true =>
      have e1 : List.filter t [z] = [z] := by rw [List.filter_cons_of_pos ct]; rfl
      rw [e1, List.map_append]
      refine ⟨_, rfl, _, h2, by rw [List.length_map]; exact small_list (by omega), fun b o e => by rw [upd_ne (ne_of_none e nD5)]; exact h1 _ _ e, upd_same⟩
  · rintro H5 ⟨h1, h2⟩
    rw [List.length_map, List.take_length] at h2
    exact q0 H5 D5 h1 nD5 h2
def spTold (C : Addr) : Sp := fun vs H Q _ => ∃ (p M : Addr), vs = [.ref p, .ref M] ∧ Both C H p M ∧ ∀ H', Ext H H' → Q (.bl true) H'
section
variable {P : Program} {w : World} {K : PySem.W.Frag} {mg : Str → Option Value} {base : Heap}
abbrev nTold : List Str := ["_law_made_here", "_law_model_here", "_law_rows", "_law_stops", "_law_begin", "_law_letters_here", "_law_line", "_law_things_here", "_law_thing"]
theorem scTold : FnScope nTold ["_law_made_here", "_law_model_here"] (defScope sTold) := ⟨rfl, rfl, rfl, by decide +kernel, rfl, by decide +kernel, by decide +kernel⟩
theorem ok_told {f C pS fS fE fL fP fT fMk fTh fR fV : Addr} {fd fdS fdE fdL fdP fdT fdMk fdTh fdR fdV : FuncData} {mc u12 : Value} (F : Fun K "_law_told_right" "_law_told_right" sTold f fd) (T : RdC K C) (gC : mg "Reader" = some (.ref C))
    (hS : PropOf K C "start" pS fS) (bS : L2.Binds K fdS ["self"] []) (gS : FnOk P w K mg base CX0 1 fS fdS ["self"] (spStart C))
    (mE : L2.Meth K C "ends" fE) (bE : L2.Binds K fdE ["self"] []) (gE : FnOk P w K mg base CX0 1 fE fdE ["self"] (spEnds C))
    (mL : L2.Meth K C "__len__" fL) (bL : L2.Binds K fdL ["self"] []) (gL : FnOk P w K mg base CX0 1 fL fdL ["self"] (spLenR C))
    (mP : L2.Meth K C "page_signs" fP) (bP : L2.Binds K fdP ["self"] []) (gP : FnOk P w K mg base CX0 1 fP fdP ["self"] (spPaper C))
    (mT : L2.Meth K C "text_signs" fT) (bT : L2.Binds K fdT ["self"] []) (gT : FnOk P w K mg base CX0 1 fT fdT ["self"] (spTextsM C))
    (mM : L2.Meth K C "marks" fMk) (bM : L2.Binds K fdMk ["self"] []) (gM : FnOk P w K mg base CX0 1 fMk fdMk ["self"] (spMarksM C))
    (aTh : At K mg "_law_things" fTh fdTh ["_law_model_here"] []) (gTh : FnOk P w K mg base CX0 1 fTh fdTh ["_law_model_here"] spThings)
    (aR : At K mg "_law_moves_right" fR fdR ["_law_made_here", "_law_model_here"] []) (gR : FnG P w K mg base CX0 8 fR fdR ["_law_made_here", "_law_model_here"] (spMovesR C))
    (aV : At K mg "_law_values_right" fV fdV ["_law_made_here", "_law_many"] []) (gV : FnOk P w K mg base CX0 4 fV fdV ["_law_made_here", "_law_many"] (spValues C))
    (rC : ClX.CRead K C mc) (cv : ClX.CVal K C mc "MAX_STATES" (.int 12) u12) (c12 : Con K C "MAX_STATES" (.int 12) u12)
    (zp : mg "repr" = none) (zs : mg "sorted" = none) (zl : mg "list" = none) (zn : mg "len" = none) (zt : mg "tuple" = none) (zset : mg "set" = none) :
    FnG P w K mg base CX0 9 f fd ["_law_made_here", "_law_model_here"] (spTold C) := by
  refine Sl.Fun.okG F scTold (fun vs H Q E h => ?_) (fun cdv A0 outer s H vs Q E0 gd hr h => ?_)
  · obtain ⟨p, M, rfl, _⟩ := h
    rfl
  · obtain ⟨p, M, rfl, B, k⟩ := h
    obtain ⟨L, E, ds, rows, rows', ns, ns', b, ys, ts, paper, tells, marks, RX, asc, pn, rise, gy, sy, gt, st, hM, dr⟩ := B.ex
    have hr1 : Room 1 _ := hr.mono (by decide)
    have hr2 : Room 2 _ := hr.mono (by decide)
    have hr4 : Room 4 _ := hr.mono (by decide)
    have hu0 := hr.units
    refine ⟨_, pss_cons (ps_asg (pv 1) (pg_tup rfl (pgs_cons (pg_name (i := 2) scTold.nd rfl (.inl rfl)) (pgs_cons (pg_name (i := 3) scTold.nd rfl (.inl rfl)) (pgs_cons (pg_name (i := 4) scTold.nd rfl (.inl rfl)) pgs_nil)))))
      (pss_cons (ps_if (pt_cmpR op_ne (pe_callB (cr_shown gd hr.units) (by rfl) zp (by decide +kernel) (pa_cons (pe_lst (pa_cons (pe_prop (pv 0) T.cl hS gS hr2 bS .nil pass0 rfl) (pa_cons (pe_meth0 (pv 0) T.cl mE gE hr1 bE .nil pass0) (pa_cons (pe_callB (call_lenO mL gL hr2 bL) (by rfl) zn PySem.boot_len (pa_cons (pv 0) pa_nil)) pa_nil)))) pa_nil))
          (pe_callB (cr_shown gd hr.units) (by rfl) zp (by decide +kernel) (pa_cons (pe_lst (pa_cons (pv 4) (pa_cons (pe_callTy call_tuple_of (by rfl) zt (by decide +kernel) (pa_cons (pe_callB cr_sortedK (by rfl) zs (by decide +kernel) (pa_cons (pv 3) pa_nil)) pa_nil)) (pa_cons (pe_callB call_len_seq (by rfl) zn PySem.boot_len (pa_cons (pv 2) pa_nil)) pa_nil)))) pa_nil)) (by rfl)) (pss_one (ps_ret pe_bl)) pss_nil)
      (pss_cons (ps_set (i := 5) scTold.nd rfl (.inl rfl) (pe_lst pa_nil))
      (pss_cons (ps_for (passes_of rfl) rfl (pi_list (pv 2)) (pg_name (i := 6) scTold.nd rfl (.inl rfl)) (pss_one (ps_set (i := 5) scTold.nd rfl (.inl rfl) (pe_op op_cat (pv 5) (pe_callTy (call_listD rfl) (by rfl) zl (by decide +kernel) (pa_cons (pv 6) pa_nil))))))
      (pss_cons (ps_set (i := 7) scTold.nd rfl (.inl rfl) (pe_call gTh hr1 (by rfl) aTh.g aTh.kp aTh.b .nil pass0 (pa_cons (pv 1) pa_nil)))
      (pss_cons (ps_if (pt_cmpR op_ne (pe_meth0 (pv 0) T.cl mP gP hr1 bP .nil pass0) (pe_join pe_str (pe_callB (cr_sortedTx rfl) (by rfl) zs (by decide +kernel) (pa_cons (pe_callTy (cr_setTx rfl) (by rfl) zset (by decide +kernel) (pa_cons (pv 5) pa_nil)) pa_nil))) (by rfl)) (pss_one (ps_ret pe_bl)) pss_nil)
      (pss_cons (ps_if (pt_cmpR op_ne (pe_meth0 (pv 0) T.cl mT gT hr1 bT .nil pass0) (pe_join pe_str (pe_lc (own := [("_law_thing", 8)]) (g := gName 8) (tt := tTest (tOp rEq (tCB rLenS (tCons (tVar 8) tNil)) (tC (.int 1)))) rfl scTold.nd (pi_list (pv 7)) (blkOk_by (N := nTold) (sc := defScope sTold) (by decide +kernel))
          (fun _ _ _ _ _ => pg_name (i := 8) scTold.nd rfl (Or.inl rfl)) (fun _ _ _ _ _ => pts_one (pt_cmpR op_eq (pe_callB (r := rLenS) call_len_str (by rfl) zn PySem.boot_len (pa_cons (pv 8) pa_nil)) pe_int (nomark _))) (fun _ _ _ _ _ => pv 8))) (by rfl)) (pss_one (ps_ret pe_bl)) pss_nil)
      (pss_cons (ps_if (PW.pt (pw_or (pt_cmpR (op_neD hu0) (pe_meth0 (pv 0) T.cl mM gM hr1 bM .nil pass0) (pe_lc (own := [("_law_thing", 8)]) (g := gName 8) (tt := tTest (tOp (rI0 fun i j => .bl (decide (j < i))) (tCB rLenS (tCons (tVar 8) tNil)) (tC (.int 1)))) rfl scTold.nd (pi_list (pv 7)) (blkOk_by (N := nTold) (sc := defScope sTold) (by decide +kernel))
          (fun _ _ _ _ _ => pg_name (i := 8) scTold.nd rfl (Or.inl rfl)) (fun _ _ _ _ _ => pts_one (pt_cmpR op_gt (pe_callB (r := rLenS) call_len_str (by rfl) zn PySem.boot_len (pa_cons (pv 8) pa_nil)) pe_int (nomark _))) (fun _ _ _ _ _ => pv 8)) (by rfl))
          (pw_or1 (pt_not (pt_val (pe_callG gR gd hr (by rfl) aR.g aR.kp aR.b pass0 (pa_cons (pv 0) (pa_cons (pv 1) pa_nil)))))))) (pss_one (ps_ret pe_bl)) pss_nil)
      (pss_one (ps_ret (pe_and (pe_cmpR op_eq (ClX.pe_cval (pe_glob (v := .ref C) (by rfl) gC (show RelV (V.ref C) (Value.ref C) from rfl))) pe_int (nomark _)) (pe_and (pe_cmpR op_eq (pe_con (pv 0) rfl) pe_int (nomark _))
        (pe_one (pe_call gV hr4 (by rfl) aV.g aV.kp aV.b .nil pass0 (pa_cons (pv 0) (pa_cons (pe_callB call_len_seq (by rfl) zn PySem.boot_len (pa_cons (pv 2) pa_nil)) pa_nil))))))))))))))), ?_⟩
    have RA := RX.plain
    have okr := model_ok dr.ok dr.pin dr.tin dr.min
    have hi := dr.ok.hi
    have lo := dr.ok.lo
    have lns := dr.ok.len
    have l64 : ∀ r ∈ rows, r.length < 64 := fun r hr => by have := row_len (dr.ok.rw_ r hr) dr.lp; omega
    have e12 : rows'.length = rows.length := asc.perms.len.symm
    have ok' : okRows rows.length rows' := okRows_perms asc.perms okr
    obtain ⟨dx, fs, L0, ds0, Te0, a1, a2, a3, a4, a5, a6, a7, a8⟩ := RA.ex
    refine ⟨_, rfl, M, _, rfl, SqT.of hM.h1, rfl, _, _, rfl, _, _, rfl, _, _, rfl, rfl, ?_⟩
    have nsin : ∀ i ∈ ns', 0 ≤ i ∧ i ≤ 100 := fun i h => by
      obtain ⟨q1, q2⟩ := dr.ok.inn i (pn.mem_iff.mp h)
      exact ⟨q1, by omega⟩
    have fn := info_fine (b := b) (ns := ns') (n := rows.length) dr.ok.b0 (by have := dr.ok.b1; omega) nsin (by rw [pn.length_eq]; omega) (by omega)
    have sn := fine_shown fn
    have dn : (infoD b ns' rows.length).depth ≤ 60 := Nat.le_trans fn.dp (by decide)
    have sz3 : (3 : Nat) ≤ sizeLine := by decide
    refine ⟨_, rfl, p, dx, fs, rfl, a1, p, rows', ns', b, rfl, RA, _, rfl, p, dx, fs, rfl, a1, a8 _ (by decide +kernel), p, rows', ns', b, rfl, RA, fun Te hTe => ?_⟩
    refine ⟨_, rfl, p, dx, fs, rfl, a1, p, rows', ns', b, rfl, RA, rows'.length, rfl, by omega, sz3, fun T1 nT1 => ?_⟩
    rw [e12]
    have x1 := Ext.new nT1 (o := .lst [.int b, .ref Te, .int (rows.length : Nat)])
    have g1 : (upd H T1 (.lst [.int b, .ref Te, .int (rows.length : Nat)])) T1 = some (.lst [.int b, .ref Te, .int (rows.length : Nat)]) := upd_same
    generalize upd H T1 (.lst [.int b, .ref Te, .int (rows.length : Nat)]) = H1 at x1 g1 ⊢
    refine ⟨T1, infoD b ns' rows.length, rfl, info_dp g1 (x1 _ _ hTe), fn.sh, fn.nd, dn, sn, ?_⟩
    refine ⟨_, rfl, _, rfl, true, E, ns, rfl, SqK.l (x1 _ _ hM.h5), by omega, fun ms pa pm rise2 na => ?_⟩
    obtain rfl : ms = ns' := ints_unique rise2 rise (pm.trans pn.symm)
    have lr : (ds.map V.ref).length = rows.length := by rw [List.length_map, hM.h3.len]
    refine ⟨pa, _, rfl, .inl ⟨SqL.of upd_same, fun T2 nT2 => ?_⟩⟩
    have x2 : Ext H1 (upd (upd H1 pa (.lst (ms.map V.int))) T2 (.tup (ms.map V.int))) := (Ext.new na).trans (Ext.new nT2)
    have g2 : (upd (upd H1 pa (.lst (ms.map V.int))) T2 (.tup (ms.map V.int))) T2 = some (.tup (ms.map V.int)) := upd_same
    generalize upd (upd H1 pa (.lst (ms.map V.int))) T2 (.tup (ms.map V.int)) = H2 at x2 g2 ⊢
    have x02 := x1.trans x2
    refine ⟨_, rfl, L, _, rfl, .inl (SqL.of (x02 _ _ hM.h2)), sz3, fun T3 nT3 => ?_⟩
    rw [lr]
    have x3 := Ext.new nT3 (o := .lst [.int b, .ref T2, .int (rows.length : Nat)])
    have g3 : (upd H2 T3 (.lst [.int b, .ref T2, .int (rows.length : Nat)])) T3 = some (.lst [.int b, .ref T2, .int (rows.length : Nat)]) := upd_same
    generalize upd H2 T3 (.lst [.int b, .ref T2, .int (rows.length : Nat)]) = H3 at x3 g3 ⊢
    have x03 := x02.trans x3
    refine ⟨T3, infoD b ms rows.length, rfl, info_dp g3 (x3 _ _ g2), fn.sh, fn.nd, dn, sn, rfl, _, rfl, ?_⟩
    rw [show ∀ y : Str, (!decide (V.str y = V.str y)) = false from fun y => by simp]
    refine iteF ?_
    -- the letters
    refine ⟨by show 0 ≤ sizeLine; decide, fun F0 nF => ?_⟩
    have x4 := Ext.new nF (o := .lst [])
    have g4 : (upd H3 F0 (.lst [])) F0 = some (.lst (([] : List Str).map V.str)) := upd_same
    generalize upd H3 F0 (.lst []) = H4 at x4 g4 ⊢
    have x04 := x03.trans x4
    have hM4 := hM.ext x04
    refine ⟨_, rfl, L, rfl, ⟨_, SqL.of hM4.h2⟩, ?_⟩
    refine for_it (walk_list (xs := ds.map V.ref)) (fun i σ H' => ∃ F v6, σ = [some (.ref p), some (.ref M), some (.ref L), some (.ref E), some (.int b), some (.ref F), v6, none, none] ∧ Ext H4 H' ∧ H' F = some (.lst ((keysOf (rows.take i)).map V.str)))
      ⟨F0, none, rfl, Ext.refl _, g4⟩ (fun i σ H' _ ⟨_, _, _, x, _⟩ => SqL.of (x _ _ hM4.h2)) ?_ ?_
    · rintro i x σ H5 H6 hi ⟨F2, v6, rfl, x5, hF2⟩ ⟨rfl, hx⟩
      obtain ⟨d, hd, rfl⟩ := at_map hx
      obtain ⟨r, hri, es, he1, he2⟩ := hM4.h3.at_ hd
      have d2 := x5 _ _ he1
      refine ⟨_, rfl, _, rfl, d, _, rfl, Rd.of d2, fun p1 np1 => ?_⟩
      have ek : (kvsOf es).map (fun kv => kV kv.1) = (r.map (·.1)).map V.str := by
        rw [← he2.keys]
        unfold kvsOf
        rw [List.map_map, List.map_map]
        rfl
      have e2 : keysOf (rows.take (i + 1)) = keysOf (rows.take i) ++ r.map (·.1) := by
        unfold keysOf
        rw [take_more hri, List.flatMap_append]
        simp
      have hil : i < rows.length := (List.getElem?_eq_some_iff.mp hri).1
      have lt1 : (keysOf (rows.take i)).length ≤ 64 * 12 := keys_len (by rw [List.length_take]; omega) fun r hr => l64 r (List.mem_of_mem_take hr)
      have lt2 := l64 r (List.mem_of_getElem? hri)
      rw [ek]
      refine ⟨F2, p1, _, _, rfl, rfl, Ext.new np1 _ _ hF2, upd_same, by rw [List.length_map, List.length_map, List.length_map]; exact Nat.le_of_lt (small_list (by omega)), fun p2 np2 => ?_⟩
      refine ⟨p2, _, rfl, (x5.trans (Ext.new np1)).trans (Ext.new np2), ?_⟩
      rw [upd_same, e2, List.map_append]
    rintro σ H5 ⟨F, v6, rfl, x5, hF⟩
    rw [lr, List.take_length] at hF
    have x05 := x04.trans x5
    have few64 : (tells ++ marks).length < 64 := by rw [List.length_append, dr.lt, dr.lm]; decide
    refine ⟨_, rfl, M, L, E, ds, rows, ns, b, tells ++ marks, rfl, hM.ext x05, hi, l64, tolds_in dr.ok, few64, fun H6 p6 ts6 x6 n6 g6 gt6 st6 => ?_⟩
    obtain rfl : ts6 = ts := sorted_unique st6 st (gath_perm gt6 gt)
    have x06 := x05.trans x6
    have RX6 := RX.ext x06
    have p60 := x06 _ _ a1
    -- the page signs
    refine ⟨_, rfl, p, dx, fs, rfl, p60, a8 _ (by decide +kernel), p, rows', ms, b, ys, ts6, rfl, RX6, ?_⟩
    refine ⟨⟨_, rfl⟩, _, rfl, F, keysOf rows, rfl, x6 _ _ hF, by have := keys_len hi l64; unfold scanBound; omega, fun S nS => ?_⟩
    have xS := Ext.new nS (o := SetSO P w S (addAll [] (keysOf rows)))
    have gS' : Gath (addAll [] (keysOf rows)) (keysOf rows) := ⟨addAll_nodup _ _ List.nodup_nil, fun z => by rw [addAll_mem]; simp⟩
    have ly : ys.length < 64 := Nat.lt_of_le_of_lt (len_le gy.1 fun z hz => keys_in dr.ok z ((gy.2 z).mp hz)) (by have := dr.lp; omega)
    refine ⟨S, _, rfl, upd_same, by rw [(gath_perm gS' gy).length_eq]; exact ly, fun zs p7 pm sr n7 => ?_⟩
    obtain rfl : zs = ys := sorted_unique sr sy (pm.trans (gath_perm gS' gy))
    have x67 := xS.trans (Ext.new n7 (o := .lst (zs.map V.str)))
    have y8 : ∀ z ∈ zs, z.length ≤ 8 := gy.le fun z hz => by
      rw [keys_name (fun r hr => (okr.2 r hr).1) z hz]
      decide
    refine ⟨_, p7, zs, rfl, rfl, .inl (SqL.of upd_same), join_le y8 ly, rfl, _, rfl, ?_⟩
    rw [show ∀ y : Str, (!decide (V.str y = V.str y)) = false from fun y => by simp]
    refine iteF ?_
    have eP : (cxOf CX0 P w K mg base nTold "_law_told_right" (defScope sTold) f cdv A0 outer s H E0).prog = P := rfl
    have eW : (cxOf CX0 P w K mg base nTold "_law_told_right" (defScope sTold) f cdv A0 outer s H E0).w = w := rfl
    rw [eP, eW]
    generalize upd (upd H6 S (SetSO P w S (addAll [] (keysOf rows)))) p7 (.lst (zs.map V.str)) = H7 at x67 ⊢
    have x07 := x06.trans x67
    have g7 := x67 _ _ g6
    -- the text signs
    have tn : ∀ z ∈ ts6, nameS z = true ∧ z.length ≤ 8 := fun z hz => told_names (fun r hr => (okr.2 r hr).1) z ((gt.2 z).mp hz)
    have lts : ts6.length < 64 := Nat.lt_of_le_of_lt (len_le gt.1 fun z hz => tolds_in dr.ok z ((gt.2 z).mp hz)) few64
    refine ⟨_, rfl, p, dx, fs, rfl, x07 _ _ a1, a8 _ (by decide +kernel), p, rows', ms, b, zs, ts6, rfl, RX.ext x07, ?_⟩
    have szN : ∀ z ∈ ts6, z.length ≤ sizeLine := fun z hz => Nat.le_of_lt (small_list (by have := (tn z hz).2; omega))
    refine ⟨⟨_, rfl⟩, pick_names (t := signS) lts (fun z hz H' Q' q => ⟨_, rfl, z, rfl, szN z hz, rfl, _, rfl, by rw [← sign_len (tn z hz).1]; exact q⟩) g7 fun H8 D8 x8 nD8 l8 => ?_⟩
    have lf : (ts6.filter signS).length ≤ ts6.length := List.length_filter_le _ _
    refine ⟨_, D8, ts6.filter signS, rfl, rfl, .inl (SqL.of l8), join_le (fun z hz => (tn z (List.mem_filter.mp hz).1).2) (by omega), rfl, _, rfl, ?_⟩
    rw [show ∀ y : Str, (!decide (V.str y = V.str y)) = false from fun y => by simp]
    refine iteF ?_
    have x08 := x07.trans x8
    -- the marks
    refine ⟨_, rfl, p, dx, fs, rfl, x08 _ _ a1, a8 _ (by decide +kernel), p, rows', ms, b, zs, ts6, rfl, RX.ext x08, fun l9 n9 => ?_⟩
    have x9 := Ext.new n9 (o := .lst ((ts6.filter markS).map V.str))
    have g9 : (upd H8 l9 (.lst ((ts6.filter markS).map V.str))) l9 = some (.lst ((ts6.filter markS).map V.str)) := upd_same
    generalize upd H8 l9 (.lst ((ts6.filter markS).map V.str)) = H9 at x9 g9 ⊢
    have x09 := x08.trans x9
    refine pick_names (t := markS) lts (fun z hz H' Q' q => ⟨_, rfl, z, rfl, szN z hz, _, _, rfl, rfl, _, rfl, by rw [← mark_len (tn z hz).1]; exact q⟩) (x9 _ _ (x8 _ _ g7)) fun H10 D10 x10 nD10 l10 => ?_
    have sh := strs_shaped (l := ts6.filter markS) fun z hz => (tn z (List.mem_filter.mp hz).1).1
    refine ⟨strsD (ts6.filter markS), strsD (ts6.filter markS), .lst (SqL.of (x10 _ _ g9)) (strs_dp _), .lst (SqL.of l10) (strs_dp _), sh.1, sh.1, _, rfl, ?_⟩
    rw [sh.2]
    have x010 := x09.trans x10
    refine iteF ?_
    refine ⟨_, rfl, _, rfl, p, M, L, E, ds, rows, rows', ms, ns, b, b, rfl, RA.ext x010, asc, hM.ext x010, okr, hi, l64, fun H11 x11 => ⟨true, rfl, iteF ?_⟩⟩
    have x011 := x010.trans x11
    refine ⟨C, mc, .int 12, u12, rfl, rC, cv, rfl, _, rfl, ?_⟩
    rw [show decide (V.int 12 = V.int 12) = true from decide_eq_true rfl]
    refine iteT ⟨_, rfl, p, C, dx, fs, .int 12, u12, rfl, x011 _ _ a1, T.cl, c12, a8 _ (by decide +kernel), rfl, _, rfl, ?_⟩
    rw [show decide (V.int 12 = V.int 12) = true from decide_eq_true rfl]
    refine iteT ⟨_, rfl, _, rfl, L, _, rfl, .inl (SqL.of (x011 _ _ hM.h2)), ?_⟩
    rw [lr, ← e12]
    exact ⟨p, rows', ms, b, rfl, RA.ext x011, by omega, fun H12 x12 => k H12 (x011.trans x12)⟩
end
end Sl
/-! ## C24 -/
set_option Elab.async false
set_option linter.all false
set_option maxRecDepth 100000
set_option maxHeartbeats 1000000
set_option pp.maxSteps 1500
set_option pp.deepTerms false
/-! readers without ends and start -/
namespace Sl
open PySem PySem.Spec PyProof.Rows L2 TxS
abbrev sDefs : Stmt := top 36
def spDefs : Sp := fun vs H Q _ => ∃ (M L E : Addr) (ds : List Addr) (rows : List Rw) (ns : List Int) (b : Int) (paper tells marks : List Str), vs = [.ref M] ∧ ModelAt H M L E ds rows ns b ∧ Drawn paper tells marks rows ns b ∧ ∀ H', Ext H H' → Q (.bl true) H'
/-- a reader without ends whose start is 0, with so many states -/
def Bare (C : Addr) (H : Hp) (e : Addr × Nat) : Prop := ∃ rows', ReaderAt C H e.1 rows' [] 0 ∧ rows'.length = e.2
theorem Bare.ext {C : Addr} {H H' : Hp} {e : Addr × Nat} (h : Bare C H e) (x : Ext H H') : Bare C H' e := by
  obtain ⟨rows', a, b⟩ := h
  exact ⟨rows', a.ext x, b⟩
/-- (0, (), n) -/
def bareD (n : Nat) : PyData := .tuple [.int 0, .tuple [], .int (n : Nat)]
inductive Trip0 (H : Hp) : List Addr → List Nat → Prop
  | nil : Trip0 H [] []
  | cons {t T : Addr} {n : Nat} {ts : List Addr} {l : List Nat} : H t = some (.tup [.int 0, .ref T, .int (n : Nat)]) → H T = some (.tup []) → Trip0 H ts l → Trip0 H (t :: ts) (n :: l)
theorem Trip0.ext {H H' : Hp} (x : ∀ t xs, H t = some (.tup xs) → H' t = some (.tup xs)) : ∀ {ts : List Addr} {l : List Nat}, Trip0 H ts l → Trip0 H' ts l
  | _, _, .nil => .nil
  | _, _, .cons a b h => .cons (x _ _ a) (x _ _ b) (h.ext x)
theorem Trip0.snoc {H : Hp} {t T : Addr} {n : Nat} (a : H t = some (.tup [.int 0, .ref T, .int (n : Nat)])) (b : H T = some (.tup [])) : ∀ {ts : List Addr} {l : List Nat}, Trip0 H ts l → Trip0 H (ts ++ [t]) (l ++ [n])
  | _, _, .nil => .cons a b .nil
  | _, _, .cons c d h => .cons c d (h.snoc a b)
theorem Trip0.len {H : Hp} : ∀ {ts : List Addr} {l : List Nat}, Trip0 H ts l → ts.length = l.length
  | _, _, .nil => rfl
  | _, _, .cons _ _ h => congrArg (· + 1) h.len
theorem trip0_dp {K : PySem.W.Frag} {H : Hp} : ∀ {ts : List Addr} {l : List Nat}, Trip0 H ts l → DpAll K H (ts.map V.ref) (l.map bareD)
  | _, _, .nil => .nil
  | _, _, .cons a b h => .cons (.tup (SqT.of a) (.cons (.int _) (.cons (.tup (SqT.of b) .nil) (.cons (.int _) .nil)))) (trip0_dp h)
theorem bares_can : ∀ l : List Nat, PyData.canLayAll0 (l.map bareD) = true ∧ PyData.depthAll (l.map bareD) ≤ 4
  | [] => ⟨rfl, by simp [PyData.depthAll]⟩
  | n :: l => by
    obtain ⟨k1, k2⟩ := bares_can l
    refine ⟨?_, ?_⟩
    · show (PyData.canLay0 (bareD n) && PyData.canLayAll0 (l.map bareD)) = true
      rw [k1, Bool.and_true]
      simp [bareD, PyData.canLay0, PyData.canLayAll0]
    · simp only [List.map_cons, PyData.depthAll, bareD, PyData.depth]
      omega
theorem bares_shaped (l : List Nat) : SeqAt.shaped (.list (l.map bareD)) = true ∧ PyData.eqv (.list (l.map bareD)) (.list (l.map bareD)) = true := by
  obtain ⟨k1, k2⟩ := bares_can l
  have c0 : PyData.canLay0 (.list (l.map bareD)) = true := by
    rw [PyData.canLay0]
    exact k1
  refine ⟨?_, SeqAt.eqv_refl _ c0⟩
  show (PyData.canLay0 _ && decide _) = true
  rw [c0, Bool.true_and, decide_eq_true_eq]
  simp only [PyData.depth]
  omega
section
variable {P : Program} {w : World} {K : PySem.W.Frag} {mg : Str → Option Value} {base : Heap}
theorem qrow_ok : ∀ r ∈ ([[(("q" : Str), ((0 : Int), (none : Option Str)))], []] : List Rw), okRow ((2 : Nat) : Int) r ∧ (r.map (·.1)).Nodup ∧ r.length < 64 := fun r hr => by
  rcases List.mem_cons.mp hr with e | hr
  · subst e
    refine ⟨fun e he => ?_, by decide +kernel, by decide⟩
    rw [List.mem_singleton.mp he]
    exact ⟨by decide +kernel, ⟨by decide, by decide⟩, fun z hz => by cases hz⟩
  · rw [List.mem_singleton.mp hr]
    exact ⟨(fun e he => by cases he), List.nodup_nil, by decide⟩
theorem qrow_AB : ∃ A B : List Str, (∀ z ∈ keysOf ([[(("q" : Str), ((0 : Int), (none : Option Str)))], []] : List Rw), z ∈ A) ∧ A.length ≤ 6 ∧ (∀ z ∈ toldsOf ([[(("q" : Str), ((0 : Int), (none : Option Str)))], []] : List Rw), z ∈ B) ∧ B.length < 64 ∧ (B.filter signS).length ≤ 4 ∧ (B.filter markS).length ≤ 6 :=
  ⟨keysOf [[("q", (0, none))], []], [], fun z hz => hz, by decide, fun z hz => hz, by decide, by decide, by decide⟩
theorem erow_ok : ∀ r ∈ ([[]] : List Rw), okRow ((1 : Nat) : Int) r ∧ (r.map (·.1)).Nodup ∧ r.length < 64 := fun r hr => by
  rw [List.mem_singleton.mp hr]
  exact ⟨(fun e he => by cases he), List.nodup_nil, by decide⟩
theorem erow_AB : ∃ A B : List Str, (∀ z ∈ keysOf ([[]] : List Rw), z ∈ A) ∧ A.length ≤ 6 ∧ (∀ z ∈ toldsOf ([[]] : List Rw), z ∈ B) ∧ B.length < 64 ∧ (B.filter signS).length ≤ 4 ∧ (B.filter markS).length ≤ 6 :=
  ⟨[], [], fun z hz => hz, by decide, fun z hz => hz, by decide, by decide, by decide⟩
theorem made_init' {C S En : Addr} {H : Hp} {ks ke : Bool} {ds : List Addr} {rows : List Rw} {ns : List Int} {b : Int} {QQ : Addr → Hp → Prop} {E : XK} (m : MkA K H ke En ds rows ns b) (hS : SqK K ks H S (ds.map V.ref))
    (o : ∀ (H' : Hp) (x : Addr) (rows' : List Rw) (ns' : List Int) (ys ts : List Str), Ext H H' → Ascs rows rows' → ns'.Perm ns → ReaderX C H' x rows' ns' b ys ts → QQ x H') :
    ∀ x dx, H x = none → H dx = none → dx ≠ x → spInit K C [.ref x, .ref S, .ref En, .int b] (upd (upd H dx (.own x)) x (.ins C dx [])) (fun v H3 => v = .non ∧ QQ x H3) E := by
  intro x dx nx ndx ne
  have e1 : Ext H (upd (upd H dx (.own x)) x (.ins C dx [])) := (Ext.new ndx).trans (Ext.new (by rw [upd_ne (Ne.symm ne)]; exact nx))
  have i1 : (upd (upd H dx (.own x)) x (.ins C dx [])) x = some (.ins C dx []) := upd_same
  generalize upd (upd H dx (.own x)) x (.ins C dx []) = H1 at e1 i1 ⊢
  obtain ⟨A, B, a1, a2, a3, a4, a5, a6⟩ := m.AB
  refine ⟨ks, ke, x, dx, S, En, ds, rows, ns, b, A, B, rfl, i1, hS.ext e1, m.hr.ext e1, m.l1, m.l12, m.ok, m.hE.ext e1, m.nl, m.nnd, m.nin, m.b0, m.bn, a1, a2, a3, a4, a5, a6, fun H' rows' ns' ys ts k p1 p2 p3 p4 p5 p6 p7 p8 p9 => ⟨rfl, ?_⟩⟩
  exact o H' x rows' ns' ys ts (fun b' o' e => k _ _ (e1 _ _ e) (ne_of_none e nx)) p1 p2 p8
abbrev nDefs : List Str := ["_law_model_here", "_law_rows", "_law_some", "_law_line", "_law_made_here", "_law_k"]
theorem scDefs : FnScope nDefs ["_law_model_here"] (defScope sDefs) := ⟨rfl, rfl, rfl, by decide +kernel, rfl, by decide +kernel, by decide +kernel⟩
theorem ok_defs {f C fI fO pO pS fS fE fL T0 T1 : Addr} {fd fdI fdS fdE fdL : FuncData} {g1 : List Value → List Value → List Value} {dsB : List Value} {mc : Value} (F : Fun K "_law_defaults_right" "_law_defaults_right" sDefs f fd) (T : RdC K C)
    (gC : mg "Reader" = some (.ref C)) (M : Mk K C fI) (gI : FnOk P w K mg base CX0 5 fI fdI ["self", "states", "ends", "start"] (spInit K C))
    (k1 : KBn K fdI ["self", "states", "ends", "start"] 1 ["states"] g1 (fun vs zs => vs ++ (zs ++ [.ref T0, .int 0]))) (bB : L2.Binds K fdI ["self", "states", "ends", "start"] dsB) (dB : Vals [.ref T0, .int 0] dsB)
    (hT0 : ∀ H, SqT K H T0 []) (hT1 : ∀ H, SqT K H T1 []) (rC : ClX.CRead K C mc) (cO : ClX.CMet K C mc "of" pO fO) (gO : OfFn P w K mg base 7 fO C [] (fun vs _ H Q => spOf K C vs [.ref T1, .int 0] H Q))
    (hS : PropOf K C "start" pS fS) (bS : L2.Binds K fdS ["self"] []) (gS : FnOk P w K mg base CX0 1 fS fdS ["self"] (spStart C))
    (mE : L2.Meth K C "ends" fE) (bE : L2.Binds K fdE ["self"] []) (gE : FnOk P w K mg base CX0 1 fE fdE ["self"] (spEnds C))
    (mL : L2.Meth K C "__len__" fL) (bL : L2.Binds K fdL ["self"] []) (gL : FnOk P w K mg base CX0 1 fL fdL ["self"] (spLenR C))
    (zd : mg "dict" = none) (zn : mg "len" = none) :
    FnOk P w K mg base CX0 8 f fd ["_law_model_here"] spDefs := by
  refine F.ok scDefs (fun vs H Q E h => ?_) (fun cdv A0 outer s H vs Q E0 hr h => ?_)
  · obtain ⟨M, L, E, ds, rows, ns, b, paper, tells, marks, rfl, _⟩ := h
    rfl
  · obtain ⟨Mo, L, E, ds, rows, ns, b, paper, tells, marks, rfl, hM, dr, k⟩ := h
    have hr1 : Room 1 _ := hr.mono (by decide)
    have hr2 : Room 2 _ := hr.mono (by decide)
    have hr6 : Room 6 _ := hr.mono (by decide)
    have hr7 : Room 7 _ := hr.mono (by decide)
    have hu0 := hr.units
    refine ⟨_, pss_cons (ps_setLc (i := 1) (own := [("_law_line", 3)]) (g := gName 3) (tt := tYes) (te := tCB rDict1 (tCons (tVar 3) tNil)) rfl scDefs.nd rfl rfl (sw_true rfl rfl rfl (by decide +kernel)) (pi_list (pe_ix ix_tup (pv 0) pe_int (fun _ _ => rfl)))
          (blkOk_by (N := nDefs) (sc := defScope sDefs) (by decide +kernel))
          (fun _ _ _ _ _ => pg_name (i := 3) scDefs.nd rfl (Or.inl rfl)) (fun _ _ _ _ _ => pts_nil) (fun _ _ _ _ _ => pe_callTy (T := "dict") (r := rDict1) call_dictD (by rfl) zd (by decide +kernel) (pa_cons (pv 3) pa_nil)))
      (pss_cons (ps_set (i := 2) scDefs.nd rfl (.inl rfl) (pe_lst (pa_cons (pe_make (E := fun _ _ _ => False) M gI hr6 (by rfl) gC bB dB pass0 (pa_cons (pv 1) pa_nil))
        (pa_cons (pe_makeK0 (E := fun _ _ _ => False) M gI hr6 (by rfl) gC k1 pass0 (pk_cons (pv 1) pk_nil))
        (pa_cons (pe_of (pe_glob (v := .ref C) (by rfl) gC (show RelV (V.ref C) (Value.ref C) from rfl)) rC cO gO hr7 (pa_cons (pe_disp (pps_cons pe_str (pe_tup (pa_cons pe_int (pa_cons pe_non pa_nil))) pps_nil) (by rfl) (by rfl) (fun z => by cases z) (by decide)) (pa_cons pe_dnewK pa_nil)) pk_nil)
        (pa_cons (pe_of (pe_glob (v := .ref C) (by rfl) gC (show RelV (V.ref C) (Value.ref C) from rfl)) rC cO gO hr7 (pa_cons pe_dnewK pa_nil) pk_nil) pa_nil))))))
      (pss_one (ps_ret (pe_cmpR (op_eqD hu0)
        (pe_lc (own := [("_law_made_here", 4)]) (g := gName 4) (tt := tYes) (te := tTup (tCons (tProp C (spStart C) [] (fun _ _ _ => False) (tVar 4)) (tCons (tMeth C "ends" (spEnds C) [] (fun _ _ _ => False) (tVar 4) tNil) (tCons (tCB (rLenO C (spLenR C)) (tCons (tVar 4) tNil)) tNil)))) rfl scDefs.nd (pi_list (pv 2)) (blkOk_by (N := nDefs) (sc := defScope sDefs) (by decide +kernel))
          (fun _ _ _ _ _ => pg_name (i := 4) scDefs.nd rfl (Or.inl rfl)) (fun _ _ _ _ _ => pts_nil) (fun _ _ _ _ _ => pe_tup (pa_cons (pe_prop (pv 4) T.cl hS gS hr2 bS .nil pass0 rfl) (pa_cons (pe_meth0 (pv 4) T.cl mE gE hr1 bE .nil pass0) (pa_cons (pe_callB (call_lenO mL gL hr2 bL) (by rfl) zn PySem.boot_len (pa_cons (pv 4) pa_nil)) pa_nil)))))
        (pe_lc (own := [("_law_k", 5)]) (g := gName 5) (tt := tYes) (te := tTup (tCons (tC (.int 0)) (tCons (tTup tNil) (tCons (tVar 5) tNil)))) rfl scDefs.nd (pi_list (pe_lst (pa_cons (pe_callB call_len_seq (by rfl) zn PySem.boot_len (pa_cons (pv 1) pa_nil)) (pa_cons (pe_callB call_len_seq (by rfl) zn PySem.boot_len (pa_cons (pv 1) pa_nil)) (pa_cons pe_int (pa_cons pe_int pa_nil)))))) (blkOk_by (N := nDefs) (sc := defScope sDefs) (by decide +kernel))
          (fun _ _ _ _ _ => pg_name (i := 5) scDefs.nd rfl (Or.inl rfl)) (fun _ _ _ _ _ => pts_nil) (fun _ _ _ _ _ => pe_tup (pa_cons pe_int (pa_cons (pe_tup pa_nil) (pa_cons (pv 5) pa_nil))))) (by rfl))))), ?_⟩
    have okr := model_ok dr.ok dr.pin dr.tin dr.min
    have few := names_few (tells := tells) (marks := marks) dr.tin dr.min (Nat.le_of_eq dr.lt) (Nat.le_of_eq dr.lm)
    have hi := dr.ok.hi
    have lo := dr.ok.lo
    refine ⟨_, rfl, Mo, _, _, .ref L, rfl, rfl, SqT.of hM.h1, atI_nat (j := 0) rfl, L, rfl, ⟨_, SqL.of hM.h2⟩, fun L2 nL2 => ?_⟩
    refine lc_it (walk_list (xs := ds.map V.ref)) (fun i H' => Ext H H' ∧ ∃ ds', H' L2 = some (.lst (ds'.map V.ref)) ∧ RowsAt H' ds' (rows.take i)) ⟨Ext.new nL2, [], upd_same, .nil⟩ (fun i H' _ h => SqL.of (h.1 _ _ hM.h2)) ?_ ?_
    · rintro i x H6' H6 hi' ⟨x6, ds', l6, w6⟩ ⟨rfl, hx⟩
      obtain ⟨d, hd, rfl⟩ := at_map hx
      obtain ⟨r, hri, es, he1, he2⟩ := hM.h3.at_ hd
      have hil : i < rows.length := (List.getElem?_eq_some_iff.mp hri).1
      refine ⟨rfl, _, rfl, d, _, rfl, Rd.of (x6 _ _ he1), fun p np => ?_⟩
      have xp : Ext H6 (upd H6 p (.dK (kvsOf es))) := Ext.new np
      have lp1 := xp _ _ l6
      have ld : ds'.length = i := by
        rw [w6.len, List.length_take]
        omega
      refine ⟨_, lp1, by rw [List.length_map]; exact small_list (by omega), fun b' o e => by rw [upd_ne (ne_of_none e nL2)]; exact xp _ _ (x6 _ _ e), ds' ++ [p], by rw [upd_same, List.map_append]; rfl, ?_⟩
      rw [take_more hri]
      refine RowsAt.snoc ?_ ?_
      · refine RowAt.same (H := upd H6 p (.dK (kvsOf es))) ⟨es, upd_same, he2.ext fun t xs e => xp _ _ (x6 _ _ e)⟩ (upd_ne (fun e => by rw [e, l6] at np; cases np)) fun t xs e => ?_
        rw [upd_ne (ne_of e lp1 (by intro q; cases q))]
        exact e
      · refine (w6.ext xp).keepN Keep.at_ (fun xs e => by rw [lp1] at e; cases e) fun hm => ?_
        obtain ⟨kvs, e⟩ := (w6.ext xp).mem hm
        rw [lp1] at e
        cases e
    rintro H1 ⟨x1, ds', l1, w1⟩
    rw [List.length_map, hM.h3.len, List.take_length] at w1
    have mkA : ∀ {H' : Hp} {ds' : List Addr} {rows : List Rw} {En : Addr}, (∀ H, SqT K H En []) → RowsAt H' ds' rows → 1 ≤ rows.length → rows.length ≤ 12 → (∀ r ∈ rows, okRow rows.length r ∧ (r.map (·.1)).Nodup ∧ r.length < 64) →
        (∃ A B : List Str, (∀ z ∈ keysOf rows, z ∈ A) ∧ A.length ≤ 6 ∧ (∀ z ∈ toldsOf rows, z ∈ B) ∧ B.length < 64 ∧ (B.filter signS).length ≤ 4 ∧ (B.filter markS).length ≤ 6) → MkA K H' false En ds' rows [] 0 :=
      fun hE h a b c d => ⟨h, a, b, c, hE _, by decide, List.nodup_nil, (fun i hi => by cases hi), by decide, by omega, d⟩
    have m1 : ∀ {H'}, Ext H1 H' → MkA K H' false T0 ds' rows [] 0 := fun x => mkA hT0 (w1.ext x) lo hi (fun r hr => ⟨(okr.2 r hr).1, (okr.2 r hr).2, by have := row_len (dr.ok.rw_ r hr) dr.lp; omega⟩)
      ⟨paper, tells ++ marks, keys_in dr.ok, dr.lp, tolds_in dr.ok, by rw [List.length_append, dr.lt, dr.lm]; decide, few.1, few.2⟩
    refine ⟨_, rfl, ?_⟩
    refine made_init' (C := C) (E := fun _ _ _ => False) (m1 (Ext.refl _)) (SqK.l l1) fun H2 r1 rows1 ns1 ys1 ts1 x12 as1 pn1 RX1 => ?_
    obtain rfl := List.perm_nil.mp pn1
    have b1 : Bare C H2 (r1, rows.length) := ⟨rows1, RX1.plain, as1.perms.len.symm⟩
    refine ⟨_, rfl, rfl, rfl, ?_⟩
    refine made_init' (C := C) (E := fun _ _ _ => False) (m1 x12) (SqK.l (x12 _ _ l1)) fun H3 r2 rows2 ns2 ys2 ts2 x23 as2 pn2 RX2 => ?_
    obtain rfl := List.perm_nil.mp pn2
    have b2 : Bare C H3 (r2, rows.length) := ⟨rows2, RX2.plain, as2.perms.len.symm⟩
    -- of({'q': (0, None)}, {})
    refine ⟨rfl, fun d1 nd1 => ⟨by show 2 ≤ sizeLine; decide, fun t1 nt1 => ?_⟩⟩
    have nt3 : H3 t1 = none := (Ext.new nd1 (o := .dK [])).free nt1
    have ntd : t1 ≠ d1 := fun z => by
      rw [z, upd_same] at nt1
      cases nt1
    refine ⟨by rw [upd_ne ntd.symm]; exact upd_same, [(Sum.inr ("q" : Str), V.ref t1)], rfl, (by show 1 ≤ 15; decide), ?_⟩
    have y1 : Ext H3 (upd (upd (upd H3 d1 (.dK [])) t1 (.tup [.int 0, .non])) d1 (.dK (mergeK [] [(Sum.inr ("q" : Str), V.ref t1)]))) := fun b' o e => by
      rw [upd_ne (ne_of_none e nd1), upd_ne (ne_of_none e nt3), upd_ne (ne_of_none e nd1)]
      exact e
    have g1 : (upd (upd (upd H3 d1 (.dK [])) t1 (.tup [.int 0, .non])) d1 (.dK (mergeK [] [(Sum.inr ("q" : Str), V.ref t1)]))) d1 = some (.dK (kvsOf [(("q" : Str), t1)])) := upd_same
    have h1 : (upd (upd (upd H3 d1 (.dK [])) t1 (.tup [.int 0, .non])) d1 (.dK (mergeK [] [(Sum.inr ("q" : Str), V.ref t1)]))) t1 = some (.tup [.int 0, .non]) := by
      rw [upd_ne ntd]
      exact upd_same
    generalize upd (upd (upd H3 d1 (.dK [])) t1 (.tup [.int 0, .non])) d1 (.dK (mergeK [] [(Sum.inr ("q" : Str), V.ref t1)])) = G1 at y1 g1 h1 ⊢
    refine fun d2 nd2 => ?_
    have y2 := Ext.new nd2 (o := .dK [])
    have g2 : (upd G1 d2 (.dK [])) d2 = some (.dK (kvsOf [])) := upd_same
    generalize upd G1 d2 (.dK []) = G2 at y2 g2 ⊢
    have w3 : RowsAt G2 [d1, d2] [[(("q" : Str), ((0 : Int), (none : Option Str)))], []] := .cons ⟨_, y2 _ _ g1, .cons (show G2 t1 = some (.tup [.int 0, .non]) from y2 _ _ h1) .nil⟩ (.cons ⟨[], g2, .nil⟩ .nil)
    have m3 : MkA K G2 false T1 [d1, d2] [[(("q" : Str), ((0 : Int), (none : Option Str)))], []] [] 0 := mkA hT1 w3 (by decide) (by decide) qrow_ok qrow_AB
    refine ⟨rfl, false, T1, [d1, d2], _, [], 0, rfl, rfl, m3, fun H4 r3 rows3 ns3 ys3 ts3 x34 nr3 as3 pn3 _ _ _ _ _ RX3 _ => ?_⟩
    obtain rfl := List.perm_nil.mp pn3
    have b3 : Bare C H4 (r3, 2) := ⟨rows3, RX3.plain, as3.perms.len.symm⟩
    -- of({})
    refine ⟨rfl, fun d3 nd3 => ?_⟩
    have y3 := Ext.new nd3 (o := .dK [])
    have g3 : (upd H4 d3 (.dK [])) d3 = some (.dK (kvsOf [])) := upd_same
    generalize upd H4 d3 (.dK []) = G3 at y3 g3 ⊢
    have w4 : RowsAt G3 [d3] [[]] := .cons ⟨[], g3, .nil⟩ .nil
    refine ⟨rfl, false, T1, [d3], _, [], 0, rfl, rfl, mkA hT1 w4 (by decide) (by decide) erow_ok erow_AB, fun H5 r4 rows4 ns4 ys4 ts4 x45 nr4 as4 pn4 _ _ _ _ _ RX4 _ => ?_⟩
    obtain rfl := List.perm_nil.mp pn4
    have b4 : Bare C H5 (r4, 1) := ⟨rows4, RX4.plain, as4.perms.len.symm⟩
    refine ⟨by show 4 ≤ sizeLine; decide, fun S nS => ?_⟩
    have xS := Ext.new nS (o := .lst [.ref r1, .ref r2, .ref r3, .ref r4])
    have gS : (upd H5 S (.lst [.ref r1, .ref r2, .ref r3, .ref r4])) S = some (.lst (([(r1, rows.length), (r2, rows.length), (r3, 2), (r4, 1)] : List (Addr × Nat)).map fun e => V.ref e.1)) := upd_same
    generalize upd H5 S (.lst [.ref r1, .ref r2, .ref r3, .ref r4]) = H6 at xS gS ⊢
    have z5 := xS
    have z4 := (y3.trans x45).trans z5
    have z3 := ((y1.trans y2).trans x34).trans z4
    have z2 := x23.trans z3
    have z1 := x12.trans z2
    have hrs : ∀ e ∈ ([(r1, rows.length), (r2, rows.length), (r3, 2), (r4, 1)] : List (Addr × Nat)), Bare C H6 e ∧ e.2 ≤ 12 := fun e he => by
      rcases List.mem_cons.mp he with q | he
      · subst q
        exact ⟨b1.ext z2, hi⟩
      · rcases List.mem_cons.mp he with q | he
        · subst q
          exact ⟨b2.ext z3, hi⟩
        · rcases List.mem_cons.mp he with q | he
          · subst q
            exact ⟨b3.ext z4, by show 2 ≤ 12; decide⟩
          · rw [List.mem_singleton.mp he]
            exact ⟨b4.ext z5, by show 1 ≤ 12; decide⟩
    have l6 := z1 _ _ l1
    have x06 := x1.trans z1
    have lr : (ds'.map V.ref).length = rows.length := by rw [List.length_map, w1.len]
    generalize hl : ([(r1, rows.length), (r2, rows.length), (r3, 2), (r4, 1)] : List (Addr × Nat)) = rs at gS hrs
    have lrs : rs.length = 4 := by rw [← hl]; rfl
    have sz3 : (3 : Nat) ≤ sizeLine := by decide
    refine ⟨_, rfl, S, rfl, ⟨_, SqL.of gS⟩, fun D nD => ?_⟩
    refine lc_it (walk_list (xs := rs.map fun e => V.ref e.1)) (fun i H' => Ext H6 H' ∧ ∃ ts, H' D = some (.lst (ts.map V.ref)) ∧ Trip0 H' ts ((rs.take i).map (·.2))) ⟨Ext.new nD, [], upd_same, .nil⟩ (fun i H' _ h => SqL.of (h.1 _ _ gS)) ?_ ?_
    · rintro i x H7 H8 hi' ⟨x7, ts, l7, t7⟩ ⟨rfl, hx⟩
      rw [List.getElem?_map] at hx
      cases e : rs[i]? with
      | none =>
        rw [e] at hx
        cases hx
      | some e0 =>
        rw [e] at hx
        obtain rfl := Option.some.inj hx
        obtain ⟨bz, b12⟩ := hrs e0 (List.mem_of_getElem? e)
        obtain ⟨rows', RA, len⟩ := bz.ext x7
        obtain ⟨dx, fs, L0, ds0, Te0, a1, a2, a3, a4, a5, a6, a7, a8⟩ := RA.ex
        refine ⟨rfl, _, rfl, e0.1, dx, fs, rfl, a1, e0.1, rows', [], 0, rfl, RA, _, rfl, e0.1, dx, fs, rfl, a1, a8 _ (by decide +kernel), e0.1, rows', [], 0, rfl, RA, fun Te hTe => ?_⟩
        refine ⟨_, rfl, e0.1, dx, fs, rfl, a1, e0.1, rows', [], 0, rfl, RA, rows'.length, rfl, by omega, sz3, fun N nN => ?_⟩
        rw [len]
        have xN := Ext.new nN (o := .tup [.int 0, .ref Te, .int (e0.2 : Nat)])
        have l8 := xN _ _ l7
        have lts : ts.length ≤ 4 := by rw [t7.len, List.length_map, List.length_take]; omega
        refine ⟨_, l8, by rw [List.length_map]; exact small_list (by omega), fun b o eb => ?_, ts ++ [N], ?_, ?_⟩
        · rw [upd_ne (ne_of_none eb nD)]
          exact xN _ _ (x7 b o eb)
        · rw [upd_same, List.map_append]
          rfl
        · rw [take_more e, List.map_append]
          have kp : ∀ t xs, (upd H8 N (.tup [.int 0, .ref Te, .int (e0.2 : Nat)])) t = some (.tup xs) → (upd (upd H8 N (.tup [.int 0, .ref Te, .int (e0.2 : Nat)])) D (.lst (ts.map V.ref ++ [.ref N]))) t = some (.tup xs) := fun t xs h => by
            rw [upd_ne (ne_of h l8 (by intro z; cases z))]
            exact h
          exact ((t7.ext fun t xs h => xN _ _ h).ext kp).snoc (kp _ _ upd_same) (kp _ _ (xN _ _ hTe))
    rintro H7 ⟨x7, ts, l7, t7⟩
    rw [List.length_map, List.take_length] at t7
    refine ⟨_, rfl, L2, _, rfl, .inl (SqL.of (x7 _ _ l6)), _, rfl, L2, _, rfl, .inl (SqL.of (x7 _ _ l6)), by show 4 ≤ sizeLine; decide, fun S2 nS2 => ?_⟩
    rw [lr]
    have x8 := Ext.new nS2 (o := .lst [.int (rows.length : Nat), .int (rows.length : Nat), .int 2, .int 1])
    have g8 : (upd H7 S2 (.lst [.int (rows.length : Nat), .int (rows.length : Nat), .int 2, .int 1])) S2 = some (.lst ((rs.map (·.2)).map fun n => V.int (n : Nat))) := by
      rw [← hl]
      exact upd_same
    have l8 := x8 _ _ l7
    have t8 := t7.ext fun t xs h => x8 _ _ h
    generalize upd H7 S2 (.lst [.int (rows.length : Nat), .int (rows.length : Nat), .int 2, .int 1]) = H8 at x8 g8 l8 t8 ⊢
    generalize hk : rs.map (·.2) = ks at g8 t8
    have lks : ks.length = 4 := by rw [← hk, List.length_map, lrs]
    refine ⟨S2, rfl, ⟨_, SqL.of g8⟩, fun D2 nD2 => ?_⟩
    refine lc_it (walk_list (xs := ks.map fun n => V.int (n : Nat))) (fun i H' => Ext H8 H' ∧ ∃ ts2, H' D2 = some (.lst (ts2.map V.ref)) ∧ Trip0 H' ts2 (ks.take i)) ⟨Ext.new nD2, [], upd_same, .nil⟩ (fun i H' _ h => SqL.of (h.1 _ _ g8)) ?_ ?_
    · rintro i x H9 H10 hi' ⟨x9, ts2, l9, t9⟩ ⟨rfl, hx⟩
      rw [List.getElem?_map] at hx
      cases e : ks[i]? with
      | none =>
        rw [e] at hx
        cases hx
      | some n0 =>
        rw [e] at hx
        obtain rfl := Option.some.inj hx
        refine ⟨rfl, by show 0 ≤ sizeLine; decide, fun T nT => ⟨_, rfl, sz3, fun N nN => ?_⟩⟩
        have xT := Ext.new nT (o := .tup [])
        have xN := Ext.new nN (o := .tup [.int 0, .ref T, .int (n0 : Nat)])
        have xTN := xT.trans xN
        have l10 := xTN _ _ l9
        have lts : ts2.length ≤ 4 := by rw [t9.len, List.length_take]; omega
        have gT := xN _ _ (upd_same (H := H10) (a := T) (o := .tup []))
        have gN : (upd (upd H10 T (.tup [])) N (.tup [.int 0, .ref T, .int (n0 : Nat)])) N = some (.tup [.int 0, .ref T, .int (n0 : Nat)]) := upd_same
        generalize upd (upd H10 T (.tup [])) N (.tup [.int 0, .ref T, .int (n0 : Nat)]) = H11 at xTN l10 gT gN ⊢
        refine ⟨_, l10, by rw [List.length_map]; exact small_list (by omega), fun b o eb => ?_, ts2 ++ [N], ?_, ?_⟩
        · rw [upd_ne (ne_of_none eb nD2)]
          exact xTN _ _ (x9 b o eb)
        · rw [upd_same, List.map_append]
          rfl
        · rw [take_more e]
          have kp : ∀ t xs, H11 t = some (.tup xs) → (upd H11 D2 (.lst (ts2.map V.ref ++ [.ref N]))) t = some (.tup xs) := fun t xs h => by
            rw [upd_ne (ne_of h l10 (by intro z; cases z))]
            exact h
          exact ((t9.ext fun t xs h => xTN _ _ h).ext kp).snoc (kp _ _ gN) (kp _ _ gT)
    rintro H9 ⟨x9, ts2, l9, t9⟩
    rw [List.length_map, List.take_length] at t9
    have sh := bares_shaped ks
    refine ⟨.list (ks.map bareD), .list (ks.map bareD), .lst (SqL.of (x9 _ _ l8)) (trip0_dp (t8.ext fun t xs h => x9 _ _ h)), .lst (SqL.of l9) (trip0_dp t9), sh.1, sh.1, ?_⟩
    rw [sh.2]
    exact k _ (((x06.trans x7).trans x8).trans x9)
end
end Sl
/-! ## C25 -/
set_option Elab.async false
set_option linter.all false
set_option maxRecDepth 100000
set_option maxHeartbeats 1000000
set_option pp.maxSteps 1500
set_option pp.deepTerms false
/-! one drawn reader: all that the law asks of it -/
namespace Sl
open PySem PySem.Spec PyProof.Rows L2 TxS
abbrev sRight : Stmt := top 39
def spRight : Sp := fun vs H Q _ => ∃ a : Addr, vs = [.ref a] ∧ Rng H a ∧ ∀ H', Keep a H H' → Q (.bl true) H'
def rIsC (C : Addr) : List V → Hp → VK → Prop := fun xs H Q => ∃ a dx fs, xs = [.ref a, .ref C] ∧ H a = some (.ins C dx fs) ∧ Q (.bl true) H
theorem ReaderX.keepA {C : Addr} {H H' : Hp} {p a : Addr} {rows : List Rw} {ends : List Int} {b : Int} {ys ts : List Str} (h : ReaderX C H p rows ends b ys ts) (k : Keep a H H') (r : Rng H a) : ReaderX C H' p rows ends b ys ts := by
  obtain ⟨dx, fs, L, ds, Te, M, a1, a2, a3, a4, a5, a6, a7, a8, a9, a10, a11, a12, a13⟩ := h.ex
  refine ⟨dx, fs, L, ds, Te, M, k _ _ a1 (fun e => ?_), a2, k _ _ a3 (r.lst a3 fun x y e => ?_), a4.keepN k r.notup (fun hm => ?_), a5, k _ _ a6 (fun e => r.notup _ (by rw [← e]; exact a6)), a7, a8, a9, a10, k _ _ a11 (r.lst a11 fun x y e => ?_), a12, a13⟩
  · obtain ⟨x, y, hr, _⟩ := r.ex
    rw [e, hr] at a1
    cases a1
  · cases ds with
    | nil => cases e
    | cons d ds =>
      injection e with e1 e2
      cases e1
  · obtain ⟨kvs, e⟩ := a4.mem hm
    exact r.nodict _ e
  · cases hq : ts.filter markS with
    | nil =>
      rw [hq] at e
      cases e
    | cons d l =>
      rw [hq] at e
      injection e with e1 e2
      cases e1
section
variable {P : Program} {w : World} {K : PySem.W.Frag} {mg : Str → Option Value} {base : Heap}
theorem scRight : FnScope ["_law_rng_here", "_law_model_here", "_law_made_here"] ["_law_rng_here"] (defScope sRight) := ⟨rfl, rfl, rfl, by decide +kernel, rfl, by decide +kernel, by decide +kernel⟩
theorem ok_right {f C fM fA fT fF fD fMk fV : Addr} {fd fdM fdA fdT fdF fdD fdMk fdV : FuncData} (F : Fun K "_law_right" "_law_right" sRight f fd) (T : RdC K C) (gC : mg "Reader" = some (.ref C)) (iC : C8.InsC K C)
    (aM : At K mg "_law_model" fM fdM ["_law_rng_here"] []) (gM : FnOk P w K mg base CX0 4 fM fdM ["_law_rng_here"] spModel)
    (aA : At K mg "_law_made" fA fdA ["_law_rng_here", "_law_model_here"] []) (gA : FnOk P w K mg base CX0 8 fA fdA ["_law_rng_here", "_law_model_here"] (spMade C))
    (aT : At K mg "_law_told_right" fT fdT ["_law_made_here", "_law_model_here"] []) (gT : FnG P w K mg base CX0 9 fT fdT ["_law_made_here", "_law_model_here"] (spTold C))
    (aF : At K mg "_law_forms_right" fF fdF ["_law_rng_here"] []) (gF : FnG P w K mg base CX0 4 fF fdF ["_law_rng_here"] spForms)
    (aD : At K mg "_law_defaults_right" fD fdD ["_law_model_here"] []) (gD : FnOk P w K mg base CX0 8 fD fdD ["_law_model_here"] spDefs)
    (mK : L2.Meth K C "marks" fMk) (bK : L2.Binds K fdMk ["self"] []) (gK : FnOk P w K mg base CX0 1 fMk fdMk ["self"] (spMarksM C))
    (mV : L2.Meth K C "moves" fV) (bV : L2.Binds K fdV ["self", "state"] []) (gV : GFn P w K mg base 4 fV fdV ["self", "state"] (spMoves C))
    (zz : mg "isinstance" = none) (zl : mg "list" = none) :
    FnG P w K mg base CX0 10 f fd ["_law_rng_here"] spRight := by
  refine Sl.Fun.okG F scRight (fun vs H Q E h => ?_) (fun cdv A0 outer s H vs Q E0 gd hr h => ?_)
  · obtain ⟨a, rfl, _⟩ := h
    rfl
  · obtain ⟨a, rfl, hR, k⟩ := h
    have hr1 : Room 1 _ := hr.mono (by decide)
    have hr4 : Room 4 _ := hr.mono (by decide)
    have hr8 : Room 8 _ := hr.mono (by decide)
    refine ⟨_, pss_cons (ps_set (i := 1) scRight.nd rfl (.inl rfl) (pe_call gM hr4 (by rfl) aM.g aM.kp aM.b .nil pass0 (pa_cons (pv 0) pa_nil)))
      (pss_cons (ps_set (i := 2) scRight.nd rfl (.inl rfl) (pe_call gA hr8 (by rfl) aA.g aA.kp aA.b .nil pass0 (pa_cons (pv 0) (pa_cons (pv 1) pa_nil))))
      (pss_cons (ps_if (PW.pt (pw_or (pt_not (pt_val (pe_callB (r := rIsC C) (C8.call_isC iC) (by rfl) zz (by decide +kernel) (pa_cons (pv 2) (pa_cons (pe_glob (v := .ref C) (by rfl) gC (show RelV (V.ref C) (Value.ref C) from rfl)) pa_nil)))))
          (pw_or (pt_not (pt_val (pe_callG gT gd hr (by rfl) aT.g aT.kp aT.b pass0 (pa_cons (pv 2) (pa_cons (pv 1) pa_nil)))))
          (pw_or1 (pt_not (pt_val (pe_callG gF gd hr4 (by rfl) aF.g aF.kp aF.b pass0 (pa_cons (pv 0) pa_nil)))))))) (pss_one (ps_ret pe_bl)) pss_nil)
      (pss_cons (ps_if (pt_not (pt_val (pe_call gD hr8 (by rfl) aD.g aD.kp aD.b .nil pass0 (pa_cons (pv 1) pa_nil)))) (pss_one (ps_ret pe_bl)) pss_nil)
      (pss_cons (ps_expr (pe_bm PySem.F.plainAttrs_list PySem.F.slot_list_append PySem.F.type_list_append mt_append (pe_meth0 (pv 2) T.cl mK gK hr1 bK .nil pass0) (pa_cons pe_str pa_nil)))
      (pss_cons (ps_expr (pe_bm0 PySem.F.plainAttrs_list PySem.F.slot_list_clear PySem.F.type_list_clear mt_clear (pe_listG (E := fun _ _ _ => False) (pgen_meth (pv 2) T.cl mV gV hr4 bV .nil (pa_cons pe_int pa_nil)) passesF nostopF (hr.mono (by decide)) (by rfl) zl (by decide +kernel))))
      (pss_one (ps_ret (pe_callG gT gd hr (by rfl) aT.g aT.kp aT.b pass0 (pa_cons (pv 2) (pa_cons (pv 1) pa_nil)))))))))), ?_⟩
    refine ⟨_, rfl, a, rfl, hR, fun H1 M L E ds rows ns b paper tells marks r1 k1 nM nL nE nd hM dr => ?_⟩
    have nLa := hR.new nL
    have nEa := hR.new nE
    refine ⟨_, rfl, _, rfl, a, M, L, E, ds, rows, ns, b, paper, tells, marks, rfl, r1, hM, nLa, nEa, dr, fun H2 p rows' ns' ys ts r2 k2 nx asc pn rise gy sy gt st RX => ?_⟩
    have hM2 := hM.keep k2 r1 nLa nEa
    have B2 : Both C H2 p M := ⟨L, E, ds, rows, rows', ns, ns', b, ys, ts, paper, tells, marks, RX, asc, pn, rise, gy, sy, gt, st, hM2, dr⟩
    obtain ⟨dx, fs, L0, ds0, Te0, a1, a2, a3, a4, a5, a6, a7, a8⟩ := RX.plain.ex
    refine ⟨_, rfl, p, dx, fs, rfl, a1, true, rfl, iteF ?_⟩
    refine ⟨_, rfl, _, rfl, p, M, rfl, B2, fun H3 x3 => ⟨true, rfl, iteF ?_⟩⟩
    have r3 := r2.ext x3
    refine ⟨_, rfl, a, rfl, r3, fun H4 r4 k4 => ⟨true, rfl, iteF ?_⟩⟩
    have RX4 := (RX.ext x3).keepA k4 r3
    have hM4 := (hM2.ext x3).keep k4 r3 nLa nEa
    have okr := model_ok dr.ok dr.pin dr.tin dr.min
    refine ⟨_, rfl, M, L, E, ds, rows, ns, b, paper, tells, marks, rfl, hM4, dr, fun H5 x5 => ⟨true, rfl, iteF ?_⟩⟩
    have RX5 := RX4.ext x5
    obtain ⟨dx, fs, L0, ds0, Te0, a1, a2, a3, a4, a5, a6, a7, a8⟩ := RX5.plain.ex
    refine ⟨_, rfl, p, dx, fs, rfl, a1, a8 _ (by decide +kernel), p, rows', ns', b, ys, ts, rfl, RX5, fun l nl => ?_⟩
    refine ⟨.inl ⟨rfl, _, SqL.of upd_same⟩, l, _, _, rfl, rfl, upd_same, ?_, ?_⟩
    · rw [List.length_map]
      refine small_list (Nat.le_trans (List.length_filter_le _ _) (Nat.le_trans (len_le gt.1 fun z hz => tolds_in dr.ok z ((gt.2 z).mp hz)) ?_))
      rw [List.length_append, dr.lt, dr.lm]
      decide
    rw [upd_upd]
    have x6 := Ext.new nl (o := .lst ((ts.filter markS).map V.str ++ [.str ("zz" : Str)]))
    generalize upd H5 l (.lst ((ts.filter markS).map V.str ++ [.str ("zz" : Str)])) = H6 at x6 ⊢
    have e12 : rows'.length = rows.length := asc.perms.len.symm
    have okR : okRows rows'.length rows' := by rw [e12]; exact okRows_perms asc.perms okr
    have l64 : ∀ r ∈ rows', r.length < 64 := fun r0 h0 => by
      obtain ⟨r1, h1, h2⟩ := asc_mem asc h0
      rw [← h2.length_eq]
      have := row_len (dr.ok.rw_ r1 h1) dr.lp
      omega
    have lo := dr.ok.lo
    refine ⟨_, rfl, p, dx, fs, rfl, x6 _ _ a1, a8 _ (by decide +kernel), p, 0, rows', ns', b, rfl, (RX5.ext x6).plain, okR, by omega, l64, fun H7 ts7 x7 t7 => fun L8 nL8 => ?_⟩
    refine ⟨.inl ⟨rfl, _, SqL.of upd_same⟩, L8, _, rfl, rfl, upd_same, ?_⟩
    rw [upd_upd]
    have x8 := Ext.new nL8 (o := .lst [])
    generalize upd H7 L8 (.lst []) = H8 at x8 ⊢
    have x58 := (x6.trans x7).trans x8
    refine ⟨_, rfl, _, rfl, p, M, rfl, ⟨L, E, ds, rows, rows', ns, ns', b, ys, ts, paper, tells, marks, RX5.ext x58, asc, pn, rise, gy, sy, gt, st, hM4.ext (x5.trans x58), dr⟩, fun H9 x9 => k H9 ?_⟩
    exact (((k1.trans k2).trans (Keep.of x3)).trans k4).trans (Keep.of (x5.trans (x58.trans x9)))
end
end Sl
/-! ## C27 -/
set_option Elab.async false
set_option linter.all false
set_option maxRecDepth 100000
set_option maxHeartbeats 4000000
namespace Sl
open PySem PySem.Spec PyProof.Rows L2 TxS
/-- a new drawing object -/
def spRng (K : PySem.W.Frag) : Sp := fun vs H Q _ => ∃ (S : Addr) (ns : List Int) (k : Nat), vs = [.ref S, .int k] ∧ SqL K H S (ns.map V.int) ∧ ns.length ≤ 63 ∧ k ≤ 100 ∧ ∀ (H' : Hp) (a : Addr), Ext H H' → H a = none → Rng H' a → Q (.ref a) H'
section
variable {P : Program} {w : World} {K : PySem.W.Frag} {mg : Str → Option Value} {base : Heap}
theorem scRng : FnScope ["_law_script", "_law_k", "_law_cell"] ["_law_script", "_law_k"] (defScope sRng) := ⟨rfl, rfl, rfl, by decide +kernel, rfl, by decide +kernel, by decide +kernel⟩
theorem ok_rng {f : Addr} {fd : FuncData} (F : Fun K "_law_rng" "_law_rng" sRng f fd) (zn : mg "len" = none) (zm : mg "max" = none) (za : mg "abs" = none) (zi : mg "int" = none) : FnOk P w K mg base CX0 1 f fd ["_law_script", "_law_k"] (spRng K) := by
  refine F.ok scRng (fun vs H Q E h => ?_) (fun cdv A0 outer s H vs Q E0 hr h => ?_)
  · obtain ⟨S, ns, k, rfl, _⟩ := h
    rfl
  · obtain ⟨S, ns, kk, rfl, hS, h63, k100, k⟩ := h
    refine ⟨_, pss_cons (ps_set (i := 2) scRng.nd rfl (.inl rfl) (pe_op op_add (pe_op op_mul pe_int (pv 1)) pe_int))
      (pss_cons (ps_if (pt_cmpR op_lt (pv 1) (pe_callB call_len_seq (by rfl) zn PySem.boot_len (pa_cons (pv 0) pa_nil)) (nomark _)) (pss_one (ps_set (i := 2) scRng.nd rfl (.inl rfl) (pe_ix ix_list (pv 0) (pv 1) (fun _ _ => rfl)))) pss_nil)
      (pss_one (ps_ret (pe_lst (pa_cons (pe_callB (call_max2 rfl) (by rfl) zm (by decide +kernel) (pa_cons pe_int (pa_cons (pe_op op_sub (pe_callB call_abs (by rfl) za (by decide +kernel) (pa_cons (pv 2) pa_nil)) (pe_op op_pow pe_int pe_int)) pa_nil)))
        (pa_cons (pe_op op_add (pe_op op_mod (pe_op op_mul (pe_callTy call_int1 (by rfl) zi (by decide +kernel) (pa_cons (pe_op op_add (pe_op op_mod (pe_callTy call_int1 (by rfl) zi (by decide +kernel) (pa_cons (pe_callB call_abs (by rfl) za (by decide +kernel) (pa_cons (pv 2) pa_nil)) pa_nil)) pe_int) pe_int) pa_nil))
          (pe_op op_pow (pe_op op_add (pe_op op_mul pe_int (pv 1)) pe_int) pe_int)) pe_int) pe_int) pa_nil)))))), ?_⟩
    have fin : ∀ c : Int, ∃ x y : Int, (0 ≤ (if (if c < 0 then -c else c) - 10 ^ (18 : Int).toNat > 0 then (if c < 0 then -c else c) - 10 ^ (18 : Int).toNat else 0)) ∧ (0 ≤ ((if c < 0 then -c else c) % 2147483549 + 1) * (2 * (kk : Int) + 3) ^ (3 : Int).toNat % 2147483543 + 1 ∧ ((if c < 0 then -c else c) % 2147483549 + 1) * (2 * (kk : Int) + 3) ^ (3 : Int).toNat % 2147483543 + 1 < 2147483648) ∧
        (0 ≤ (if c < 0 then -c else c) % 2147483549 ∧ (if c < 0 then -c else c) % 2147483549 < 2147483549) := fun c => by
      refine ⟨0, 0, ?_, ?_, Int.emod_nonneg _ (by decide), Int.emod_lt_of_pos _ (by decide)⟩
      · split <;> omega
      · have h1 := Int.emod_nonneg (((if c < 0 then -c else c) % 2147483549 + 1) * (2 * (kk : Int) + 3) ^ (3 : Int).toNat) (show (2147483543 : Int) ≠ 0 by decide)
        have h2 := Int.emod_lt_of_pos (((if c < 0 then -c else c) % 2147483549 + 1) * (2 * (kk : Int) + 3) ^ (3 : Int).toNat) (show (0 : Int) < 2147483543 by decide)
        omega
    refine ⟨_, rfl, _, _, rfl, rfl, .inl ⟨by decide, by decide⟩, _, _, rfl, rfl, ?_⟩
    refine ⟨_, rfl, _, rfl, S, _, rfl, .inl hS, _, _, rfl, rfl, _, rfl, ?_⟩
    refine ite2 (fun c => ?_) (fun c => ?_)
    · have c := of_decide_eq_true c
      rw [List.length_map] at c
      have hk : kk < ns.length := by omega
      refine ⟨_, rfl, _, rfl, S, _, _, .int ns[kk], rfl, rfl, hS, atI_nat (by rw [List.getElem?_map, List.getElem?_eq_getElem hk]; rfl), ?_⟩
      obtain ⟨_, _, f1, f2, f3⟩ := fin ns[kk]
      refine ⟨_, rfl, _, rfl, _, _, rfl, rfl, ⟨by decide, by decide, by decide⟩, _, _, rfl, rfl, _, _, rfl, _, rfl, _, rfl, .inl ⟨_, rfl, _, _, rfl, rfl, (by show (0 : Int) < 2147483549; decide), _, _, rfl, rfl, .inl ⟨_, rfl, _, rfl, _, _, rfl, rfl, .inl ⟨by decide, by decide⟩, _, _, rfl, rfl, _, _, rfl, rfl, ⟨by decide, by decide, ?_⟩, _, _, rfl, rfl, .inl ⟨by omega, by omega⟩, _, _, rfl, rfl, (by show (0 : Int) < 2147483543; decide), _, _, rfl, rfl, by show 2 ≤ sizeLine; decide, fun p np => k _ p (Ext.new np) np ⟨_, _, upd_same, f1, f2.1, f2.2⟩⟩⟩⟩
      show (2 * (kk : Int) + 3).natAbs < 2 ^ 64
      omega
    · obtain ⟨_, _, f1, f2, f3⟩ := fin (11 * kk + 5)
      refine ⟨_, rfl, _, rfl, _, _, rfl, rfl, ⟨by decide, by decide, by decide⟩, _, _, rfl, rfl, _, _, rfl, _, rfl, _, rfl, .inl ⟨_, rfl, _, _, rfl, rfl, (by show (0 : Int) < 2147483549; decide), _, _, rfl, rfl, .inl ⟨_, rfl, _, rfl, _, _, rfl, rfl, .inl ⟨by decide, by decide⟩, _, _, rfl, rfl, _, _, rfl, rfl, ⟨by decide, by decide, ?_⟩, _, _, rfl, rfl, .inl ⟨by omega, by omega⟩, _, _, rfl, rfl, (by show (0 : Int) < 2147483543; decide), _, _, rfl, rfl, by show 2 ≤ sizeLine; decide, fun p np => k _ p (Ext.new np) np ⟨_, _, upd_same, f1, f2.1, f2.2⟩⟩⟩⟩
      show (2 * (kk : Int) + 3).natAbs < 2 ^ 64
      omega
end
end Sl
/-! ## C26 -/
set_option Elab.async false
set_option linter.all false
set_option maxRecDepth 100000
set_option maxHeartbeats 4000000
namespace Sl
open PySem PySem.Spec PyProof.Rows L2
abbrev sLaw : Stmt := top 40
def spLaw (K : PySem.W.Frag) : Sp := fun vs H Q _ => ∃ (S : Addr) (ns : List Int), vs = [.ref S] ∧ SqL K H S (ns.map V.int) ∧ ns.length ≤ 63 ∧ ∀ H', Q (.bl true) H'
theorem sql_ext {K : PySem.W.Frag} {H H' : Hp} {S : Addr} {xs : List V} (x : Ext H H') (h : SqL K H S xs) : SqL K H' S xs := by
  rcases h with (h | ⟨o, h⟩) | h
  · exact .inl (.inl (x _ _ h))
  · exact .inl (.inr ⟨o, x _ _ h⟩)
  · exact .inr h
section
variable {P : Program} {w : World} {K : PySem.W.Frag} {mg : Str → Option Value} {base : Heap}
theorem scLaw : FnScope ["_law_script", "_law_k"] ["_law_script"] (defScope sLaw) := ⟨rfl, rfl, rfl, by decide +kernel, rfl, by decide +kernel, by decide +kernel⟩
theorem ok_law {f fR fG : Addr} {fd fdR fdG : FuncData} (F : Fun K "law" "law" sLaw f fd) (aR : At K mg "_law_right" fR fdR ["_law_rng_here"] []) (gR : FnG P w K mg base CX0 10 fR fdR ["_law_rng_here"] spRight)
    (aG : At K mg "_law_rng" fG fdG ["_law_script", "_law_k"] []) (gG : FnOk P w K mg base CX0 1 fG fdG ["_law_script", "_law_k"] (spRng K))
    (za : mg "all" = none) (zr : mg "range" = none) (zx : mg "max" = none) (zm : mg "min" = none) (zn : mg "len" = none) : FnG P w K mg base CX0 11 f fd ["_law_script"] (spLaw K) := by
  refine Sl.Fun.okG F scLaw (fun vs H Q E h => ?_) (fun cdv A0 outer s H vs Q E0 gd hr h => ?_)
  · obtain ⟨S, ns, rfl, _⟩ := h
    rfl
  · obtain ⟨S, ns, rfl, hS, h63, k⟩ := h
    have hr1 : Room 1 _ := hr.mono (by decide)
    refine ⟨_, pss_one (ps_ret (pe_callB (cr_all rfl) (by rfl) za (by decide +kernel) (pa_cons (pe_lc (own := [("_law_k", 1)]) (g := gName 1) (tt := tYes) (te := tCall spRight [] (fun _ _ _ => False) (tCons (tCall (spRng K) [] (fun _ _ _ => False) (tCons (tVar 0) (tCons (tVar 1) tNil))) tNil)) rfl scLaw.nd
        (pi_range1 rfl zr (pa_cons (pe_callB (call_max2 rfl) (by rfl) zx (by decide +kernel) (pa_cons pe_int (pa_cons (pe_callB (call_min2 rfl) (by rfl) zm (by decide +kernel) (pa_cons (pe_callB call_len_seq (by rfl) zn PySem.boot_len (pa_cons (pv 0) pa_nil)) (pa_cons pe_int pa_nil))) pa_nil))) pa_nil)) (blkOk_by (N := ["_law_script", "_law_k"]) (sc := defScope sLaw) (by decide +kernel))
        (fun _ _ _ _ _ => pg_name (i := 1) scLaw.nd rfl (Or.inl rfl)) (fun _ _ _ _ _ => pts_nil) (fun _ _ _ _ _ => pe_callG gR gd hr (by rfl) aR.g aR.kp aR.b pass0 (pa_cons (pe_call gG hr1 (by rfl) aG.g aG.kp aG.b .nil pass0 (pa_cons (pv 0) (pa_cons (pv 1) pa_nil))) pa_nil))) pa_nil))), ?_⟩
    have hl : (ns.map V.int).length = ns.length := List.length_map _
    refine ⟨_, rfl, S, _, rfl, .inl hS, _, _, rfl, _, _, rfl, ?_⟩
    rw [hl]
    generalize hm : (if (4 : Int) < (ns.length : Nat) then (4 : Int) else ((ns.length : Nat) : Int)) = m
    generalize hn : (if m > 1 then m else 1) = n0
    have n1 : 0 ≤ n0 ∧ n0 ≤ 4 := by
      have : m ≤ 4 := by
        rw [← hm]
        split <;> omega
      rw [← hn]
      split <;> omega
    obtain ⟨n, rfl⟩ : ∃ n : Nat, n0 = (n : Int) := ⟨n0.toNat, by omega⟩
    refine ⟨(n : Int), rfl, by omega, by omega, fun D nD => ?_⟩
    refine lc_range (n := n) (fun i H' => Ext H H' ∧ H' D = some (.lst ((List.replicate i true).map V.bl))) ⟨Ext.new nD, upd_same⟩ ?_ ?_
    · rintro i H1 hi ⟨x1, d1⟩
      refine ⟨rfl, _, rfl, _, rfl, S, ns, i, by simp, sql_ext x1 hS, h63, by omega, fun H2 a x2 na ra => ⟨a, rfl, ra, fun H3 k3 => ?_⟩⟩
      have d2 := x2 _ _ d1
      have nDa : D ≠ a := fun e => by
        rw [e, na] at d1
        cases d1
      refine ⟨_, k3 _ _ d2 nDa, by rw [List.length_map, List.length_replicate]; exact small_list (by omega), fun b o e => ?_, ?_⟩
      · rw [upd_ne (ne_of_none e nD)]
        exact k3 _ _ (x2 _ _ (x1 _ _ e)) (ne_of_none (x1 _ _ e) na)
      · rw [upd_same, List.replicate_succ', List.map_append]
        rfl
    · rintro H1 ⟨x1, d1⟩
      refine ⟨D, List.replicate n true, rfl, SqL.of d1, ?_⟩
      have e : (List.replicate n true).all id = true := by
        rw [List.all_eq_true]
        intro b hb
        rw [(List.mem_replicate.mp hb).2]
        rfl
      rw [e]
      exact k H1
end
end Sl
/-! ## E1 -/
set_option Elab.async false
set_option linter.all false
set_option maxRecDepth 100000
set_option maxHeartbeats 4000000
/-! the end: what the top has written -/
namespace Sl
open PySem PySem.Spec PyProof.Rows L2
section
variable {P : Program} {w : World} {K : PySem.W.Frag} {mg mb : Str → Option Value} {CX : CXT} {k : Nat} {fa a : Addr} {fd : FuncData} {x : Str} {sp : Sp} {z : Shared} {us : List Value} {js : List Int}
/-- what the head wants of the call's end -/
abbrev EndOk (z : Shared) : Result → Shared → Prop := fun r t => r = .ok (.ret (.bool true)) ∧ OldK z.heap t.heap ∧ t.os = z.os ∧ AllBare t.gens
/-- over one tracked heap, in which the script alone may be told -/
theorem end_one {T : Hp} (inz : K.In z.heap) (ng : z.heap.Ns mainGlobals mg) (nb : z.heap.Ns builtinsNs mb) (eb : ∀ y : Str, y ≠ "__name__" → mb y = bootBuiltins y) (nl : z.heap.NoLimit) (gn : z.gens = #[])
    (at_ : z.heap.get? a = some { cls := .type "list", data := .seq us.toArray }) (rm : Room k callerA)
    (F : ∀ base : Heap, K.In base → base.Ns mainGlobals mg → FnG P w K mg base CX k fa fd [x] sp) (bd : ∀ (t : Shared) (u : Value), BindsTo t fd ⟨[u], []⟩ [(x, u)])
    (pr : sp [.ref a] T (fun v _ => v = .bl true) fun _ _ _ => False) (no : ∀ H e t, CX [] H z (fun _ _ _ => False) e t → False)
    (on : Only T) (ok : HOk P w T z.heap) (one : ∀ b, T b ≠ none → b = a) (out : T a ≠ none → K.lookup a = none) :
    codeAny (model P w) callerA (.call (.ref fa) ⟨[.ref a], []⟩) (EndOk z) z := by
  have free : ∀ {b : Addr}, b ≠ a → T b = none := fun {b} nb => by
    cases q : T b with
    | none => rfl
    | some u => exact absurd (one b (by rw [q]; exact Option.some_ne_none u)) nb
  have inB : K.In (hidT z.heap T) := fun b o e => hidT_get (inz b o e) (by
    by_cases c : b = a
    · subst c
      cases q : T b with
      | none => rfl
      | some u =>
        rw [out (by rw [q]; exact Option.some_ne_none u)] at e
        cases e
    · exact free c)
  have spc : ∀ {b : Addr} {m : Str → Option Value}, z.heap.Ns b m → (hidT z.heap T).Ns b m := fun {b m} h => by
    obtain ⟨o, es, ep, e, d, r⟩ := h
    refine ⟨o, es, ep, hidT_get e (free fun c => ?_), d, r⟩
    subst c
    rw [at_] at e
    cases e
    cases (show Data.seq us.toArray _ = Data.dict es ep from d)
  have lm : (hidT z.heap T).NoLimit := by
    obtain ⟨m, n1, n2⟩ := nl
    exact ⟨m, spc n1, n2⟩
  have ev : Env0 P w K mg (hidT z.heap T) callerA [] z T :=
    ⟨rfl, ⟨inB, spc ng, ⟨mb, spc nb, eb⟩, lm⟩, fun _ _ e => of_hidT e, Nat.le_of_eq (hidT_size _ _), trivial, fun b hb => (List.not_mem_nil (show b ∈ ([] : List Addr) from hb)).elim, ok, .of_eq gn⟩
  refine codeAny_mono ((F _ inB (spc ng)).run callerA [] z T ⟨[.ref a], []⟩ [.ref a] [.ref a] _ _ rfl rm ev (bd z (.ref a)) (.cons rfl .nil) pr) fun r t q => ?_
  rcases r with e | fl
  · exact (no T e t q).elim
  cases fl with
  | next => exact q.elim
  | brk => exact q.elim
  | cont => exact q.elim
  | ret u =>
    obtain ⟨v, T', o1, o2, un, ok', rv, rfl⟩ := q
    obtain rfl : u = Value.bool true := rv
    refine ⟨rfl, OldK.of_keep fun b o e => ?_, o1, o2⟩
    rcases on b with n | ⟨p, ys, n⟩
    · exact un.keep b o e n (fun c => (List.not_mem_nil (show b ∈ ([] : List Addr) from c)).elim) (List.not_mem_nil)
    · obtain ⟨e1, _⟩ := ok b _ n
      obtain ⟨e2, _⟩ := ok' b _ (un.frzs b p _ n)
      rw [e1] at e
      cases e
      exact e2
theorem end_call (inz : K.In z.heap) (ng : z.heap.Ns mainGlobals mg) (nb : z.heap.Ns builtinsNs mb) (eb : ∀ y : Str, y ≠ "__name__" → mb y = bootBuiltins y) (nl : z.heap.NoLimit) (gn : z.gens = #[])
    (at_ : z.heap.get? a = some { cls := .type "list", data := .seq us.toArray }) (ia : IntsAre us js) (sz : js.length ≤ sizeLine) (rm : Room k callerA)
    (F : ∀ base : Heap, K.In base → base.Ns mainGlobals mg → FnG P w K mg base CX k fa fd [x] sp) (bd : ∀ (t : Shared) (u : Value), BindsTo t fd ⟨[u], []⟩ [(x, u)])
    (pr : ∀ T : Hp, Only T → SqL K T a (js.map V.int) → sp [.ref a] T (fun v _ => v = .bl true) fun _ _ _ => False) (no : ∀ H e t, CX [] H z (fun _ _ _ => False) e t → False) :
    codeAny (model P w) callerA (.call (.ref fa) ⟨[.ref a], []⟩) (EndOk z) z := by
  have rv := vals_ints ia
  have ln := ia.length
  have go : ∀ T : Hp, Only T → SqL K T a (js.map V.int) → HOk P w T z.heap → (∀ b, T b ≠ none → b = a) → (T a ≠ none → K.lookup a = none) → codeAny (model P w) callerA (.call (.ref fa) ⟨[.ref a], []⟩) (EndOk z) z :=
    fun T h1 h2 h3 h4 h5 => end_one inz ng nb eb nl gn at_ rm F bd (pr T h1 h2) no h1 h3 h4 h5
  cases own : K.lookup a with
  | some o =>
    have e := inz a o own
    rw [at_] at e
    cases e
    refine go (fun _ => none) (fun _ => .inl rfl) (.inr ⟨_, us.toArray, _, own, rfl, rfl, rfl, ?_, ?_⟩) (fun b u c => ?_) (fun b c => absurd rfl c) fun c => absurd rfl c
    · rw [List.size_toArray, ln]
      exact sz
    · simpa using rv
    · cases (show (none : Option HO) = some u from c)
  | none =>
    let T0 : Hp := fun b => if b = a then some (.frz { cls := .type "list", data := .seq us.toArray } (.lst (js.map V.int))) else none
    have ta : T0 a = some (.frz { cls := .type "list", data := .seq us.toArray } (.lst (js.map V.int))) := if_pos rfl
    have tn : ∀ {b}, b ≠ a → T0 b = none := fun {b} c => if_neg c
    refine go T0 (fun b => ?_) (.inl (.inr ⟨_, ta⟩)) (fun b u c => ?_) (fun b c => ?_) fun _ => own
    · by_cases e : b = a
      · subst e
        exact .inr ⟨_, _, ta⟩
      · exact .inl (tn e)
    · by_cases e : b = a
      · subst e
        rw [ta] at c
        cases c
        exact ⟨at_, by rw [List.length_map]; exact sz, us, _, rv, at_⟩
      · rw [tn e] at c
        cases c
    · by_cases e : b = a
      · exact e
      · exact absurd (tn e) c
end
theorem walk_ofG {l : PySem.W.OpenLaw} {n k : Nat} {q : Program} {loose : List Str} {XP : (Str → Option Value) → Heap → Prop} {YP : World → Heap → Prop} {d : DefRec} {K : Params → PySem.W.Frag} {sp : PySem.W.Frag → Sp} {x : Str}
    (m : l.most = some n) (m2 : n ≤ sizeLine) (nd : d.params.defaults = []) (rm : Room k callerA) (inY : ∀ (w : World) (h : Heap), YP w h → (K w.params).In h)
    (F : ∀ (w : World) (mg : Str → Option Value) (fa : Addr) (h : Heap), (K w.params).In h → h.Ns mainGlobals mg → mg d.name = some (.ref fa) → ∃ fd : FuncData, (∀ (t : Shared) (u : Value), BindsTo t fd ⟨[u], []⟩ [(x, u)]) ∧ ∀ base : Heap, (K w.params).In base → base.Ns mainGlobals mg → FnG l.prog w (K w.params) mg base CX0 k fa fd [x] (sp (K w.params)))
    (pr : ∀ (K : PySem.W.Frag) (T : Hp) (a : Addr) (js : List Int), js.length ≤ n → Only T → SqL K T a (js.map V.int) → sp K [.ref a] T (fun v _ => v = .bl true) fun _ _ _ => False) :
    PySem.W.WalkO q loose XP YP l.row.toRowW d [] (fun f vs => PySem.call f vs) := by
  refine Att.attach_call m nd fun w t0 t1 mg mb fa o pm cd doc a us js G Y ho hd hcd hmg hobj hints hlen hg => ?_
  obtain ⟨fd, b, f⟩ := F w mg fa _ (inY w _ Y) G.T.g hmg
  exact end_call (inY w _ Y) G.T.g G.T.b G.T.builtins G.T.nolimit hg hobj hints (Nat.le_trans hlen m2) rm f b (fun T h1 h2 => pr _ T a js hlen h1 h2) fun _ _ _ c => c
/-! ### what the top has written -/
/-- a def of the module -/
structure Std (K : PySem.W.Frag) (x : Str) (st : Stmt) (f : Addr) : Prop where
  ns : PySem.W.nsIn K mainGlobals x = some (some (.ref f))
  fn : ∃ fd, Fun K x x st f fd
theorem std_of {K : PySem.W.Frag} {x : Str} {st : Stmt} {f : Addr} {oc : Value} {od an : Option Addr} {osl : Array (Option Value)} {kV doc pm cdv ct : Value} (n : PySem.W.nsIn K mainGlobals x = some (some (.ref f)))
    (l : K.lookup f = some ⟨oc, od, .func (PySem.W.fnOf x x (defArgs st) (defBody st) (defScope st) .none kV doc pm an cdv ct), osl⟩) (c : PySem.W.codeIn K cdv x = true) (k : PySem.W.keepIn K (.ref f) = true) : Std K x st f := ⟨n, _, fun_mk l c k⟩
/-- a def of the class -/
structure InCls (K : PySem.W.Frag) (C : Addr) (x q : Str) (st : Stmt) (f : Addr) : Prop where
  m : Meth K C x f
  fn : ∃ fd, Fun K x q st f fd
theorem incls_of {K : PySem.W.Frag} {C : Addr} {x q : Str} {st : Stmt} {f : Addr} {oc : Value} {od an : Option Addr} {osl : Array (Option Value)} {kV doc pm cdv ct : Value} (n : PySem.W.findIn K (.ref C) x = some (some (.ref f))) (i : PySem.W.isFn K (.ref f) = true)
    (l : K.lookup f = some ⟨oc, od, .func (PySem.W.fnOf x q (defArgs st) (defBody st) (defScope st) .none kV doc pm an cdv ct), osl⟩) (c : PySem.W.codeIn K cdv q = true) (k : PySem.W.keepIn K (.ref f) = true) : InCls K C x q st f := ⟨⟨n, i, k⟩, _, fun_mk l c k⟩
/-- the property's getter -/
structure InProp (K : PySem.W.Frag) (C : Addr) (x q : Str) (st : Stmt) (p f : Addr) : Prop where
  m : PropOf K C x p f
  fn : ∃ fd, Fun K x q st f fd
theorem inprop_of {K : PySem.W.Frag} {C : Addr} {x q : Str} {st : Stmt} {p f : Addr} {rest : List Value} {oc : Value} {od an : Option Addr} {osl : Array (Option Value)} {kV doc pm cdv ct : Value} (n : PySem.W.findIn K (.ref C) x = some (some (.ref p)))
    (g : PySem.W.specialIn K (.ref p) "__get__" = some (some (.builtin "property.__get__"))) (t : PySem.W.takesIn K (.ref p) = some true) (r : PySem.W.recIn K p "property" = some (.ref f :: rest))
    (l : K.lookup f = some ⟨oc, od, .func (PySem.W.fnOf x q (defArgs st) (defBody st) (defScope st) .none kV doc pm an cdv ct), osl⟩) (c : PySem.W.codeIn K cdv q = true) (k : PySem.W.keepIn K (.ref f) = true) : InProp K C x q st p f := ⟨⟨n, g, t, rest, r⟩, _, fun_mk l c k⟩
/-- an empty tuple that stands -/
theorem emp_of {K : PySem.W.Frag} {T : Addr} {dd : Option Addr} {n : Nat} {sl : Array (Option Value)} (l : K.lookup T = some ⟨.type "tuple", dd, .seq #[] n, sl⟩) : ∀ H, SqT K H T [] := fun H => .inr ⟨_, #[], n, l, rfl, rfl, Nat.zero_le _, .nil⟩
/-- the class, with its __init__, its constant and its class method -/
structure RdAll (K : PySem.W.Frag) (C fI pO fO e e2 : Addr) (u12 : Value) : Prop where
  ns : PySem.W.nsIn K mainGlobals "Reader" = some (some (.ref C))
  rd : RdC K C
  mak : Mk K C fI
  con : Con K C "MAX_STATES" (.int 12) u12
  ini : ∃ fd, FunD K "__init__" "Reader.__init__" (defArgs sInit) (defBody sInit) (defScope sInit) [V.ref e] [("start", .int 0)] fI fd
  emp : ∀ H, SqT K H e []
  emp2 : ∀ H, SqT K H e2 []
  cr : ClX.CRead K C (.type "type")
  cv : ClX.CVal K C (.type "type") "MAX_STATES" (.int 12) u12
  cm : ClX.CMet K C (.type "type") "of" pO fO
  ofd : ∃ fd, FunD K "of" "Reader.of" (defArgs sOf) (defBody sOf) (defScope sOf) [] [("ends", .ref e2), ("start", .int 0)] fO fd
  isc : C8.InsC K C
theorem rdall_of {K : PySem.W.Frag} {C fI pO fO e e2 T D D2 : Addr} {t12 t0 t00 : Tok} {cT : Value} {dT : Option Addr} {nT : Nat} {sT : Array (Option Value)} {oc : Value} {od an : Option Addr} {osl : Array (Option Value)} {doc pm cdv ct : Value}
    {oc2 : Value} {od2 an2 : Option Addr} {osl2 : Array (Option Value)} {doc2 pm2 cdv2 ct2 : Value} {dd dd2 : Option Addr} {n n' : Nat} {sl sl2 : Array (Option Value)} {rest : List Value}
    (ns : PySem.W.nsIn K mainGlobals "Reader" = some (some (.ref C)))
    (pg : PySem.W.plainGet K C Str.empty = true) (hd : PySem.W.hasDictIn K C = true) (po : PySem.W.plainOver K C = true) (sa : PySem.W.findIn K (.ref C) "__setattr__" = some (some (.builtin "object.__setattr__")))
    (n1 : PySem.W.findIn K (.ref C) "_states" = some none) (n2 : PySem.W.findIn K (.ref C) "_ends" = some none) (n3 : PySem.W.findIn K (.ref C) "_start" = some none) (n4 : PySem.W.findIn K (.ref C) "_page_signs" = some none) (n5 : PySem.W.findIn K (.ref C) "_text_signs" = some none) (n6 : PySem.W.findIn K (.ref C) "_marks" = some none)
    (mk : PySem.W.makesIn K C = true) (i : PySem.W.findIn K (.ref C) "__init__" = some (some (.ref fI))) (fn : PySem.W.isFn K (.ref fI) = true) (kC : PySem.W.keepIn K (.ref C) = true)
    (c1 : PySem.W.findIn K (.ref C) "MAX_STATES" = some (some (.int 12 t12))) (c2 : PySem.W.specialIn K (.int 12 t12) "__get__" = some none)
    (l : K.lookup fI = some ⟨oc, od, .func (PySem.W.fnOf "__init__" "Reader.__init__" (defArgs sInit) (defBody sInit) (defScope sInit) (.ref T) (.ref D) doc pm an cdv ct), osl⟩) (c : PySem.W.codeIn K cdv "Reader.__init__" = true) (k : PySem.W.keepIn K (.ref fI) = true)
    (lT : K.lookup T = some ⟨cT, dT, .seq (List.toArray [Value.ref e]) nT, sT⟩) (lD : PySem.W.nsIn K D "start" = some (some (.int 0 t0))) (le : K.lookup e = some ⟨.type "tuple", dd, .seq #[] n, sl⟩)
    (r1 : PySem.W.readsIn K C (.type "type") = true) (r2 : PySem.W.specialIn K (.ref C) "__getattribute__" = some (some (.builtin "type.__getattribute__"))) (v1 : PySem.W.findCls K (.ref C) (.type "type") "MAX_STATES" = some (.val (.int 12 t12)))
    (m1 : PySem.W.findCls K (.ref C) (.type "type") "of" = some (.get (.builtin "classmethod.__get__") (.ref pO) .none (.ref C))) (m2 : PySem.W.recIn K pO "classmethod" = some (.ref fO :: rest)) (m3 : PySem.W.fnIn K fO = true)
    (o1 : K.lookup fO = some ⟨oc2, od2, .func (PySem.W.fnOf "of" "Reader.of" (defArgs sOf) (defBody sOf) (defScope sOf) .none (.ref D2) doc2 pm2 an2 cdv2 ct2), osl2⟩) (o2 : PySem.W.codeIn K cdv2 "Reader.of" = true) (o3 : PySem.W.keepIn K (.ref fO) = true)
    (o4 : PySem.W.nsIn K D2 "ends" = some (some (.ref e2))) (o5 : PySem.W.nsIn K D2 "start" = some (some (.int 0 t00))) (o6 : K.lookup e2 = some ⟨.type "tuple", dd2, .seq #[] n', sl2⟩)
    (i1 : PySem.W.findIn K (.ref C) "__class__" = some (some (.builtin "object.__class__"))) (i2 : PySem.W.specialIn K (.builtin "object.__class__") "__get__" = some (some (.builtin "getset_descriptor.__get__"))) (i3 : PySem.W.takesIn K (.builtin "object.__class__") = some true)
    (i4 : PySem.W.mroIn K C (.type "object") = some true) (i5 : PySem.W.kitOne K (.ref C) (.ref C) = some true) : RdAll K C fI pO fO e e2 (.int 12 t12) :=
  ⟨ns, ⟨⟨pg, hd, po, sa⟩, n1, n2, n3, n4, n5, n6⟩, ⟨mk, i, fn, kC⟩, ⟨c1, ⟨t12, rfl⟩, c2, by decide +kernel⟩,
    ⟨_, ⟨oc, od, .ref T, .ref D, doc, pm, an, cdv, ct, osl, rfl, l, c, .inr ⟨by simp, T, _, [.ref e], nT, rfl, lT, rfl, .cons rfl .nil⟩, .inr ⟨D, rfl, fun q hq => by rw [List.mem_singleton.mp hq]; exact ⟨_, lD, ⟨t0, rfl⟩⟩⟩⟩, k⟩, emp_of le, emp_of o6, ⟨r1, r2⟩, ⟨v1, ⟨t12, rfl⟩⟩, ⟨m1, ⟨rest, m2⟩, m3⟩,
    ⟨_, ⟨oc2, od2, .none, .ref D2, doc2, pm2, an2, cdv2, ct2, osl2, rfl, o1, o2, .inl ⟨rfl, rfl⟩, .inr ⟨D2, rfl, fun q hq => by
      rcases List.mem_cons.mp hq with e | hq
      · rw [e]
        exact ⟨_, o4, rfl⟩
      · rw [List.mem_singleton.mp hq]
        exact ⟨_, o5, ⟨t00, rfl⟩⟩⟩⟩, o3⟩, ⟨⟨pg, hd, po, sa⟩, i1, i2, i3, i4, i5⟩⟩
section
variable {K : PySem.W.Frag} {fI e : Addr} {fd : FuncData} (F : FunD K "__init__" "Reader.__init__" (defArgs sInit) (defBody sInit) (defScope sInit) [V.ref e] [("start", .int 0)] fI fd)
include F
abbrev ps4 : List Str := ["self", "states", "ends", "start"]
theorem kb_3s : KBn K fd ps4 3 ["start"] (fun us ws => us ++ ws) (fun vs zs => vs ++ zs) := by
  obtain ⟨_, h⟩ := FunD.kbindsD F (ps := ps4) 3 ["start"] (fun us _ ws => us ++ ws) (by simp) (fun r1 _ r3 => r1.append r3) fun T kV doc pm an cdv ct us its ws h1 h2 h3 => match us, its, ws, h1, h2, h3 with
    | [_, _, _], [_], [_], _, _, _ => ⟨_, rfl, rfl⟩
  exact h
theorem kb_2es : KBn K fd ps4 2 ["ends", "start"] (fun us ws => us ++ ws) (fun vs zs => vs ++ zs) := by
  obtain ⟨_, h⟩ := FunD.kbindsD F (ps := ps4) 2 ["ends", "start"] (fun us _ ws => us ++ ws) (by simp) (fun r1 _ r3 => r1.append r3) fun T kV doc pm an cdv ct us its ws h1 h2 h3 => match us, its, ws, h1, h2, h3 with
    | [_, _], [_], [_, _], _, _, _ => ⟨_, rfl, rfl⟩
  exact h
theorem kb_1sse : KBn K fd ps4 1 ["start", "states", "ends"] (fun us ws => us ++ (ws.drop 1 ++ ws.take 1)) rot := by
  obtain ⟨_, h⟩ := FunD.kbindsD F (ps := ps4) 1 ["start", "states", "ends"] (fun us _ ws => us ++ (ws.drop 1 ++ ws.take 1)) (by simp) (fun r1 _ r3 => r1.append ((r3.drop 1).append (r3.take 1))) fun T kV doc pm an cdv ct us its ws h1 h2 h3 => match us, its, ws, h1, h2, h3 with
    | [_], [_], [_, _, _], _, _, _ => ⟨_, rfl, rfl⟩
  exact h
theorem kb_1s : ∃ g, KBn K fd ps4 1 ["states"] g (fun vs zs => vs ++ (zs ++ [.ref e, .int 0])) := by
  obtain ⟨its, mv, h⟩ := FunD.kbinds F (ps := ps4) 1 ["states"] [("start", .int 0)] (fun us its mv ws => us ++ (ws ++ (its ++ mv))) (by simp) (by simp) (fun q hq => hq) (fun r1 r2 r3 r4 => r1.append (r4.append (r2.append r3))) fun T D doc pm an cdv ct us its mv ws h1 h2 h3 h4 => match us, its, mv, ws, h1, h2, h3, h4 with
    | [_], [_], [_], [_], _, _, _, _ => ⟨_, rfl, ⟨_, _, _, _, _, _, rfl, rfl, rfl⟩⟩
  exact ⟨_, h⟩
theorem b_3 : ∃ ds, Vals [.int 0] ds ∧ L2.Binds K fd ps4 ds := by
  obtain ⟨ds, h1, h2⟩ := FunD.binds F (ps := ps4) 3 1 (by simp) rfl (fun T D doc pm an cdv ct us its ks h1 h2 h3 => match us, its, ks, h1, h2, h3 with
    | [_, _, _], [_], [_], _, _, _ => ⟨_, rfl, ⟨_, _, _, _, _, _, rfl, rfl, rfl⟩⟩) (by simp)
  exact ⟨ds, h1, h2⟩
theorem b_2 : ∃ ds, Vals [.ref e, .int 0] ds ∧ L2.Binds K fd ps4 ds := by
  obtain ⟨ds, h1, h2⟩ := FunD.binds F (ps := ps4) 2 0 (by simp) rfl (fun T D doc pm an cdv ct us its ks h1 h2 h3 => match us, its, ks, h1, h2, h3 with
    | [_, _], [_], [_], _, _, _ => ⟨_, rfl, ⟨_, _, _, _, _, _, rfl, rfl, rfl⟩⟩) (by simp)
  exact ⟨ds, h1, h2⟩
end
theorem kb_val {K : PySem.W.Frag} {x : Str} {st : Stmt} {f : Addr} {fd : FuncData} (F : Fun K x x st f fd) (h : ∀ (kV doc pm : Value) (an : Option Addr) (cdv ct u : Value), bindArgs (PySem.W.fnOf x x (defArgs st) (defBody st) (defScope st) .none kV doc pm an cdv ct) ⟨[], [("value", u)]⟩ = pure ([("value", u)] : List (Str × Value))) : KBn K fd ["value"] 0 ["value"] (fun _ ws => ws) (fun _ zs => zs) := by
  obtain ⟨oc, od, kV, doc, pm, an, cdv, ct, osl, e, _⟩ := F.ex
  subst e
  exact ⟨fun s us ws _ h1 h2 => match us, ws, h1, h2 with
    | [], [_], _, _ => .of_eq (h _ _ _ _ _ _ _), fun _ r => r⟩
theorem kb_move {K : PySem.W.Frag} {f : Addr} {fd : FuncData} (F : Fun K "move" "Reader.move" sMove f fd) : KBn K fd ["self", "state", "sign"] 1 ["state", "sign"] (fun us ws => us ++ ws) (fun vs zs => vs ++ zs) := by
  obtain ⟨oc, od, kV, doc, pm, an, cdv, ct, osl, e, _⟩ := F.ex
  subst e
  exact ⟨fun s us ws _ h1 h2 => match us, ws, h1, h2 with
    | [_], [_, _], _, _ => .of_eq rfl, fun r1 r2 => r1.append r2⟩
theorem kb_moves {K : PySem.W.Frag} {f : Addr} {fd : FuncData} (F : Fun K "moves" "Reader.moves" sMoves f fd) : KBn K fd ["self", "state"] 1 ["state"] (fun us ws => us ++ ws) (fun vs zs => vs ++ zs) := by
  obtain ⟨oc, od, kV, doc, pm, an, cdv, ct, osl, e, _⟩ := F.ex
  subst e
  exact ⟨fun s us ws _ h1 h2 => match us, ws, h1, h2 with
    | [_], [_], _, _ => .of_eq rfl, fun r1 r2 => r1.append r2⟩
theorem all_mk {P : Program} {w : World} {K : PySem.W.Frag} {h : Heap} {mg : Str → Option Value} {fa C fI pO fO e e2 pS fS f_isint f_below f_chk f_ares f_hasl f_sign f_mark f_word f_isr f_name f_ismv f_isrw f_cop f_rng f_draw f_choi f_lett f_mrks f_anyf f_modl f_made f_thgs f_movr f_frms f_defs f_vals f_told f_rght f_law f_coll f_lim f_ends f_move f_movs f_pgs f_txs f_mks f_len f_has : Addr} {u12 : Value} {t8 t6 t4 t7 : Tok} (X : K.In h) (G : h.Ns mainGlobals mg) (hfa : mg "law" = some (.ref fa))
    (s_isint : Std K "is_integer" sIsInt f_isint)
    (s_below : Std K "is_below" sBelow f_below)
    (s_chk : Std K "check_state" sCheckState f_chk)
    (s_ares : Std K "are_states" sAreStates f_ares)
    (s_hasl : Std K "has_length" sHasLen f_hasl)
    (s_sign : Std K "is_sign" sIsSign f_sign)
    (s_mark : Std K "is_mark" sIsMark f_mark)
    (s_word : Std K "is_word" sIsWord f_word)
    (s_isr : Std K "is_row" sIsRowV f_isr)
    (s_name : Std K "is_name" sIsName f_name)
    (s_ismv : Std K "_is_move" sIsMove f_ismv)
    (s_isrw : Std K "_is_reader_state" sIsRow f_isrw)
    (s_cop : Std K "_copied_state" sCopied f_cop)
    (s_rng : Std K "_law_rng" sRng f_rng)
    (s_draw : Std K "_law_draw" sDraw f_draw)
    (s_choi : Std K "_law_choice" sChoice f_choi)
    (s_lett : Std K "_law_letters" sLetters f_lett)
    (s_mrks : Std K "_law_marks" sMarks f_mrks)
    (s_anyf : Std K "_law_any_format" sAnyFormat f_anyf)
    (s_modl : Std K "_law_model" sModel f_modl)
    (s_made : Std K "_law_made" sMade f_made)
    (s_thgs : Std K "_law_things" sThings f_thgs)
    (s_movr : Std K "_law_moves_right" sMovesR f_movr)
    (s_frms : Std K "_law_forms_right" sForms f_frms)
    (s_defs : Std K "_law_defaults_right" sDefs f_defs)
    (s_vals : Std K "_law_values_right" sValues f_vals)
    (s_told : Std K "_law_told_right" sTold f_told)
    (s_rght : Std K "_law_right" sRight f_rght)
    (s_law : Std K "law" sLaw f_law)
    (rd : RdAll K C fI pO fO e e2 u12)
    (s_coll : InCls K C "_collect_names" "Reader._collect_names" sCollect f_coll)
    (s_lim : InCls K C "_check_limits" "Reader._check_limits" sLimits f_lim)
    (s_ends : InCls K C "ends" "Reader.ends" sEnds f_ends)
    (s_move : InCls K C "move" "Reader.move" sMove f_move)
    (s_movs : InCls K C "moves" "Reader.moves" sMoves f_movs)
    (s_pgs : InCls K C "page_signs" "Reader.page_signs" sPaperM f_pgs)
    (s_txs : InCls K C "text_signs" "Reader.text_signs" sTextsM f_txs)
    (s_mks : InCls K C "marks" "Reader.marks" sMarksM f_mks)
    (s_len : InCls K C "__len__" "Reader.__len__" sLenR f_len)
    (s_has : InCls K C "__contains__" "Reader.__contains__" sHasM f_has)
    (s_start : InProp K C "start" "Reader.start" sStart pS fS)
    (c8 : PySem.W.nsIn K mainGlobals "MAX_NAME" = some (some (.int 8 t8))) (c6 : PySem.W.nsIn K mainGlobals "MAX_PAGE_SIGNS" = some (some (.int 6 t6))) (c4 : PySem.W.nsIn K mainGlobals "MAX_TEXT_SIGNS" = some (some (.int 4 t4))) (c7 : PySem.W.nsIn K mainGlobals "MAX_MARKS" = some (some (.int 6 t7)))
    (z_isinstance : PySem.W.nsIn K mainGlobals "isinstance" = some none)
    (z_int : PySem.W.nsIn K mainGlobals "int" = some none)
    (z_bool : PySem.W.nsIn K mainGlobals "bool" = some none)
    (z_list : PySem.W.nsIn K mainGlobals "list" = some none)
    (z_tuple : PySem.W.nsIn K mainGlobals "tuple" = some none)
    (z_len : PySem.W.nsIn K mainGlobals "len" = some none)
    (z_all : PySem.W.nsIn K mainGlobals "all" = some none)
    (z_set : PySem.W.nsIn K mainGlobals "set" = some none)
    (z_str : PySem.W.nsIn K mainGlobals "str" = some none)
    (z_dict : PySem.W.nsIn K mainGlobals "dict" = some none)
    (z_sorted : PySem.W.nsIn K mainGlobals "sorted" = some none)
    (z_enumerate : PySem.W.nsIn K mainGlobals "enumerate" = some none)
    (z_divmod : PySem.W.nsIn K mainGlobals "divmod" = some none)
    (z_range : PySem.W.nsIn K mainGlobals "range" = some none)
    (z_max : PySem.W.nsIn K mainGlobals "max" = some none)
    (z_min : PySem.W.nsIn K mainGlobals "min" = some none)
    (z_abs : PySem.W.nsIn K mainGlobals "abs" = some none)
    (z_repr : PySem.W.nsIn K mainGlobals "repr" = some none)
    : ∃ fd : FuncData, (∀ (s : Shared) (u : Value), BindsTo s fd ⟨[u], []⟩ [("_law_script", u)]) ∧ ∀ base : Heap, K.In base → base.Ns mainGlobals mg → FnG P w K mg base CX0 11 fa fd ["_law_script"] (spLaw K) := by
  have e0 := hfa.symm.trans (PySem.W.mg_of X G s_law.ns)
  cases e0
  have z_isinstance := PySem.W.mg_none_of X G z_isinstance
  have z_int := PySem.W.mg_none_of X G z_int
  have z_bool := PySem.W.mg_none_of X G z_bool
  have z_list := PySem.W.mg_none_of X G z_list
  have z_tuple := PySem.W.mg_none_of X G z_tuple
  have z_len := PySem.W.mg_none_of X G z_len
  have z_all := PySem.W.mg_none_of X G z_all
  have z_set := PySem.W.mg_none_of X G z_set
  have z_str := PySem.W.mg_none_of X G z_str
  have z_dict := PySem.W.mg_none_of X G z_dict
  have z_sorted := PySem.W.mg_none_of X G z_sorted
  have z_enumerate := PySem.W.mg_none_of X G z_enumerate
  have z_divmod := PySem.W.mg_none_of X G z_divmod
  have z_range := PySem.W.mg_none_of X G z_range
  have z_max := PySem.W.mg_none_of X G z_max
  have z_min := PySem.W.mg_none_of X G z_min
  have z_abs := PySem.W.mg_none_of X G z_abs
  have z_repr := PySem.W.mg_none_of X G z_repr
  obtain ⟨d_isint, F_isint⟩ := s_isint.fn
  have a_isint : At K mg "is_integer" f_isint d_isint ["value"] [] := ⟨PySem.W.mg_of X G s_isint.ns, F_isint.kp, F_isint.binds (ps := ["value"]) fun _ _ _ _ _ _ us hl => match us, hl with | [_], _ => rfl⟩
  obtain ⟨d_below, F_below⟩ := s_below.fn
  have a_below : At K mg "is_below" f_below d_below ["value", "limit"] [] := ⟨PySem.W.mg_of X G s_below.ns, F_below.kp, F_below.binds (ps := ["value", "limit"]) fun _ _ _ _ _ _ us hl => match us, hl with | [_, _], _ => rfl⟩
  obtain ⟨d_chk, F_chk⟩ := s_chk.fn
  have a_chk : At K mg "check_state" f_chk d_chk ["value", "many"] [] := ⟨PySem.W.mg_of X G s_chk.ns, F_chk.kp, F_chk.binds (ps := ["value", "many"]) fun _ _ _ _ _ _ us hl => match us, hl with | [_, _], _ => rfl⟩
  obtain ⟨d_ares, F_ares⟩ := s_ares.fn
  have a_ares : At K mg "are_states" f_ares d_ares ["value", "many"] [] := ⟨PySem.W.mg_of X G s_ares.ns, F_ares.kp, F_ares.binds (ps := ["value", "many"]) fun _ _ _ _ _ _ us hl => match us, hl with | [_, _], _ => rfl⟩
  obtain ⟨d_hasl, F_hasl⟩ := s_hasl.fn
  have a_hasl : At K mg "has_length" f_hasl d_hasl ["value", "least", "most"] [] := ⟨PySem.W.mg_of X G s_hasl.ns, F_hasl.kp, F_hasl.binds (ps := ["value", "least", "most"]) fun _ _ _ _ _ _ us hl => match us, hl with | [_, _, _], _ => rfl⟩
  obtain ⟨d_sign, F_sign⟩ := s_sign.fn
  have a_sign : At K mg "is_sign" f_sign d_sign ["value"] [] := ⟨PySem.W.mg_of X G s_sign.ns, F_sign.kp, F_sign.binds (ps := ["value"]) fun _ _ _ _ _ _ us hl => match us, hl with | [_], _ => rfl⟩
  obtain ⟨d_mark, F_mark⟩ := s_mark.fn
  have a_mark : At K mg "is_mark" f_mark d_mark ["value"] [] := ⟨PySem.W.mg_of X G s_mark.ns, F_mark.kp, F_mark.binds (ps := ["value"]) fun _ _ _ _ _ _ us hl => match us, hl with | [_], _ => rfl⟩
  obtain ⟨d_word, F_word⟩ := s_word.fn
  have a_word : At K mg "is_word" f_word d_word ["value"] [] := ⟨PySem.W.mg_of X G s_word.ns, F_word.kp, F_word.binds (ps := ["value"]) fun _ _ _ _ _ _ us hl => match us, hl with | [_], _ => rfl⟩
  obtain ⟨d_isr, F_isr⟩ := s_isr.fn
  have a_isr : At K mg "is_row" f_isr d_isr ["value"] [] := ⟨PySem.W.mg_of X G s_isr.ns, F_isr.kp, F_isr.binds (ps := ["value"]) fun _ _ _ _ _ _ us hl => match us, hl with | [_], _ => rfl⟩
  obtain ⟨d_name, F_name⟩ := s_name.fn
  have a_name : At K mg "is_name" f_name d_name ["value"] [] := ⟨PySem.W.mg_of X G s_name.ns, F_name.kp, F_name.binds (ps := ["value"]) fun _ _ _ _ _ _ us hl => match us, hl with | [_], _ => rfl⟩
  obtain ⟨d_ismv, F_ismv⟩ := s_ismv.fn
  have a_ismv : At K mg "_is_move" f_ismv d_ismv ["value", "many"] [] := ⟨PySem.W.mg_of X G s_ismv.ns, F_ismv.kp, F_ismv.binds (ps := ["value", "many"]) fun _ _ _ _ _ _ us hl => match us, hl with | [_, _], _ => rfl⟩
  obtain ⟨d_isrw, F_isrw⟩ := s_isrw.fn
  have a_isrw : At K mg "_is_reader_state" f_isrw d_isrw ["value", "many"] [] := ⟨PySem.W.mg_of X G s_isrw.ns, F_isrw.kp, F_isrw.binds (ps := ["value", "many"]) fun _ _ _ _ _ _ us hl => match us, hl with | [_, _], _ => rfl⟩
  obtain ⟨d_cop, F_cop⟩ := s_cop.fn
  have a_cop : At K mg "_copied_state" f_cop d_cop ["state"] [] := ⟨PySem.W.mg_of X G s_cop.ns, F_cop.kp, F_cop.binds (ps := ["state"]) fun _ _ _ _ _ _ us hl => match us, hl with | [_], _ => rfl⟩
  obtain ⟨d_rng, F_rng⟩ := s_rng.fn
  have a_rng : At K mg "_law_rng" f_rng d_rng ["_law_script", "_law_k"] [] := ⟨PySem.W.mg_of X G s_rng.ns, F_rng.kp, F_rng.binds (ps := ["_law_script", "_law_k"]) fun _ _ _ _ _ _ us hl => match us, hl with | [_, _], _ => rfl⟩
  obtain ⟨d_draw, F_draw⟩ := s_draw.fn
  have a_draw : At K mg "_law_draw" f_draw d_draw ["_law_rng_here", "_law_many"] [] := ⟨PySem.W.mg_of X G s_draw.ns, F_draw.kp, F_draw.binds (ps := ["_law_rng_here", "_law_many"]) fun _ _ _ _ _ _ us hl => match us, hl with | [_, _], _ => rfl⟩
  obtain ⟨d_choi, F_choi⟩ := s_choi.fn
  have a_choi : At K mg "_law_choice" f_choi d_choi ["_law_rng_here", "_law_some"] [] := ⟨PySem.W.mg_of X G s_choi.ns, F_choi.kp, F_choi.binds (ps := ["_law_rng_here", "_law_some"]) fun _ _ _ _ _ _ us hl => match us, hl with | [_, _], _ => rfl⟩
  obtain ⟨d_lett, F_lett⟩ := s_lett.fn
  have a_lett : At K mg "_law_letters" f_lett d_lett ["_law_rng_here", "_law_many"] [] := ⟨PySem.W.mg_of X G s_lett.ns, F_lett.kp, F_lett.binds (ps := ["_law_rng_here", "_law_many"]) fun _ _ _ _ _ _ us hl => match us, hl with | [_, _], _ => rfl⟩
  obtain ⟨d_mrks, F_mrks⟩ := s_mrks.fn
  have a_mrks : At K mg "_law_marks" f_mrks d_mrks ["_law_rng_here", "_law_many"] [] := ⟨PySem.W.mg_of X G s_mrks.ns, F_mrks.kp, F_mrks.binds (ps := ["_law_rng_here", "_law_many"]) fun _ _ _ _ _ _ us hl => match us, hl with | [_, _], _ => rfl⟩
  obtain ⟨d_anyf, F_anyf⟩ := s_anyf.fn
  have a_anyf : At K mg "_law_any_format" f_anyf d_anyf ["_law_rng_here", "_law_cap", "_law_paper", "_law_tells", "_law_marks_here"] [] := ⟨PySem.W.mg_of X G s_anyf.ns, F_anyf.kp, F_anyf.binds (ps := ["_law_rng_here", "_law_cap", "_law_paper", "_law_tells", "_law_marks_here"]) fun _ _ _ _ _ _ us hl => match us, hl with | [_, _, _, _, _], _ => rfl⟩
  obtain ⟨d_modl, F_modl⟩ := s_modl.fn
  have a_modl : At K mg "_law_model" f_modl d_modl ["_law_rng_here"] [] := ⟨PySem.W.mg_of X G s_modl.ns, F_modl.kp, F_modl.binds (ps := ["_law_rng_here"]) fun _ _ _ _ _ _ us hl => match us, hl with | [_], _ => rfl⟩
  obtain ⟨d_made, F_made⟩ := s_made.fn
  have a_made : At K mg "_law_made" f_made d_made ["_law_rng_here", "_law_model_here"] [] := ⟨PySem.W.mg_of X G s_made.ns, F_made.kp, F_made.binds (ps := ["_law_rng_here", "_law_model_here"]) fun _ _ _ _ _ _ us hl => match us, hl with | [_, _], _ => rfl⟩
  obtain ⟨d_thgs, F_thgs⟩ := s_thgs.fn
  have a_thgs : At K mg "_law_things" f_thgs d_thgs ["_law_model_here"] [] := ⟨PySem.W.mg_of X G s_thgs.ns, F_thgs.kp, F_thgs.binds (ps := ["_law_model_here"]) fun _ _ _ _ _ _ us hl => match us, hl with | [_], _ => rfl⟩
  obtain ⟨d_movr, F_movr⟩ := s_movr.fn
  have a_movr : At K mg "_law_moves_right" f_movr d_movr ["_law_made_here", "_law_model_here"] [] := ⟨PySem.W.mg_of X G s_movr.ns, F_movr.kp, F_movr.binds (ps := ["_law_made_here", "_law_model_here"]) fun _ _ _ _ _ _ us hl => match us, hl with | [_, _], _ => rfl⟩
  obtain ⟨d_frms, F_frms⟩ := s_frms.fn
  have a_frms : At K mg "_law_forms_right" f_frms d_frms ["_law_rng_here"] [] := ⟨PySem.W.mg_of X G s_frms.ns, F_frms.kp, F_frms.binds (ps := ["_law_rng_here"]) fun _ _ _ _ _ _ us hl => match us, hl with | [_], _ => rfl⟩
  obtain ⟨d_defs, F_defs⟩ := s_defs.fn
  have a_defs : At K mg "_law_defaults_right" f_defs d_defs ["_law_model_here"] [] := ⟨PySem.W.mg_of X G s_defs.ns, F_defs.kp, F_defs.binds (ps := ["_law_model_here"]) fun _ _ _ _ _ _ us hl => match us, hl with | [_], _ => rfl⟩
  obtain ⟨d_vals, F_vals⟩ := s_vals.fn
  have a_vals : At K mg "_law_values_right" f_vals d_vals ["_law_made_here", "_law_many"] [] := ⟨PySem.W.mg_of X G s_vals.ns, F_vals.kp, F_vals.binds (ps := ["_law_made_here", "_law_many"]) fun _ _ _ _ _ _ us hl => match us, hl with | [_, _], _ => rfl⟩
  obtain ⟨d_told, F_told⟩ := s_told.fn
  have a_told : At K mg "_law_told_right" f_told d_told ["_law_made_here", "_law_model_here"] [] := ⟨PySem.W.mg_of X G s_told.ns, F_told.kp, F_told.binds (ps := ["_law_made_here", "_law_model_here"]) fun _ _ _ _ _ _ us hl => match us, hl with | [_, _], _ => rfl⟩
  obtain ⟨d_rght, F_rght⟩ := s_rght.fn
  have a_rght : At K mg "_law_right" f_rght d_rght ["_law_rng_here"] [] := ⟨PySem.W.mg_of X G s_rght.ns, F_rght.kp, F_rght.binds (ps := ["_law_rng_here"]) fun _ _ _ _ _ _ us hl => match us, hl with | [_], _ => rfl⟩
  obtain ⟨d_law, F_law⟩ := s_law.fn
  obtain ⟨d_coll, F_coll⟩ := s_coll.fn
  have b_coll : L2.Binds K d_coll ["self"] [] := F_coll.binds (ps := ["self"]) fun _ _ _ _ _ _ us hl => match us, hl with | [_], _ => rfl
  obtain ⟨d_lim, F_lim⟩ := s_lim.fn
  have b_lim : L2.Binds K d_lim ["self"] [] := F_lim.binds (ps := ["self"]) fun _ _ _ _ _ _ us hl => match us, hl with | [_], _ => rfl
  obtain ⟨d_ends, F_ends⟩ := s_ends.fn
  have b_ends : L2.Binds K d_ends ["self"] [] := F_ends.binds (ps := ["self"]) fun _ _ _ _ _ _ us hl => match us, hl with | [_], _ => rfl
  obtain ⟨d_move, F_move⟩ := s_move.fn
  have b_move : L2.Binds K d_move ["self", "state", "sign"] [] := F_move.binds (ps := ["self", "state", "sign"]) fun _ _ _ _ _ _ us hl => match us, hl with | [_, _, _], _ => rfl
  obtain ⟨d_movs, F_movs⟩ := s_movs.fn
  have b_movs : L2.Binds K d_movs ["self", "state"] [] := F_movs.binds (ps := ["self", "state"]) fun _ _ _ _ _ _ us hl => match us, hl with | [_, _], _ => rfl
  obtain ⟨d_pgs, F_pgs⟩ := s_pgs.fn
  have b_pgs : L2.Binds K d_pgs ["self"] [] := F_pgs.binds (ps := ["self"]) fun _ _ _ _ _ _ us hl => match us, hl with | [_], _ => rfl
  obtain ⟨d_txs, F_txs⟩ := s_txs.fn
  have b_txs : L2.Binds K d_txs ["self"] [] := F_txs.binds (ps := ["self"]) fun _ _ _ _ _ _ us hl => match us, hl with | [_], _ => rfl
  obtain ⟨d_mks, F_mks⟩ := s_mks.fn
  have b_mks : L2.Binds K d_mks ["self"] [] := F_mks.binds (ps := ["self"]) fun _ _ _ _ _ _ us hl => match us, hl with | [_], _ => rfl
  obtain ⟨d_len, F_len⟩ := s_len.fn
  have b_len : L2.Binds K d_len ["self"] [] := F_len.binds (ps := ["self"]) fun _ _ _ _ _ _ us hl => match us, hl with | [_], _ => rfl
  obtain ⟨d_has, F_has⟩ := s_has.fn
  have b_has : L2.Binds K d_has ["self", "value"] [] := F_has.binds (ps := ["self", "value"]) fun _ _ _ _ _ _ us hl => match us, hl with | [_, _], _ => rfl
  obtain ⟨d_start, F_start⟩ := s_start.fn
  have b_start : L2.Binds K d_start ["self"] [] := F_start.binds (ps := ["self"]) fun _ _ _ _ _ _ us hl => match us, hl with | [_], _ => rfl
  obtain ⟨d_init, F_init⟩ := rd.ini
  obtain ⟨d_of, F_of⟩ := rd.ofd
  obtain ⟨g1s, k_1s⟩ := kb_1s F_init
  obtain ⟨ds3, v3, bd3⟩ := b_3 F_init
  obtain ⟨ds2, v2, bd2⟩ := b_2 F_init
  have q8 := PySem.W.mg_of X G c8
  have q6 := PySem.W.mg_of X G c6
  have q4 := PySem.W.mg_of X G c4
  have q7 := PySem.W.mg_of X G c7
  have gC := PySem.W.mg_of X G rd.ns
  refine ⟨d_law, fun s v => ?_, fun base KB _ => ?_⟩
  · obtain ⟨oc, od, kV, doc, pm, an, cdv, ct, osl, e, _⟩ := F_law.ex
    subst e
    exact .of_eq rfl
  · have G_isint : FnOk P w K mg base CX0 1 f_isint d_isint ["value"] (spIsInt K) := ok_isint F_isint z_isinstance z_int z_bool
    have G_below := ok_below (base := base) F_below a_isint G_isint
    have G_hasl : FnOk P w K mg base CX0 1 f_hasl d_hasl ["value", "least", "most"] (spHasLenK K) := ok_haslenK F_hasl z_isinstance z_list z_tuple z_len
    have G_ares := ok_arestatesK F_ares a_below G_below z_isinstance z_list z_tuple z_len z_all z_set
    have G_word : FnOk P w K mg base CX0 1 f_word d_word ["value"] (spIsWord K) := ok_isword F_word z_isinstance z_str z_all
    have G_name := ok_isname F_name a_word G_word z_len q8
    have G_sign := ok_issign F_sign a_word G_word z_len
    have G_mark := ok_ismark F_mark a_name G_name z_len
    have G_isr := ok_isrowV F_isr a_name G_name z_isinstance z_tuple z_all
    have G_ismv := ok_ismove F_ismv a_below G_below a_name G_name z_isinstance z_tuple z_len
    have G_isrw := ok_isrow F_isrw a_sign G_sign a_ismv G_ismv z_isinstance z_dict z_all
    have G_cop : FnOk P w K mg base CX0 1 f_cop d_cop ["state"] spCopied := ok_copied F_cop z_sorted z_tuple
    have G_coll := ok_collect F_coll rd.rd a_sign G_sign a_mark G_mark z_sorted
    have G_lim : FnOk P w K mg base CX0 1 f_lim d_lim ["self"] (spLimits C) := ok_limits F_lim rd.rd z_len q6 q4 q7
    have G_init := ok_init F_init rd.rd a_hasl G_hasl a_isrw G_isrw a_ares G_ares a_below G_below a_cop G_cop s_coll.m b_coll G_coll s_lim.m b_lim G_lim rd.con z_len z_enumerate z_tuple z_sorted
    have G_chk := ok_checkstate F_chk a_below G_below
    have G_move := ok_move F_move rd.rd a_chk G_chk z_len
    have G_movs := ok_moves F_movs rd.rd a_chk G_chk z_len
    have G_start : FnOk P w K mg base CX0 1 fS d_start ["self"] (spStart C) := ok_start F_start rd.rd
    have G_ends : FnOk P w K mg base CX0 1 f_ends d_ends ["self"] (spEnds C) := ok_ends F_ends rd.rd
    have G_pgs : FnOk P w K mg base CX0 1 f_pgs d_pgs ["self"] (spPaper C) := ok_paper F_pgs rd.rd
    have G_txs : FnOk P w K mg base CX0 1 f_txs d_txs ["self"] (spTextsM C) := ok_textsM F_txs rd.rd
    have G_mks : FnOk P w K mg base CX0 1 f_mks d_mks ["self"] (spMarksM C) := ok_marksM F_mks rd.rd z_list
    have G_len : FnOk P w K mg base CX0 1 f_len d_len ["self"] (spLenR C) := ok_lenR F_len rd.rd z_len
    have G_has := ok_hasM F_has rd.rd a_below G_below z_len
    have G_ofK := ok_ofK F_of rd.mak (kb_3s F_init) G_init
    have G_of0 := ok_of0 F_of rd.mak (kb_3s F_init) G_init
    have G_draw : FnOk P w K mg base CX0 1 f_draw d_draw ["_law_rng_here", "_law_many"] spDraw := ok_draw F_draw z_divmod z_int
    have G_choi := ok_choice F_choi a_draw G_draw z_len
    have G_choS := ok_choiceS F_choi a_draw G_draw z_len
    have G_lett := ok_letters F_lett a_draw G_draw z_len z_list z_range
    have G_mrks := ok_marks F_mrks a_draw G_draw z_range
    have G_anyf := ok_anyformat F_anyf a_draw G_draw a_choi G_choi z_range
    have G_modl := ok_model F_modl a_draw G_draw a_lett G_lett a_mrks G_mrks a_anyf G_anyf
    have G_made := ok_made F_made a_draw G_draw gC rd.mak G_init (kb_2es F_init) (kb_1sse F_init) bd3 v3 rd.cr rd.cm G_ofK z_dict z_list z_len z_tuple
    have G_thgs : FnOk P w K mg base CX0 1 f_thgs d_thgs ["_law_model_here"] spThings := ok_things F_thgs z_sorted z_set
    have G_movr := ok_movesR F_movr rd.rd s_move.m b_move (kb_move F_move) G_move s_movs.m b_movs (kb_moves F_movs) G_movs z_enumerate z_repr z_sorted z_list
    have G_vals := ok_values F_vals rd.rd s_has.m b_has G_has z_isinstance z_int z_bool z_list z_range
    have G_frms := ok_forms F_frms a_draw G_draw a_choi G_choS a_word (kb_val F_word fun _ _ _ _ _ _ _ => rfl) G_word a_sign (kb_val F_sign fun _ _ _ _ _ _ _ => rfl) G_sign a_mark (kb_val F_mark fun _ _ _ _ _ _ _ => rfl) G_mark a_isr (kb_val F_isr fun _ _ _ _ _ _ _ => rfl) G_isr z_range z_repr z_all
    have G_defs := ok_defs F_defs rd.rd gC rd.mak G_init k_1s bd2 v2 rd.emp rd.emp2 rd.cr rd.cm G_of0 s_start.m b_start G_start s_ends.m b_ends G_ends s_len.m b_len G_len z_dict z_len
    have G_told := ok_told F_told rd.rd gC s_start.m b_start G_start s_ends.m b_ends G_ends s_len.m b_len G_len s_pgs.m b_pgs G_pgs s_txs.m b_txs G_txs s_mks.m b_mks G_mks a_thgs G_thgs a_movr G_movr a_vals G_vals rd.cr rd.cv rd.con z_repr z_sorted z_list z_len z_tuple z_set
    have G_rng : FnOk P w K mg base CX0 1 f_rng d_rng ["_law_script", "_law_k"] (spRng K) := ok_rng F_rng z_len z_max z_abs z_int
    have G_rght := ok_right F_rght rd.rd gC rd.isc a_modl G_modl a_made G_made a_told G_told a_frms G_frms a_defs G_defs s_mks.m b_mks G_mks s_movs.m b_movs G_movs z_isinstance z_list
    exact ok_law F_law a_rght G_rght a_rng G_rng z_all z_range z_max z_min z_len
end Sl
/-! ## E2 -/
set_option Elab.async false
open PySem PySem.W PyProof.Rows
set_option maxRecDepth 100000 in
set_option maxHeartbeats 0 in
theorem PySem.Challenge.cw_sealedslots_k11_readers_as_made_holds : PySem.Challenge.rw_sealedslots_k11_readers_as_made.Holds := by
  w_on; o_law; x_head; (case hw => w_witness2)
  k_fill
  refine Sl.walk_ofG (l := PySem.Challenge.rw_sealedslots_k11_readers_as_made) (n := 63) (k := 11) (x := "_law_script") (sp := Sl.spLaw) rfl (by decide) rfl ⟨rfl, by decide, by decide⟩ (fun w h Y => PySem.W.kIn_of Y) ?F (fun _ _ a ns hl _ hS => ⟨a, ns, rfl, hS, hl, fun _ => rfl⟩)
  case F =>
    intro w mg fa h KX G hmg
    refine' Sl.all_mk (P := PySem.Challenge.pw_sealedslots_k11_readers_as_made) KX G hmg ?s_isint ?s_below ?s_chk ?s_ares ?s_hasl ?s_sign ?s_mark ?s_word ?s_isr ?s_name ?s_ismv ?s_isrw ?s_cop ?s_rng ?s_draw ?s_choi ?s_lett ?s_mrks ?s_anyf ?s_modl ?s_made ?s_thgs ?s_movr ?s_frms ?s_defs ?s_vals ?s_told ?s_rght ?s_law ?rd ?s_coll ?s_lim ?s_ends ?s_move ?s_movs ?s_pgs ?s_txs ?s_mks ?s_len ?s_has ?s_start ?c8 ?c6 ?c4 ?c7 ?z_isinstance ?z_int ?z_bool ?z_list ?z_tuple ?z_len ?z_all ?z_set ?z_str ?z_dict ?z_sorted ?z_enumerate ?z_divmod ?z_range ?z_max ?z_min ?z_abs ?z_repr
    (case s_isint => refine' Sl.std_of ?n ?l ?c ?k; (case n => k_is); (case l => k_is); (case c => k_is); (case k => k_is))
    (case s_below => refine' Sl.std_of ?n ?l ?c ?k; (case n => k_is); (case l => k_is); (case c => k_is); (case k => k_is))
    (case s_chk => refine' Sl.std_of ?n ?l ?c ?k; (case n => k_is); (case l => k_is); (case c => k_is); (case k => k_is))
    (case s_ares => refine' Sl.std_of ?n ?l ?c ?k; (case n => k_is); (case l => k_is); (case c => k_is); (case k => k_is))
    (case s_hasl => refine' Sl.std_of ?n ?l ?c ?k; (case n => k_is); (case l => k_is); (case c => k_is); (case k => k_is))
    (case s_sign => refine' Sl.std_of ?n ?l ?c ?k; (case n => k_is); (case l => k_is); (case c => k_is); (case k => k_is))
    (case s_mark => refine' Sl.std_of ?n ?l ?c ?k; (case n => k_is); (case l => k_is); (case c => k_is); (case k => k_is))
    (case s_word => refine' Sl.std_of ?n ?l ?c ?k; (case n => k_is); (case l => k_is); (case c => k_is); (case k => k_is))
    (case s_isr => refine' Sl.std_of ?n ?l ?c ?k; (case n => k_is); (case l => k_is); (case c => k_is); (case k => k_is))
    (case s_name => refine' Sl.std_of ?n ?l ?c ?k; (case n => k_is); (case l => k_is); (case c => k_is); (case k => k_is))
    (case s_ismv => refine' Sl.std_of ?n ?l ?c ?k; (case n => k_is); (case l => k_is); (case c => k_is); (case k => k_is))
    (case s_isrw => refine' Sl.std_of ?n ?l ?c ?k; (case n => k_is); (case l => k_is); (case c => k_is); (case k => k_is))
    (case s_cop => refine' Sl.std_of ?n ?l ?c ?k; (case n => k_is); (case l => k_is); (case c => k_is); (case k => k_is))
    (case s_rng => refine' Sl.std_of ?n ?l ?c ?k; (case n => k_is); (case l => k_is); (case c => k_is); (case k => k_is))
    (case s_draw => refine' Sl.std_of ?n ?l ?c ?k; (case n => k_is); (case l => k_is); (case c => k_is); (case k => k_is))
    (case s_choi => refine' Sl.std_of ?n ?l ?c ?k; (case n => k_is); (case l => k_is); (case c => k_is); (case k => k_is))
    (case s_lett => refine' Sl.std_of ?n ?l ?c ?k; (case n => k_is); (case l => k_is); (case c => k_is); (case k => k_is))
    (case s_mrks => refine' Sl.std_of ?n ?l ?c ?k; (case n => k_is); (case l => k_is); (case c => k_is); (case k => k_is))
    (case s_anyf => refine' Sl.std_of ?n ?l ?c ?k; (case n => k_is); (case l => k_is); (case c => k_is); (case k => k_is))
    (case s_modl => refine' Sl.std_of ?n ?l ?c ?k; (case n => k_is); (case l => k_is); (case c => k_is); (case k => k_is))
    (case s_made => refine' Sl.std_of ?n ?l ?c ?k; (case n => k_is); (case l => k_is); (case c => k_is); (case k => k_is))
    (case s_thgs => refine' Sl.std_of ?n ?l ?c ?k; (case n => k_is); (case l => k_is); (case c => k_is); (case k => k_is))
    (case s_movr => refine' Sl.std_of ?n ?l ?c ?k; (case n => k_is); (case l => k_is); (case c => k_is); (case k => k_is))
    (case s_frms => refine' Sl.std_of ?n ?l ?c ?k; (case n => k_is); (case l => k_is); (case c => k_is); (case k => k_is))
    (case s_defs => refine' Sl.std_of ?n ?l ?c ?k; (case n => k_is); (case l => k_is); (case c => k_is); (case k => k_is))
    (case s_vals => refine' Sl.std_of ?n ?l ?c ?k; (case n => k_is); (case l => k_is); (case c => k_is); (case k => k_is))
    (case s_told => refine' Sl.std_of ?n ?l ?c ?k; (case n => k_is); (case l => k_is); (case c => k_is); (case k => k_is))
    (case s_rght => refine' Sl.std_of ?n ?l ?c ?k; (case n => k_is); (case l => k_is); (case c => k_is); (case k => k_is))
    (case s_law => refine' Sl.std_of ?n ?l ?c ?k; (case n => k_is); (case l => k_is); (case c => k_is); (case k => k_is))
    (case rd => refine' Sl.rdall_of ?x_ns ?x_pg ?x_hd ?x_po ?x_sa ?x_n1 ?x_n2 ?x_n3 ?x_n4 ?x_n5 ?x_n6 ?x_mk ?x_i ?x_fn ?x_kC ?x_c1 ?x_c2 ?x_l ?x_c ?x_k ?x_lT ?x_lD ?x_le ?x_r1 ?x_r2 ?x_v1 ?x_m1 ?x_m2 ?x_m3 ?x_o1 ?x_o2 ?x_o3 ?x_o4 ?x_o5 ?x_o6 ?x_i1 ?x_i2 ?x_i3 ?x_i4 ?x_i5; (case x_ns => k_is); (case x_pg => k_is); (case x_hd => k_is); (case x_po => k_is); (case x_sa => k_is); (case x_n1 => k_is); (case x_n2 => k_is); (case x_n3 => k_is); (case x_n4 => k_is); (case x_n5 => k_is); (case x_n6 => k_is); (case x_mk => k_is); (case x_i => k_is); (case x_fn => k_is); (case x_kC => k_is); (case x_c1 => k_is); (case x_c2 => k_is); (case x_l => k_is); (case x_c => k_is); (case x_k => k_is); (case x_lT => k_is); (case x_lD => k_is); (case x_le => k_is); (case x_r1 => k_is); (case x_r2 => k_is); (case x_v1 => k_is); (case x_m1 => k_is); (case x_m2 => k_is); (case x_m3 => k_is); (case x_o1 => k_is); (case x_o2 => k_is); (case x_o3 => k_is); (case x_o4 => k_is); (case x_o5 => k_is); (case x_o6 => k_is); (case x_i1 => k_is); (case x_i2 => k_is); (case x_i3 => k_is); (case x_i4 => k_is); (case x_i5 => kit_is))
    (case s_coll => refine' Sl.incls_of ?n ?i ?l ?c ?k; (case n => k_is); (case i => k_is); (case l => k_is); (case c => k_is); (case k => k_is))
    (case s_lim => refine' Sl.incls_of ?n ?i ?l ?c ?k; (case n => k_is); (case i => k_is); (case l => k_is); (case c => k_is); (case k => k_is))
    (case s_ends => refine' Sl.incls_of ?n ?i ?l ?c ?k; (case n => k_is); (case i => k_is); (case l => k_is); (case c => k_is); (case k => k_is))
    (case s_move => refine' Sl.incls_of ?n ?i ?l ?c ?k; (case n => k_is); (case i => k_is); (case l => k_is); (case c => k_is); (case k => k_is))
    (case s_movs => refine' Sl.incls_of ?n ?i ?l ?c ?k; (case n => k_is); (case i => k_is); (case l => k_is); (case c => k_is); (case k => k_is))
    (case s_pgs => refine' Sl.incls_of ?n ?i ?l ?c ?k; (case n => k_is); (case i => k_is); (case l => k_is); (case c => k_is); (case k => k_is))
    (case s_txs => refine' Sl.incls_of ?n ?i ?l ?c ?k; (case n => k_is); (case i => k_is); (case l => k_is); (case c => k_is); (case k => k_is))
    (case s_mks => refine' Sl.incls_of ?n ?i ?l ?c ?k; (case n => k_is); (case i => k_is); (case l => k_is); (case c => k_is); (case k => k_is))
    (case s_len => refine' Sl.incls_of ?n ?i ?l ?c ?k; (case n => k_is); (case i => k_is); (case l => k_is); (case c => k_is); (case k => k_is))
    (case s_has => refine' Sl.incls_of ?n ?i ?l ?c ?k; (case n => k_is); (case i => k_is); (case l => k_is); (case c => k_is); (case k => k_is))
    (case s_start => refine' Sl.inprop_of ?n ?g ?t ?r ?l ?c ?k; (case n => k_is); (case g => k_is); (case t => k_is); (case r => k_is); (case l => k_is); (case c => k_is); (case k => k_is))
    (case c8 => k_is)
    (case c6 => k_is)
    (case c4 => k_is)
    (case c7 => k_is)
    (case z_isinstance => k_is)
    (case z_int => k_is)
    (case z_bool => k_is)
    (case z_list => k_is)
    (case z_tuple => k_is)
    (case z_len => k_is)
    (case z_all => k_is)
    (case z_set => k_is)
    (case z_str => k_is)
    (case z_dict => k_is)
    (case z_sorted => k_is)
    (case z_enumerate => k_is)
    (case z_divmod => k_is)
    (case z_range => k_is)
    (case z_max => k_is)
    (case z_min => k_is)
    (case z_abs => k_is)
    (case z_repr => k_is)
#print axioms PySem.Challenge.cw_sealedslots_k11_readers_as_made_holds
