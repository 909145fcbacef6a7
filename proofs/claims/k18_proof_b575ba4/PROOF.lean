import PyProof.Rows.All
import Wide.All
import OpenK.AllK
import Wide.FinOn
import HandS.ForMost
import HandS.Wide
import HandS.WideBits
import HandS.IsInst
import HandS.Zip
import HandS.Walk
import HandS.SetFor
import HandS.More
import PyProof.Draws
import PyProof.EnumMake
import KE.GoesMore
import HandS.Set
import HandS.Strs
import HandS.SetBool
import HandS.SetTxt0
import HandS.DictComp
import HandS.Defaults
import HandS.Property
import HandS.Evl
import PyProof.ListStr
import HandS.NoneIn
import HandS.Exc
import HandS.ExcInit
import KE.KExcSuper
import KE.KSuper
import HandS.Nested
import HandS.RaiseOp
import KE.KExcInit
import HandS.TryMany
import PyProof.ReprRoads
import HandS.RaiseMore
import KE.KEqNest
import HandS.DeepEq
import HandS.Sort
import HandS.Codes
import HandS.OwnEq
import PyProof.InstNe
import HandS.FStr
import PyProof.InstSpecial
import HandS.Text
import PyProof.ReprText
import PyProof.EqKinds
import HandS.ListItems
import HandS.MakeKw
import HandS.MakeKwOnly
import HandS.Star
import HandS.ClsMeth
import HandS.Finally
import HandS.Style
import KE.KEqDict
import HandS.WordsExc
import HandS.AnyAll
import HandS.Ends
import OpenK.XHead
import PySem.Challenge.RW_sealedslots_k18_equal_readers_and_repr
/-! ## D1 -/
set_option Elab.async false
set_option linter.all false
set_option maxRecDepth 100000
set_option maxHeartbeats 4000000
namespace Sl
open PySem PySem.Spec PyProof.Rows L2
def top (i : Nat) : Stmt := PySem.Challenge.pw_sealedslots_k18_equal_readers_and_repr.main.body.getD i (.Pass ⟨0, 0, 0, 0⟩)
abbrev sDraw : Stmt := top 25
abbrev sRng : Stmt := top 24
abbrev sChoice : Stmt := top 26
/-! ### the draws -/
/-- what a drawing object looks like: its digits that are left, its state -/
structure Rng (H : Hp) (a : Addr) : Prop where
  ex : ∃ x y : Int, H a = some (.lst [.int x, .int y]) ∧ 0 ≤ x ∧ 0 ≤ y ∧ y < 2147483648
/-- all stands as it was but what is at a -/
def Keep (a : Addr) (H H' : Hp) : Prop := ∀ b o, H b = some o → b ≠ a → H' b = some o
theorem Keep.refl (a : Addr) (H : Hp) : Keep a H H := fun _ _ h _ => h
theorem Keep.trans {a : Addr} {H H1 H2 : Hp} (h : Keep a H H1) (h' : Keep a H1 H2) : Keep a H H2 := fun b o e n => h' b o (h b o e n) n
theorem Keep.new {a p : Addr} {H : Hp} {o : HO} (h : H p = none) : Keep a H (upd H p o) := fun b u e _ => by
  rw [upd_ne (ne_of_none e h)]
  exact e
theorem Keep.at_ {a : Addr} {H : Hp} {o : HO} : Keep a H (upd H a o) := fun b u e n => by
  rw [upd_ne n]
  exact e
/-- the draw's promise: a number below many -/
def spDraw : Sp := fun vs H Q _ => ∃ (a : Addr) (m : Int), vs = [.ref a, .int m] ∧ Rng H a ∧ 0 < m ∧ m < 1073741824 ∧
  ∀ (d : Int) (H' : Hp), 0 ≤ d → d < m → Rng H' a → Keep a H H' → Q (.int d) H'
section
variable {P : Program} {w : World} {K : PySem.W.Frag} {mg : Str → Option Value} {base : Heap}
theorem scDraw : FnScope ["_law_rng_here", "_law_many", "_law_digit"] ["_law_rng_here", "_law_many"] (defScope sDraw) := ⟨rfl, rfl, rfl, by decide +kernel, rfl, by decide +kernel, by decide +kernel⟩
theorem ok_draw {f : Addr} {fd : FuncData} (F : Fun K "_law_draw" "_law_draw" sDraw f fd) (zd : mg "divmod" = none) (zi : mg "int" = none) :
    FnOk P w K mg base CX0 1 f fd ["_law_rng_here", "_law_many"] spDraw := by
  refine F.ok scDraw (fun vs H Q E h => ?_) (fun cdv A outer s H vs Q E hr h => ?_)
  · obtain ⟨a, m, rfl, _⟩ := h
    rfl
  · obtain ⟨a, m, rfl, ⟨x, y, h0, hx, hy, hy2⟩, hm, hm2, k⟩ := h
    refine ⟨_, pss_cons (ps_if (pt_cmpR op_gt (pe_ix ix_list (pv 0) pe_int (fun _ _ => rfl)) pe_int (nomark _))
        (pss_cons (ps_asg (pe_callB call_divmodW (by rfl) zd (by decide +kernel) (pa_cons (pe_ix ix_list (pv 0) pe_int (fun _ _ => rfl)) (pa_cons (pv 1) pa_nil)))
          (pg_tup (by rfl) (pgs_cons (pg_sub (pv 0) pe_int set_list) (pgs_cons (pg_name (i := 2) scDraw.nd rfl (.inl rfl)) pgs_nil))))
          (pss_one (ps_ret (pv 2)))) pss_nil)
      (pss_cons (ps_asg (pe_op op_mod (pe_callTy call_int1 (by rfl) zi (by decide +kernel) (pa_cons (pe_op op_add (pe_op op_mul (pe_ix ix_list (pv 0) pe_int (fun _ _ => rfl)) pe_int) pe_int) pa_nil)) pe_int) (pg_sub (pv 0) pe_int set_list))
      (pss_one (ps_ret (pe_op op_mod (pe_op op_fdiv (pe_op op_mod (pe_callTy call_int1 (by rfl) zi (by decide +kernel) (pa_cons (pe_op op_mul (pe_ix ix_list (pv 0) pe_int (fun _ _ => rfl)) (pe_ix ix_list (pv 0) pe_int (fun _ _ => rfl))) pa_nil)) pe_int) pe_int) (pv 1))))), ?_⟩
    refine ⟨_, rfl, a, [.int x, .int y], _, .int x, rfl, rfl, SqL.of h0, atI_nat (j := 0) rfl, _, _, rfl, rfl, _, rfl, ?_⟩
    refine ite2 (fun c => ?_) (fun c => ?_)
    · refine ⟨_, rfl, a, [.int x, .int y], _, .int x, rfl, rfl, SqL.of h0, atI_nat (j := 0) rfl, _, rfl, _, _, rfl, ⟨hm, PyProof.noPylong_small (by omega)⟩, fun p hp => ?_⟩
      have npa : a ≠ p := ne_of_none h0 hp
      refine ⟨p, _, rfl, SqT.of upd_same, rfl, _, _, rfl, ?_⟩
      refine ⟨_, rfl, a, [.int x, .int y], _, 0, rfl, rfl, (by rw [upd_ne npa]; exact h0), rfl, ?_⟩
      refine ⟨_, _, rfl, rfl, _, rfl, ?_⟩
      refine k (x % m) _ (Int.emod_nonneg _ (by omega)) (Int.emod_lt_of_pos _ hm) ⟨x / m, y, upd_same, Int.ediv_nonneg hx (by omega), hy, hy2⟩ ((Keep.new hp).trans Keep.at_)
    · have hz : (0 : Int) < 2147483563 := by decide
      refine ⟨_, rfl, a, [.int x, .int y], _, .int y, rfl, rfl, SqL.of h0, atI_nat (j := 1) rfl, _, _, rfl, rfl, .inr ⟨by decide, by decide⟩, _, _, rfl, rfl, .inl ⟨_, rfl, ?_⟩⟩
      refine ⟨_, _, rfl, rfl, hz, _, rfl, a, _, _, 1, rfl, rfl, h0, rfl, ?_⟩
      obtain ⟨z, ez, b0, b1⟩ : ∃ z, z = (y * 39373 + 30011) % 2147483563 ∧ 0 ≤ z ∧ z < 2147483563 := ⟨_, rfl, Int.emod_nonneg _ (by decide), Int.emod_lt_of_pos _ hz⟩
      have h1 : upd H a (.lst [V.int x, V.int ((y * 39373 + 30011) % 2147483563)]) a = some (.lst [V.int x, V.int z]) := by
        rw [ez]
        exact upd_same
      refine ⟨_, rfl, a, [.int x, .int z], _, .int z, rfl, rfl, SqL.of h1, atI_nat (j := 1) rfl, _, rfl, a, [.int x, .int z], _, .int z, rfl, rfl, SqL.of h1, atI_nat (j := 1) rfl, _, _, rfl, rfl, .inl ⟨by omega, by omega⟩, .inl ⟨_, rfl, ?_⟩⟩
      refine ⟨_, _, rfl, rfl, (by show (0 : Int) < 2147483497; decide), _, _, rfl, rfl, ⟨by decide, by decide⟩, _, rfl, _, _, rfl, rfl, hm, ?_⟩
      exact k _ _ (Int.emod_nonneg _ (by omega)) (Int.emod_lt_of_pos _ hm) ⟨x, z, h1, hx, b0, by omega⟩ Keep.at_
end
end Sl
/-! ## P1 -/
set_option Elab.async false
set_option linter.all false
set_option maxRecDepth 100000
set_option maxHeartbeats 4000000
namespace Sl
open PySem PySem.Spec PyProof.Rows L2
abbrev sIsInt : Stmt := top 5
abbrev sBelow : Stmt := top 6
abbrev sHasLen : Stmt := top 9
/-! ### the kinds of values -/
inductive Kd
  | non | bl | int | str | lst | tup | dct
def Kd.nm : Kd → String
  | .non => "NoneType" | .bl => "bool" | .int => "int" | .str => "str" | .lst => "list" | .tup => "tuple" | .dct => "dict"
/-- the value's kind -/
def Is (K : PySem.W.Frag) (H : Hp) (x : V) (k : Kd) : Prop := TyX K H x (.type k.nm)
def Kd.num : Kd → Bool
  | .int => true
  | _ => false
def spIsInt (K : PySem.W.Frag) : Sp := fun vs H Q _ => ∃ (x : V) (k : Kd), vs = [x] ∧ Is K H x k ∧ Q (.bl k.num) H
section
variable {P : Program} {w : World} {K : PySem.W.Frag} {mg : Str → Option Value} {base : Heap}
theorem rel_ty (n : String) : RelV (.ty n) (.type n) := rfl
theorem scIsInt : FnScope ["value"] ["value"] (defScope sIsInt) := ⟨rfl, rfl, rfl, by decide +kernel, rfl, by decide +kernel, by decide +kernel⟩
theorem ok_isint {f : Addr} {fd : FuncData} (F : Fun K "is_integer" "is_integer" sIsInt f fd) (zz : mg "isinstance" = none) (zi : mg "int" = none) (zb : mg "bool" = none) : FnOk P w K mg base CX0 1 f fd ["value"] (spIsInt K) := by
  refine F.ok scIsInt (fun vs H Q E h => ?_) (fun cdv A outer s H vs Q E hr h => ?_)
  · obtain ⟨x, k, rfl, _⟩ := h
    rfl
  · obtain ⟨x, k, rfl, hk, q⟩ := h
    refine ⟨_, pss_one (ps_ret (pe_and (pe_callB call_isi (by rfl) zz (by decide +kernel) (pa_cons (pv 0) (pa_cons (pe_bltn (by rfl) zi (by decide +kernel) (rel_ty "int")) pa_nil)))
      (pe_one (pe_not (pe_callB call_isi (by rfl) zz (by decide +kernel) (pa_cons (pv 0) (pa_cons (pe_bltn (by rfl) zb (by decide +kernel) (rel_ty "bool")) pa_nil))))))), ?_⟩
    cases k with
    | int => exact ⟨_, rfl, _, _, _, _, true, rfl, .ty _, hk, kit_ty (by decide +kernel), true, rfl, _, rfl, _, _, _, _, false, rfl, .ty _, hk, kit_ty (by decide +kernel), _, rfl, q⟩
    | bl => exact ⟨_, rfl, _, _, _, _, true, rfl, .ty _, hk, kit_ty (by decide +kernel), true, rfl, _, rfl, _, _, _, _, true, rfl, .ty _, hk, kit_ty (by decide +kernel), _, rfl, q⟩
    | _ => exact ⟨_, rfl, _, _, _, _, false, rfl, .ty _, hk, kit_ty (by decide +kernel), false, rfl, q⟩
end
end Sl
/-! ## P2 -/
set_option Elab.async false
set_option linter.all false
set_option maxRecDepth 100000
set_option maxHeartbeats 4000000
namespace Sl
open PySem PySem.Spec PyProof.Rows L2
/-- a def stands at its name: its parameters, its defaults -/
structure At (K : PySem.W.Frag) (mg : Str → Option Value) (x : Str) (f : Addr) (fd : FuncData) (ps : List Str) (ds : List Value) : Prop where
  g : mg x = some (.ref f)
  kp : PySem.W.keepIn K (.ref f) = true
  b : Binds K fd ps ds
def below (x : V) (n : Int) : Bool := match x with
  | .int i => decide (0 ≤ i) && decide (i < n)
  | _ => false
/-- a value of a kind: ints are the V's ints -/
def Val (K : PySem.W.Frag) (H : Hp) (x : V) : Prop := (∃ i, x = .int i) ∨ ((∀ i, x ≠ .int i) ∧ ∃ k : Kd, k.num = false ∧ Is K H x k)
theorem Val.kd {K : PySem.W.Frag} {H : Hp} {x : V} (h : Val K H x) : ∃ k, Is K H x k := by
  rcases h with ⟨i, rfl⟩ | ⟨_, k, _, e⟩
  · exact ⟨.int, .base (.int i)⟩
  · exact ⟨k, e⟩
def spBelow (K : PySem.W.Frag) : Sp := fun vs H Q _ => ∃ (x : V) (n : Int), vs = [x, .int n] ∧ Val K H x ∧ Q (.bl (below x n)) H
def spHasLen (K : PySem.W.Frag) : Sp := fun vs H Q _ => ∃ (a : Addr) (xs : List V) (m n : Int), vs = [.ref a, .int m, .int n] ∧ (H a = some (.lst xs) ∨ H a = some (.tup xs)) ∧
  ∀ H', (∀ b o, H b = some o → H' b = some o) → Q (.bl (decide (m ≤ xs.length) && decide ((xs.length : Int) ≤ n))) H'
section
variable {P : Program} {w : World} {K : PySem.W.Frag} {mg : Str → Option Value} {base : Heap}
theorem scBelow : FnScope ["value", "limit"] ["value", "limit"] (defScope sBelow) := ⟨rfl, rfl, rfl, by decide +kernel, rfl, by decide +kernel, by decide +kernel⟩
theorem ok_below {f fI : Addr} {fd fdI : FuncData} (F : Fun K "is_below" "is_below" sBelow f fd) (aI : At K mg "is_integer" fI fdI ["value"] []) (gI : FnOk P w K mg base CX0 1 fI fdI ["value"] (spIsInt K)) :
    FnOk P w K mg base CX0 2 f fd ["value", "limit"] (spBelow K) := by
  refine F.ok scBelow (fun vs H Q E h => ?_) (fun cdv A outer s H vs Q E hr h => ?_)
  · obtain ⟨x, n, rfl, _⟩ := h
    rfl
  · obtain ⟨x, n, rfl, hk, q⟩ := h
    refine ⟨_, pss_one (ps_ret (pe_and (pe_call gI hr (by rfl) aI.g aI.kp aI.b .nil pass0 (pa_cons (pv 0) pa_nil)) (pe_one (pe_chain op_le op_lt pe_int (pv 0) (pv 1))))), ?_⟩
    rcases hk with ⟨i, rfl⟩ | ⟨hn, k, ek, ik⟩
    · refine ⟨_, rfl, _, .int, rfl, .base (.int i), true, rfl, ?_⟩
      refine ⟨_, rfl, _, _, rfl, rfl, _, rfl, ?_⟩
      have e : below (.int i) n = (decide (0 ≤ i) && decide (i < n)) := rfl
      rw [e] at q
      by_cases c : 0 ≤ i
      · simp only [c, decide_true, Bool.true_and, if_true] at q ⊢
        exact ⟨_, rfl, _, _, rfl, rfl, q⟩
      · simp only [c, decide_false, Bool.false_and, Bool.false_eq_true, if_false] at q ⊢
        exact q
    · refine ⟨_, rfl, _, k, rfl, ik, false, by rw [ek], ?_⟩
      have e : below x n = false := by
        cases x with
        | int i => exact absurd rfl (hn i)
        | _ => rfl
      rw [e] at q
      exact q
theorem scHasLen : FnScope ["value", "least", "most"] ["value", "least", "most"] (defScope sHasLen) := ⟨rfl, rfl, rfl, by decide +kernel, rfl, by decide +kernel, by decide +kernel⟩
theorem ok_haslen {f : Addr} {fd : FuncData} (F : Fun K "has_length" "has_length" sHasLen f fd) (zz : mg "isinstance" = none) (zl : mg "list" = none) (zt : mg "tuple" = none) (zn : mg "len" = none) :
    FnOk P w K mg base CX0 1 f fd ["value", "least", "most"] (spHasLen K) := by
  refine F.ok scHasLen (fun vs H Q E h => ?_) (fun cdv A outer s H vs Q E hr h => ?_)
  · obtain ⟨a, xs, m, n, rfl, _⟩ := h
    rfl
  · obtain ⟨a, xs, m, n, rfl, ha, q⟩ := h
    refine ⟨_, pss_one (ps_ret (pe_and (pe_callB call_isiT (by rfl) zz (by decide +kernel) (pa_cons (pv 0) (pa_cons (pe_tup (pa_cons (pe_bltn (by rfl) zl (by decide +kernel) (rel_ty "list")) (pa_cons (pe_bltn (by rfl) zt (by decide +kernel) (rel_ty "tuple")) pa_nil))) pa_nil)))
      (pe_one (pe_chain op_le op_le (pv 1) (pe_callB call_len_seq (by rfl) zn PySem.boot_len (pa_cons (pv 0) pa_nil)) (pv 2))))), ?_⟩
    refine ⟨_, rfl, (by show 2 ≤ sizeLine; decide), fun p hp => ?_⟩
    have npa : ∀ o, H a = some o → a ≠ p := fun o e => ne_of_none e hp
    have same : ∀ b o, H b = some o → upd H p (.tup [.ty "list", .ty "tuple"]) b = some o := fun b o e => by
      rw [upd_ne (ne_of_none e hp)]
      exact e
    obtain ⟨t, hb, it, hs⟩ : ∃ t : Kd, PySem.W.kitAny K (.type t.nm) [.type "list", .type "tuple"] = some true ∧ Is K (upd H p (.tup [.ty "list", .ty "tuple"])) (.ref a) t ∧ (SqL K (upd H p (.tup [.ty "list", .ty "tuple"])) a xs ∨ SqT K (upd H p (.tup [.ty "list", .ty "tuple"])) a xs) := by
      rcases ha with ha | ha
      · exact ⟨.lst, by first | rfl | decide +kernel, .base (.lst (same _ _ ha)), .inl (SqL.of (same _ _ ha))⟩
      · exact ⟨.tup, by first | rfl | decide +kernel, .base (.tup (same _ _ ha)), .inr (SqT.of (same _ _ ha))⟩
    refine ⟨_, p, _, _, _, true, rfl, upd_same, .cons (.ty _) (.cons (.ty _) .nil), it, hb, true, rfl, _, rfl, _, rfl, _, _, rfl, hs, _, _, rfl, rfl, _, rfl, ?_⟩
    have q' := q _ same
    by_cases c : m ≤ xs.length
    · simp only [c, decide_true, Bool.true_and, if_true] at q' ⊢
      exact ⟨_, rfl, _, _, rfl, rfl, q'⟩
    · simp only [c, decide_false, Bool.false_and, Bool.false_eq_true, if_false] at q' ⊢
      exact q'
end
end Sl
/-! ## P3 -/
set_option Elab.async false
set_option linter.all false
set_option maxRecDepth 100000
set_option maxHeartbeats 4000000
namespace Sl
open PySem PySem.Spec PyProof.Rows L2
abbrev sAreStates : Stmt := top 8
abbrev sIsWord : Stmt := top 17
/-- states of something with so many: a list of different numbers below it -/
def spAreStates : Sp := fun vs H Q _ => ∃ (a : Addr) (ns : List Int) (n : Int), vs = [.ref a, .int n] ∧ H a = some (.lst (ns.map V.int)) ∧ ns.length < 64 ∧ ns.Nodup ∧ (∀ i ∈ ns, 0 ≤ i ∧ i < n) ∧
  ∀ H', (∀ b o, H b = some o → H' b = some o) → Q (.bl true) H'
theorem at_map {α : Type} {f : α → V} {l : List α} {i : Nat} {x : V} (h : (l.map f)[i]? = some x) : ∃ z, l[i]? = some z ∧ x = f z := by
  rw [List.getElem?_map] at h
  cases e : l[i]? with
  | none => rw [e] at h; cases h
  | some z => rw [e] at h; exact ⟨z, rfl, (Option.some.inj h).symm⟩
theorem take_more {α : Type} {l : List α} {i : Nat} {x : α} (h : l[i]? = some x) : l.take (i + 1) = l.take i ++ [x] := by rw [List.take_add_one, h]; rfl
theorem one_lt (c d : Nat) : (!decide ([c] < [d])) = decide (d ≤ c) := by
  by_cases h : d ≤ c
  · have n : ¬ [c] < [d] := by
      rw [List.cons_lt_cons_iff]
      rintro (k | ⟨_, k⟩)
      · omega
      · exact absurd k (by simp)
    rw [decide_eq_true h, decide_eq_false n]
    rfl
  · have n : [c] < [d] := by
      rw [List.cons_lt_cons_iff]
      exact .inl (by omega)
    rw [decide_eq_false h, decide_eq_true n]
    rfl
theorem cmp_a (c : Nat) : (!decide ((⟨#[c]⟩ : Str).cps.toList < ("a" : Str).cps.toList)) = decide (97 ≤ c) := one_lt c 97
theorem cmp_z (c : Nat) : (!decide (("z" : Str).cps.toList < (⟨#[c]⟩ : Str).cps.toList)) = decide (c ≤ 122) := one_lt 122 c
/-- the code points of a to z -/
def lowC (c : Nat) : Bool := decide (97 ≤ c) && decide (c ≤ 122)
def isWordS (z : Str) : Bool := z.cps.toList.all lowC
/-- a text is judged by its signs, any other value is none -/
def spIsWord (K : PySem.W.Frag) : Sp := fun vs H Q _ => ∃ x, vs = [x] ∧ ((∃ z : Str, x = .str z ∧ z.length ≤ 10000 ∧ ∀ H', (∀ b o, H b = some o → H' b = some o) → Q (.bl (isWordS z)) H') ∨ (∃ k : Kd, Is K H x k ∧ k ≠ .str ∧ Q (.bl false) H))
section
variable {P : Program} {w : World} {K : PySem.W.Frag} {mg : Str → Option Value} {base : Heap}
theorem scAreStates : FnScope ["value", "many", "state"] ["value", "many"] (defScope sAreStates) := ⟨rfl, rfl, rfl, by decide +kernel, rfl, by decide +kernel, by decide +kernel⟩
theorem ok_arestates {f fB : Addr} {fd fdB : FuncData} (F : Fun K "are_states" "are_states" sAreStates f fd) (aB : At K mg "is_below" fB fdB ["value", "limit"] []) (gB : FnOk P w K mg base CX0 2 fB fdB ["value", "limit"] (spBelow K))
    (zz : mg "isinstance" = none) (zl : mg "list" = none) (zt : mg "tuple" = none) (zn : mg "len" = none) (za : mg "all" = none) (zs : mg "set" = none) :
    FnOk P w K mg base CX0 3 f fd ["value", "many"] spAreStates := by
  refine F.ok scAreStates (fun vs H Q E h => ?_) (fun cdv A outer s H vs Q E hr h => ?_)
  · obtain ⟨a, ns, n, rfl, _⟩ := h
    rfl
  · obtain ⟨a, ns, n, rfl, ha, hl, nd, hns, q⟩ := h
    refine ⟨_, pss_cons (ps_if (pt_not (pt_val (pe_callB call_isiT (by rfl) zz (by decide +kernel) (pa_cons (pv 0) (pa_cons (pe_tup (pa_cons (pe_bltn (by rfl) zl (by decide +kernel) (rel_ty "list")) (pa_cons (pe_bltn (by rfl) zt (by decide +kernel) (rel_ty "tuple")) pa_nil))) pa_nil))))) (pss_one (ps_ret pe_bl)) pss_nil)
      (pss_cons (ps_if (pt_not (pt_val (pe_callB (cr_all rfl) (by rfl) za (by decide +kernel) (pa_cons (pe_lc (own := [("state", 2)]) (g := gName 2) (tt := tYes) rfl scAreStates.nd (pi_list (pv 0)) (blkOk_by (N := ["value", "many", "state"]) (sc := defScope sAreStates) (by decide +kernel))
          (fun _ _ _ _ _ => pg_name (i := 2) scAreStates.nd rfl (Or.inl rfl)) (fun _ _ _ _ _ => pts_nil) (fun _ _ _ _ _ => pe_call gB hr (by rfl) aB.g aB.kp aB.b .nil pass0 (pa_cons (pv 2) (pa_cons (pv 1) pa_nil)))) pa_nil)))) (pss_one (ps_ret pe_bl)) pss_nil)
      (pss_one (ps_ret (pe_cmpR op_eq (RZ.pe_lenSetI (by rfl) zn (by rfl) zs (pv 0)) (pe_callB call_len_seq (by rfl) zn PySem.boot_len (pa_cons (pv 0) pa_nil)) (nomark _))))), ?_⟩
    refine ⟨_, rfl, (by show 2 ≤ sizeLine; decide), fun p hp => ?_⟩
    have same : ∀ b o, H b = some o → upd H p (.tup [.ty "list", .ty "tuple"]) b = some o := fun b o e => by
      rw [upd_ne (ne_of_none e hp)]
      exact e
    refine ⟨_, p, _, .type "list", _, true, rfl, upd_same, .cons (.ty _) (.cons (.ty _) .nil), .base (.lst (same _ _ ha)), (by first | rfl | decide +kernel), true, rfl, ?_⟩
    refine iteF ?_
    generalize upd H p (.tup [.ty "list", .ty "tuple"]) = H1 at same
    refine ⟨_, rfl, a, rfl, ⟨_, SqL.of (same _ _ ha)⟩, fun D hD => ?_⟩
    have naD : ∀ b o, H b = some o → b ≠ D := fun b o e => ne_of_none (same b o e) hD
    refine lc_list (K := K) (a := a) (xs := ns.map V.int) (fun i H' => (∀ b o, H b = some o → H' b = some o) ∧ H' D = some (.lst ((List.replicate i true).map V.bl))) ⟨fun b o e => by rw [upd_ne (naD b o e)]; exact same b o e, upd_same⟩ (fun i H' _ h => SqL.of (h.1 _ _ ha)) ?_ ?_
    · rintro i x H' hi ⟨h1, h2⟩
      obtain ⟨z, hz, rfl⟩ := at_map hi
      have hil : i < ns.length := (List.getElem?_eq_some_iff.mp hz).1
      have hb := hns z (List.mem_of_getElem? hz)
      refine ⟨rfl, ?_⟩
      refine ⟨_, rfl, _, rfl, .int z, n, rfl, .inl ⟨z, rfl⟩, ?_⟩
      have e : below (.int z) n = true := by
        unfold below
        simp [hb.1, hb.2]
      rw [e]
      refine ⟨_, h2, by rw [List.length_map, List.length_replicate]; exact small1000 (by omega), fun b o e => by rw [upd_ne (naD b o e)]; exact h1 b o e, ?_⟩
      rw [upd_same, List.replicate_succ', List.map_append]
      rfl
    · rintro H' ⟨h1, h2⟩
      refine ⟨D, List.replicate (ns.map V.int).length true, rfl, SqL.of h2, true, by simp, ?_⟩
      refine iteF ?_
      refine ⟨_, rfl, a, ns, rfl, SqL.of (h1 _ _ ha), nd, (by omega), _, rfl, a, _, rfl, .inl (SqL.of (h1 _ _ ha)), ?_⟩
      have e : decide (V.int (ns.length : Nat) = V.int ((ns.map V.int).length : Nat)) = true := by
        rw [List.length_map]
        simp
      have q' := q _ h1
      rw [← e] at q'
      exact ⟨rfl, q'⟩
theorem scIsWord : FnScope ["value", "sign"] ["value"] (defScope sIsWord) := ⟨rfl, rfl, rfl, by decide +kernel, rfl, by decide +kernel, by decide +kernel⟩
theorem ok_isword {f : Addr} {fd : FuncData} (F : Fun K "is_word" "is_word" sIsWord f fd) (zz : mg "isinstance" = none) (zs : mg "str" = none) (za : mg "all" = none) :
    FnOk P w K mg base CX0 1 f fd ["value"] (spIsWord K) := by
  refine F.ok scIsWord (fun vs H Q E h => ?_) (fun cdv A outer s H vs Q E hr h => ?_)
  · obtain ⟨x, rfl, _⟩ := h
    rfl
  · obtain ⟨x, rfl, hx⟩ := h
    refine ⟨_, pss_one (ps_ret (pe_and (pe_callB call_isi (by rfl) zz (by decide +kernel) (pa_cons (pv 0) (pa_cons (pe_bltn (by rfl) zs (by decide +kernel) (rel_ty "str")) pa_nil)))
      (pe_one (pe_callB (cr_all rfl) (by rfl) za (by decide +kernel) (pa_cons (pe_lc (own := [("sign", 1)]) (g := gName 1) (tt := tYes) rfl scIsWord.nd (pi_str (pv 0)) (blkOk_by (N := ["value", "sign"]) (sc := defScope sIsWord) (by decide +kernel))
          (fun _ _ _ _ _ => pg_name (i := 1) scIsWord.nd rfl (Or.inl rfl)) (fun _ _ _ _ _ => pts_nil) (fun _ _ _ _ _ => pe_chain op_le_str op_le_str pe_str (pv 1) pe_str)) pa_nil))))), ?_⟩
    rcases hx with ⟨z, rfl, hz, q⟩ | ⟨k, ik, nk, q⟩
    · refine ⟨_, rfl, _, _, _, _, true, rfl, .ty _, .base (.str z), kit_ty (by decide +kernel), true, rfl, ?_⟩
      refine ⟨_, rfl, z, rfl, fun D hD => ?_⟩
      have zl : z.cps.size ≤ 10000 := hz
      refine lc_it walk_str (fun i H' => (∀ b o, H b = some o → H' b = some o) ∧ H' D = some (.lst ((z.cps.toList.take i).map fun c => V.bl (lowC c)))) ⟨fun b o e => by rw [upd_ne (ne_of_none e hD)]; exact e, upd_same⟩ (fun _ _ _ _ => trivial) ?_ ?_
      · rintro i x H1 H' hi ⟨h1, h2⟩ ⟨rfl, c, hc, rfl⟩
        refine ⟨rfl, _, rfl, _, _, rfl, rfl, _, rfl, ?_⟩
        have put : ∃ acc, H' D = some (.lst acc) ∧ acc.length < sizeLine ∧ ((∀ b o, H b = some o → (upd H' D (.lst (acc ++ [.bl (lowC c)]))) b = some o) ∧ (upd H' D (.lst (acc ++ [.bl (lowC c)]))) D = some (.lst ((z.cps.toList.take (i + 1)).map fun c => V.bl (lowC c)))) := by
          refine ⟨_, h2, ?_, fun b o e => by rw [upd_ne (ne_of_none e hD)]; exact h1 b o e, ?_⟩
          · rw [List.length_map, List.length_take, Array.length_toList, sizeLine_eq]
            omega
          · have hc' : z.cps.toList[i]? = some c := by
              rw [Array.getElem?_toList]
              exact hc
            rw [upd_same, take_more hc', List.map_append]
            rfl
        rw [cmp_a c]
        by_cases c1 : 97 ≤ c
        · rw [if_pos (decide_eq_true c1)]
          refine ⟨_, _, rfl, rfl, ?_⟩
          rw [cmp_z c]
          have e : decide (c ≤ 122) = lowC c := by
            unfold lowC
            rw [decide_eq_true c1, Bool.true_and]
          rw [e]
          exact put
        · rw [if_neg (by rw [decide_eq_false c1]; exact Bool.false_ne_true)]
          have e : false = lowC c := by
            unfold lowC
            rw [decide_eq_false c1, Bool.false_and]
          rw [e]
          exact put
      · rintro H' ⟨h1, h2⟩
        have e : List.take z.cps.size z.cps.toList = z.cps.toList := by
          rw [← Array.length_toList, List.take_length]
        rw [e] at h2
        refine ⟨D, z.cps.toList.map lowC, rfl, SqL.of (by rw [List.map_map]; exact h2), ?_⟩
        have e2 : (z.cps.toList.map lowC).all id = isWordS z := by
          unfold isWordS
          rw [List.all_map]
          rfl
        rw [e2]
        exact q _ h1
    · have e : PySem.W.kitOne K (.type k.nm) (.type "str") = some false := by
        cases k with
        | str => exact absurd rfl nk
        | _ => exact kit_ty (by decide +kernel)
      exact ⟨_, rfl, _, _, _, _, false, rfl, .ty _, ik, e, false, rfl, q⟩
end
end Sl
/-! ## P4 -/
set_option Elab.async false
set_option linter.all false
set_option maxRecDepth 100000
set_option maxHeartbeats 4000000
namespace Sl
open PySem PySem.Spec PyProof.Rows L2
abbrev sIsSign : Stmt := top 15
abbrev sIsMark : Stmt := top 16
abbrev sIsName : Stmt := top 18
abbrev sIsMove : Stmt := top 19
abbrev sIsRow : Stmt := top 20
/-- what stood stands -/
abbrev Ext (H H' : Hp) : Prop := ∀ b o, H b = some o → H' b = some o
theorem Ext.refl (H : Hp) : Ext H H := fun _ _ h => h
theorem Ext.trans {H H1 H2 : Hp} (h : Ext H H1) (h' : Ext H1 H2) : Ext H H2 := fun b o e => h' b o (h b o e)
theorem Ext.new {H : Hp} {p : Addr} {o : HO} (h : H p = none) : Ext H (upd H p o) := fun b u e => by
  rw [upd_ne (ne_of_none e h)]
  exact e
theorem Ext.free {H H' : Hp} {p : Addr} (h : Ext H H') (n : H' p = none) : H p = none := by
  cases e : H p with
  | none => rfl
  | some o =>
    rw [h p o e] at n
    cases n
def nameS (z : Str) : Bool := isWordS z && (decide (1 ≤ z.length) && decide (z.length ≤ 8))
def signS (z : Str) : Bool := isWordS z && decide (z.length = 1)
def markS (z : Str) : Bool := nameS z && decide (1 < z.length)
theorem small_size {n : Nat} (h : n ≤ 10000) : n ≤ sizeLine := by
  rw [sizeLine_eq]
  omega
/-- a test of a text -/
def spText (t : Str → Bool) : Sp := fun vs H Q _ => ∃ z : Str, vs = [.str z] ∧ z.length ≤ 10000 ∧ ∀ H', Ext H H' → Q (.bl (t z)) H'
section
variable {P : Program} {w : World} {K : PySem.W.Frag} {mg : Str → Option Value} {base : Heap}
theorem scIsName : FnScope ["value"] ["value"] (defScope sIsName) := ⟨rfl, rfl, rfl, by decide +kernel, rfl, by decide +kernel, by decide +kernel⟩
theorem ok_isname {f fW : Addr} {fd fdW : FuncData} {t8 : Tok} (F : Fun K "is_name" "is_name" sIsName f fd) (aW : At K mg "is_word" fW fdW ["value"] []) (gW : FnOk P w K mg base CX0 1 fW fdW ["value"] (spIsWord K)) (zn : mg "len" = none) (zm : mg "MAX_NAME" = some (.int 8 t8)) :
    FnOk P w K mg base CX0 2 f fd ["value"] (spText nameS) := by
  refine F.ok scIsName (fun vs H Q E h => ?_) (fun cdv A outer s H vs Q E hr h => ?_)
  · obtain ⟨z, rfl, _⟩ := h
    rfl
  · obtain ⟨z, rfl, hz, q⟩ := h
    refine ⟨_, pss_one (ps_ret (pe_and (pe_call gW hr (by rfl) aW.g aW.kp aW.b .nil pass0 (pa_cons (pv 0) pa_nil)) (pe_one (pe_chain op_le op_le pe_int (pe_callB call_len_str (by rfl) zn PySem.boot_len (pa_cons (pv 0) pa_nil)) (pe_glob (v := .int 8) rfl zm ⟨_, rfl⟩))))), ?_⟩
    refine ⟨_, rfl, _, rfl, .inl ⟨z, rfl, hz, fun H' e => ?_⟩⟩
    have q' := q H' e
    unfold nameS at q'
    refine ⟨_, rfl, ?_⟩
    generalize isWordS z = bw at q' ⊢
    cases bw with
    | false => exact q'
    | true =>
      rw [Bool.true_and] at q'
      refine ⟨_, rfl, z, rfl, small_size hz, _, _, rfl, rfl, _, rfl, ?_⟩
      by_cases c : 1 ≤ z.length
      · rw [if_pos (decide_eq_true (by omega))]
        refine ⟨_, _, rfl, rfl, ?_⟩
        rw [decide_eq_true c, Bool.true_and, show decide (z.length ≤ 8) = decide ((z.length : Int) ≤ 8) from decide_eq_decide.mpr (by omega)] at q'
        exact q'
      · rw [if_neg (by rw [decide_eq_false (by omega)]; exact Bool.false_ne_true)]
        rw [decide_eq_false c, Bool.false_and] at q'
        exact q'
theorem scIsSign : FnScope ["value"] ["value"] (defScope sIsSign) := ⟨rfl, rfl, rfl, by decide +kernel, rfl, by decide +kernel, by decide +kernel⟩
theorem ok_issign {f fW : Addr} {fd fdW : FuncData} (F : Fun K "is_sign" "is_sign" sIsSign f fd) (aW : At K mg "is_word" fW fdW ["value"] []) (gW : FnOk P w K mg base CX0 1 fW fdW ["value"] (spIsWord K)) (zn : mg "len" = none) :
    FnOk P w K mg base CX0 2 f fd ["value"] (spText signS) := by
  refine F.ok scIsSign (fun vs H Q E h => ?_) (fun cdv A outer s H vs Q E hr h => ?_)
  · obtain ⟨z, rfl, _⟩ := h
    rfl
  · obtain ⟨z, rfl, hz, q⟩ := h
    refine ⟨_, pss_one (ps_ret (pe_and (pe_call gW hr (by rfl) aW.g aW.kp aW.b .nil pass0 (pa_cons (pv 0) pa_nil)) (pe_one (pe_cmpR op_eq (pe_callB call_len_str (by rfl) zn PySem.boot_len (pa_cons (pv 0) pa_nil)) pe_int (nomark _))))), ?_⟩
    refine ⟨_, rfl, _, rfl, .inl ⟨z, rfl, hz, fun H' e => ?_⟩⟩
    have q' := q H' e
    unfold signS at q'
    refine ⟨_, rfl, ?_⟩
    generalize isWordS z = bw at q' ⊢
    cases bw with
    | false => exact q'
    | true =>
      rw [Bool.true_and] at q'
      refine ⟨_, rfl, z, rfl, small_size hz, rfl, ?_⟩
      rw [show decide (V.int (z.length : Nat) = V.int 1) = decide (z.length = 1) from decide_eq_decide.mpr ⟨fun k => by injection k with k; omega, fun k => by rw [k]; rfl⟩]
      exact q'
theorem scIsMark : FnScope ["value"] ["value"] (defScope sIsMark) := ⟨rfl, rfl, rfl, by decide +kernel, rfl, by decide +kernel, by decide +kernel⟩
theorem ok_ismark {f fW : Addr} {fd fdW : FuncData} (F : Fun K "is_mark" "is_mark" sIsMark f fd) (aW : At K mg "is_name" fW fdW ["value"] []) (gW : FnOk P w K mg base CX0 2 fW fdW ["value"] (spText nameS)) (zn : mg "len" = none) :
    FnOk P w K mg base CX0 3 f fd ["value"] (spText markS) := by
  refine F.ok scIsMark (fun vs H Q E h => ?_) (fun cdv A outer s H vs Q E hr h => ?_)
  · obtain ⟨z, rfl, _⟩ := h
    rfl
  · obtain ⟨z, rfl, hz, q⟩ := h
    refine ⟨_, pss_one (ps_ret (pe_and (pe_call gW hr (by rfl) aW.g aW.kp aW.b .nil pass0 (pa_cons (pv 0) pa_nil)) (pe_one (pe_cmpR op_gt (pe_callB call_len_str (by rfl) zn PySem.boot_len (pa_cons (pv 0) pa_nil)) pe_int (nomark _))))), ?_⟩
    refine ⟨_, rfl, z, rfl, hz, fun H' e => ?_⟩
    have q' := q H' e
    unfold markS at q'
    refine ⟨_, rfl, ?_⟩
    generalize nameS z = bw at q' ⊢
    cases bw with
    | false => exact q'
    | true =>
      rw [Bool.true_and] at q'
      refine ⟨_, rfl, z, rfl, small_size hz, _, _, rfl, rfl, ?_⟩
      rw [show decide (1 < z.length) = decide ((1 : Int) < (z.length : Nat)) from decide_eq_decide.mpr (by omega)] at q'
      exact q'
end
end Sl
/-! ## B1 -/
set_option Elab.async false
set_option linter.all false
set_option maxRecDepth 100000
set_option maxHeartbeats 4000000
/-! ascending lists of texts: two of the same texts are the same -/
namespace Sl
open PySem PySem.Spec PyProof.Rows
theorem cps_irr : ∀ a : List Nat, ltCps a a = false
  | [] => rfl
  | x :: a => by
    show (decide (x < x) || (x == x && ltCps a a)) = false
    rw [cps_irr a]
    simp
theorem cps_anti : ∀ {a b : List Nat}, ltCps a b = false → ltCps b a = false → a = b
  | [], [], _, _ => rfl
  | [], _ :: _, h, _ => by cases h
  | _ :: _, [], _, h => by cases h
  | x :: a, y :: b, h, k => by
    have h : (decide (x < y) || (x == y && ltCps a b)) = false := h
    have k : (decide (y < x) || (y == x && ltCps b a)) = false := k
    simp only [Bool.or_eq_false_iff, decide_eq_false_iff_not, Bool.and_eq_false_iff, beq_eq_false_iff_ne] at h k
    have e : x = y := by omega
    subst e
    rw [cps_anti (h.2.resolve_left fun z => z rfl) (k.2.resolve_left fun z => z rfl)]
theorem cps_trans : ∀ {a b c : List Nat}, ltCps b a = false → ltCps c b = false → ltCps c a = false
  | [], _, [], _, _ => rfl
  | [], [], _ :: _, _, k => by cases k; rfl
  | [], _ :: _, _ :: _, _, _ => rfl
  | _ :: _, [], _, h, _ => by cases h
  | _ :: _, _ :: _, [], _, k => by cases k
  | x :: a, y :: b, z :: c, h, k => by
    have h : (decide (y < x) || (y == x && ltCps b a)) = false := h
    have k : (decide (z < y) || (z == y && ltCps c b)) = false := k
    show (decide (z < x) || (z == x && ltCps c a)) = false
    simp only [Bool.or_eq_false_iff, decide_eq_false_iff_not, Bool.and_eq_false_iff, beq_eq_false_iff_ne] at h k ⊢
    refine ⟨by omega, ?_⟩
    by_cases e : z = x
    · refine .inr ?_
      have e1 : y = x := by omega
      have e2 : z = y := by omega
      exact cps_trans (h.2.resolve_left fun q => q e1) (k.2.resolve_left fun q => q e2)
    · exact .inl e
/-- a is not behind b -/
def leS (a b : Str) : Prop := ltCps b.cps.toList a.cps.toList = false
theorem leS_anti {a b : Str} (h : leS a b) (k : leS b a) : a = b := by
  have e : b.cps.toList = a.cps.toList := cps_anti h k
  have e2 : b.cps = a.cps := Array.toList_inj.mp e
  cases a
  cases b
  cases e2
  rfl
theorem leS_trans {a b c : Str} (h : leS a b) (k : leS b c) : leS a c := cps_trans h k
theorem pair_of_rising : ∀ {l : List Str} {p : Str}, risingS p l = true → (p :: l).Pairwise leS
  | [], p, _ => List.pairwise_singleton _ _
  | x :: l, p, h => by
    have h : (!ltCps x.cps.toList p.cps.toList && risingS x l) = true := h
    obtain ⟨h1, h2⟩ := Bool.and_eq_true_iff.mp h
    have hx : leS p x := by
      unfold leS
      cases e : ltCps x.cps.toList p.cps.toList with
      | false => rfl
      | true =>
        rw [e] at h1
        cases h1
    have ih := pair_of_rising h2
    refine List.pairwise_cons.mpr ⟨fun y hy => ?_, ih⟩
    rcases List.mem_cons.mp hy with rfl | hy
    · exact hx
    · exact leS_trans hx ((List.pairwise_cons.mp ih).1 y hy)
theorem pair_of_sorted : ∀ {l : List Str}, sortedS l = true → l.Pairwise leS
  | [], _ => .nil
  | _ :: _, h => pair_of_rising h
theorem asc_unique {α : Type} {r : α → α → Prop} : ∀ {l m : List α}, (∀ a ∈ l, ∀ b ∈ l, r a b → r b a → a = b) → l.Pairwise r → m.Pairwise r → l.Perm m → l = m
  | [], m, _, _, _, p => (p.symm.eq_nil).symm
  | x :: l, [], _, _, _, p => by cases p.eq_nil
  | x :: l, y :: m, anti, h, k, p => by
    obtain ⟨h1, h2⟩ := List.pairwise_cons.mp h
    obtain ⟨k1, k2⟩ := List.pairwise_cons.mp k
    have e : x = y := by
      have hx : x ∈ y :: m := p.mem_iff.mp List.mem_cons_self
      have hy : y ∈ x :: l := p.mem_iff.mpr List.mem_cons_self
      rcases List.mem_cons.mp hx with q | q
      · exact q
      rcases List.mem_cons.mp hy with q2 | q2
      · exact q2.symm
      exact anti x List.mem_cons_self y (List.mem_cons_of_mem _ q2) (h1 y q2) (k1 x q)
    subst e
    rw [asc_unique (fun a ha b hb => anti a (List.mem_cons_of_mem _ ha) b (List.mem_cons_of_mem _ hb)) h2 k2 ((List.perm_cons x).mp p)]
theorem sorted_unique {l m : List Str} (h : sortedS l = true) (k : sortedS m = true) (p : l.Perm m) : l = m := asc_unique (fun _ _ _ _ => leS_anti) (pair_of_sorted h) (pair_of_sorted k) p
theorem ints_unique {l m : List Int} (h : l.Pairwise (· ≤ ·)) (k : m.Pairwise (· ≤ ·)) (p : l.Perm m) : l = m := asc_unique (fun _ _ _ _ a b => Int.le_antisymm a b) h k p
/-- rows of the same entries by ascending keys are the same -/
theorem row_unique {α : Type} {r l m : List (Str × α)} (nd : (r.map (·.1)).Nodup) (pl : l.Perm r) (pm : m.Perm r) (sl : sortedS (l.map (·.1)) = true) (sm : sortedS (m.map (·.1)) = true) : l = m := by
  have inj : ∀ {q : List (Str × α)}, (q.map (·.1)).Nodup → ∀ a ∈ q, ∀ b ∈ q, a.1 = b.1 → a = b := by
    intro q
    induction q with
    | nil => intro _ a ha; cases ha
    | cons x q ih =>
      intro h a ha b hb e
      obtain ⟨h1, h2⟩ := List.nodup_cons.mp h
      rcases List.mem_cons.mp ha with e1 | ha' <;> rcases List.mem_cons.mp hb with e2 | hb'
      · rw [e1, e2]
      · exact (h1 (List.mem_map.mpr ⟨b, hb', by rw [← e, e1]⟩)).elim
      · exact (h1 (List.mem_map.mpr ⟨a, ha', by rw [e, e2]⟩)).elim
      · exact ih h2 a ha' b hb' e
  have ndl : (l.map (·.1)).Nodup := (pl.map _).nodup_iff.mpr nd
  refine asc_unique (r := fun a b => leS a.1 b.1) (fun a ha b hb h k => inj ndl a ha b hb (leS_anti h k)) ?_ ?_ (pl.trans pm.symm)
  · exact List.pairwise_map.mp (pair_of_sorted sl)
  · exact List.pairwise_map.mp (pair_of_sorted sm)
end Sl
/-! ## B2 -/
set_option Elab.async false
set_option linter.all false
set_option maxRecDepth 100000
set_option maxHeartbeats 4000000
/-! a list or a tuple alike: walked, measured, asked for its kind, its ints as a set -/
namespace Sl
open PySem PySem.Spec PyProof.Rows L2
/-- a list (true) or a tuple (false) of these -/
def SqK (K : PySem.W.Frag) (k : Bool) (H : Hp) (a : Addr) (xs : List V) : Prop := match k with
  | true => SqL K H a xs
  | false => SqT K H a xs
def ItK (K : PySem.W.Frag) (k : Bool) (a : Addr) : It := match k with
  | true => Itl K a
  | false => Itt K a
theorem SqK.or {K : PySem.W.Frag} {k : Bool} {H : Hp} {a : Addr} {xs : List V} (h : SqK K k H a xs) : SqL K H a xs ∨ SqT K H a xs := by
  cases k
  · exact .inr h
  · exact .inl h
theorem SqK.l {K : PySem.W.Frag} {H : Hp} {a : Addr} {xs : List V} (h : H a = some (.lst xs)) : SqK K true H a xs := SqL.of h
theorem SqK.t {K : PySem.W.Frag} {H : Hp} {a : Addr} {xs : List V} (h : H a = some (.tup xs)) : SqK K false H a xs := SqT.of h
theorem rd_ext {H H' : Hp} {a : Addr} {o : HO} (x : Ext H H') (h : Rd H a o) : Rd H' a o := by
  rcases h with h | ⟨ob, h⟩
  · exact .inl (x _ _ h)
  · exact .inr ⟨ob, x _ _ h⟩
theorem SqK.ext {K : PySem.W.Frag} {k : Bool} {H H' : Hp} {a : Addr} {xs : List V} (x : Ext H H') (h : SqK K k H a xs) : SqK K k H' a xs := by
  cases k
  · exact h.elim (fun h => .inl (rd_ext x h)) .inr
  · exact h.elim (fun h => .inl (rd_ext x h)) .inr
theorem SqK.keep {K : PySem.W.Frag} {k : Bool} {H H' : Hp} {a p : Addr} {xs : List V} (x : Keep p H H') (n : a ≠ p) (h : SqK K k H a xs) : SqK K k H' a xs := by
  have r : ∀ {o}, Rd H a o → Rd H' a o := fun {o} h => by
    rcases h with h | ⟨ob, h⟩
    · exact .inl (x _ _ h n)
    · exact .inr ⟨ob, x _ _ h n⟩
  cases k
  · exact h.elim (fun h => .inl (r h)) .inr
  · exact h.elim (fun h => .inl (r h)) .inr
theorem walk_seq {K : PySem.W.Frag} {k : Bool} {a : Addr} {xs : List V} : Walk (ItK K k a) xs.length (fun H => SqK K k H a xs) (YAt xs) := by
  cases k
  · exact walk_tup
  · exact walk_list
def iSeq (K : PySem.W.Frag) (te : TE) : TI := fun σ H R => te σ H fun x H1 => ∃ (k : Bool) (a : Addr), x = .ref a ∧ (∃ xs, SqK K k H1 a xs) ∧ R (ItK K k a) H1
theorem pi_seq {X : Cx} {tg e : Expr} {te : TE} (he : PE X e te) : PI X tg e (iSeq X.K te) := by
  refine ⟨fun pins s σ H R I h => thn (he.run pins s σ H _ I h) fun v s1 r => ?_⟩
  obtain ⟨x, H1, J, rv, k, a, rfl, ⟨xs, hs⟩, q⟩ := r
  cases rv
  have nw : ∀ b : Addr, b ∈ [s1.heap.objs.size] → b = s1.heap.objs.size := fun b hb => List.mem_singleton.mp hb
  cases k with
  | true =>
    obtain ⟨us, rs, pl, z⟩ := J.list hs
    refine wpAny_pyIter_list pl.isList ⟨s1.heap.objs.size, [s1.heap.objs.size], _, _, H1, rfl, J.kept (t' := s1.toks) fun b o g => Heap.get?_push_of_some _ g, turn_list a _, ⟨_, Heap.get?_push_size _ rfl, rfl, rfl⟩, fun b hb => ?_, q⟩
    rw [nw b hb]
    exact J.fpOk (Nat.le_refl _) (J.hok.fresh (Nat.le_refl _))
  | false =>
    obtain ⟨us, rs, pl, z⟩ := J.tuple hs
    refine wpAny_pyIter_tuple (show s1.heap.IsTuple a us.toArray from pl) ⟨s1.heap.objs.size, [s1.heap.objs.size], _, _, H1, rfl, J.kept (t' := s1.toks) fun b o g => Heap.get?_push_of_some _ g, turn_tuple a _, ⟨_, Heap.get?_push_size _ rfl, rfl, rfl⟩, fun b hb => ?_, q⟩
    rw [nw b hb]
    exact J.fpOk (Nat.le_refl _) (J.hok.fresh (Nat.le_refl _))
/-- its kind, for isinstance -/
theorem SqK.kind {K : PySem.W.Frag} {k : Bool} {H : Hp} {a : Addr} {xs : List V} (h : SqK K k H a xs) : Is K H (.ref a) (if k then .lst else .tup) := by
  cases k with
  | false =>
    rcases h with (h | ⟨o, h⟩) | ⟨o, its, n, e, c, _⟩
    · exact .base (.tup h)
    · exact .fTuple h
    · exact .kTuple e c
  | true =>
    rcases h with (h | ⟨o, h⟩) | ⟨o, its, n, e, c, _⟩
    · exact .base (.lst h)
    · exact .base (.frz h)
    · exact .kList e c
theorem seq_any {K : PySem.W.Frag} (k : Bool) : PySem.W.kitAny K (.type (if k then Kd.lst else Kd.tup).nm) [.type "list", .type "tuple"] = some true := by
  cases k
  · first | rfl | decide +kernel
  · first | rfl | decide +kernel
/-! ### len(set(..)) of different ints -/
theorem setR_count {w : World} {h : Heap} {a : Addr} {ns : List Int} {c : Nat} (nd : ns.Nodup) (R : SetR w h a (fun j => decide (j ∈ ns)) c) : c = ns.length := by
  obtain ⟨o, es, ep, t, _, _, _, _, ndk, mem, _, _, sz, _⟩ := R
  have p : (es.toList.map keyOf).Perm ns := perm_of_mem ndk nd fun k => by
    rw [← mem k]
    exact decide_eq_true_iff
  have e := p.length_eq
  rw [List.length_map, Array.length_toList] at e
  omega
where
  perm_of_mem : ∀ {l m : List Int}, l.Nodup → m.Nodup → (∀ k, k ∈ l ↔ k ∈ m) → l.Perm m
    | [], [], _, _, _ => .nil
    | [], y :: m, _, _, h => absurd ((h y).mpr List.mem_cons_self) List.not_mem_nil
    | x :: l, m, nl, nm, h => by
      obtain ⟨n1, n2⟩ := List.nodup_cons.mp nl
      have hx := (h x).mp List.mem_cons_self
      have p := List.perm_cons_erase hx
      refine (List.Perm.cons x (perm_of_mem n2 (nm.erase x) fun k => ?_)).trans p.symm
      rw [nm.mem_erase_iff]
      constructor
      · exact fun hk => ⟨fun e => n1 (by rw [← e]; exact hk), (h k).mp (List.mem_cons_of_mem _ hk)⟩
      · rintro ⟨ne, hk⟩
        rcases List.mem_cons.mp ((h k).mpr hk) with e | hk
        · exact absurd e ne
        · exact hk
def tLenSeqI (K : PySem.W.Frag) (ta : TE) : TE := fun σ H Q => ta σ H fun x H1 => ∃ (k : Bool) (a : Addr) (ns : List Int), x = .ref a ∧ SqK K k H1 a (ns.map V.int) ∧ ns.Nodup ∧ ns.length ≤ 1000 ∧ Q (.int (ns.length : Nat)) H1
theorem pe_lenSeqI {X : Cx} {a : Expr} {ta : TE} {p p2 q pos : Pos} (hg : Gl X "len") (hm : X.mg "len" = none) (hg2 : Gl X "set") (hm2 : X.mg "set" = none) (ha : PE X a ta) (hc : X.calm = true := by rfl)
    (na : starEach [a] X.env = (false, eval a X.env) :: starEach [] X.env := by rfl) : PE X (.Call (.Name "len" p) [.Call (.Name "set" p2) [a] [] q] [] pos) (tLenSeqI X.K ta) := by
  refine ⟨fun pins s σ H Q I h => Call_ (ld_blt I hg hm boot_len (callWith_builtin1 (args_cons (Call_ (ld_blt I hg2 hm2 boot_set (callWith_type1 (args_cons (thn (ha.run pins s σ H _ I h) fun v s1 r => args_nil ?_) na) na rfl))) rfl) rfl rfl))⟩
  obtain ⟨x, H1, J, rv, k, b, ns, rfl, hs, nd, sz, c⟩ := r
  cases rv
  cases k with
  | true =>
    obtain ⟨us, rs, pl, z⟩ := J.list hs
    have e : us.toArray.size = ns.length := by rw [List.size_toArray, ← rs.length, List.length_map]
    refine call_set_list (J.ok.hd hc) pl.isList (by simpa using RZ.intsAre_vals rs) (by rw [e]; unfold scanBound; omega) fun h' tk hS hk => args_nil ?_
    rw [e, RZ.firstMet_nodup nd ns.length (Nat.le_refl _), List.take_length] at hS
    obtain ⟨o, es, ep, t, ho, ex, hd, _, _, _, hf, hn⟩ := hS
    have J2 : Inv X pins σ H1 { s1 with heap := h', toks := tk } := J.kept fun d u g => hk d u (Heap.lt_size g) g
    exact call_len_set ho ex hd hf (by rw [hn]; omega) ⟨.int ns.length, H1, J2.tok _, ⟨_, by rw [hn]⟩, c⟩
  | false =>
    obtain ⟨us, rs, pl, z⟩ := J.tuple hs
    refine call_set_tupI ns (J.ok.hd hc) (show s1.heap.IsTuple b us.toArray from pl) (by simpa using RZ.intsAre_vals rs) (by unfold scanBound; omega) fun h' tk cn R le hk => args_nil ?_
    have cnt := setR_count nd R
    obtain ⟨o, es, ep, t, ho, ex, hd, _, _, _, _, hf, hn, _⟩ := R
    have J2 : Inv X pins σ H1 { s1 with heap := h', toks := tk } := J.kept hk
    exact call_len_set ho ex hd hf (by rw [hn]; omega) ⟨.int ns.length, H1, J2.tok _, ⟨_, by rw [hn, cnt]⟩, c⟩
end Sl
/-! ## B3 -/
set_option Elab.async false
set_option linter.all false
set_option maxRecDepth 100000
set_option maxHeartbeats 4000000
/-! enumerate of a list or a tuple -/
namespace PySem
open Sem (wp)
open AutoSeq1 (wpAny_loadPart')
theorem enum_newT (l : Addr) (items : Array Value) (n : Nat) (dct : Option Addr) (sl : Array (Option Value)) :
    Meets (Builtin.«enumerate.__new__» ⟨[.type "enumerate", .ref l], []⟩) (fun _ R s => s.heap.get? l = some { cls := .type "tuple", dict := dct, data := .seq items n, slots := sl } ∧
      R (.ok (.ret (.ref (s.heap.push { cls := .type "tuple_iterator", data := .fields #[.ref l, .int 0 0] }).objs.size)))
        { s with heap := (s.heap.push { cls := .type "tuple_iterator", data := .fields #[.ref l, .int 0 0] }).push { cls := .type "enumerate", data := .fields #[.none, .bool false, .ref s.heap.objs.size, rawInt 0, .none, .none] } }) :=
  .of_wp fun prog w A R s q => by
    obtain ⟨hp, g, d, tk, os⟩ := s
    obtain ⟨hl, h⟩ := q
    have hsub := sub_enumerate
    have hT : Heap.IsTuple (Shared.heap ⟨hp, g, d, tk, os⟩) l items := ⟨_, hl, rfl, n, rfl⟩
    wp_walk using wpAny_loadPart' hl
    refine wpAny_stack_any fun st => wpAny_pure ?_
    split
    · rename_i c _ _ _ _ _
      cases (c == Value.type "enumerate")
      · wp_walk using wpAny_loadPart' hl, wpAny_pyIter_tuple hT
        exact ⟨_, rfl, h⟩
      · wp_walk using wpAny_loadPart' hl, wpAny_pyIter_tuple hT
        exact ⟨_, rfl, h⟩
    · wp_walk using wpAny_loadPart' hl, wpAny_pyIter_tuple hT
      exact ⟨_, rfl, h⟩
section
variable {prog : Program} {w : World} {A : Around} {E : Value → Shared → Prop} {s : Shared}
theorem call_enumT {l : Addr} {items : Array Value} {Q : Value → Shared → Prop} (hL : s.heap.IsTuple l items)
    (h : ∀ h', IsEnum h' (s.heap.objs.size + 1) s.heap.objs.size 0 .none → h'.IsTupleIter s.heap.objs.size l 0 → h'.objs.size = s.heap.objs.size + 2 → (∀ b o, s.heap.get? b = some o → h'.get? b = some o) → Q (.ref (s.heap.objs.size + 1)) { s with heap := h' }) :
    wpAny (model prog w) A (call (.type "enumerate") [.ref l]) Q E s := by
  obtain ⟨⟨c, dct, dt, sl⟩, hl, hc, n, hd⟩ := hL
  cases (show c = .type "tuple" from hc)
  cases (show dt = .seq items n from hd)
  refine callType_new F.called_enumerate (by decide) (F.typeCall_enumerate_1 _) (F.newCall_enumerate_1 _) (fun obj => F.args_object_init_2 obj _) F.entry_enumerate_new (enum_newT l items n dct sl) ⟨hl, ?_⟩
  have z : (s.heap.push { cls := .type "tuple_iterator", data := .fields #[.ref l, .int 0 0] }).objs.size = s.heap.objs.size + 1 := Heap.size_push ..
  show _ ∧ _
  rw [z]
  have he : IsEnum ((s.heap.push { cls := .type "tuple_iterator", data := .fields #[.ref l, .int 0 0] }).push { cls := .type "enumerate", data := .fields #[.none, .bool false, .ref s.heap.objs.size, rawInt 0, .none, .none] }) (s.heap.objs.size + 1) s.heap.objs.size 0 .none := by
    have q := Heap.get?_push_size (s.heap.push { cls := .type "tuple_iterator", data := .fields #[.ref l, .int 0 0] }) (o := { cls := .type "enumerate", data := .fields #[.none, .bool false, .ref s.heap.objs.size, rawInt 0, .none, .none] }) rfl
    rw [z] at q
    exact q
  exact ⟨⟨_, he, rfl⟩, h _ he ⟨_, Heap.get?_push_of_some _ (Heap.get?_push_size _ rfl), rfl, rfl⟩ (by rw [Heap.size_push, z]) fun b o x => Heap.get?_push_of_some _ (Heap.get?_push_of_some _ x)⟩
end
end PySem
namespace Sl
open PySem PySem.Spec PyProof.Rows L2
def Iett (K : PySem.W.Frag) (a : Addr) : It :=
  ⟨fun i H => ∃ (xs : List V) (x : V), SqT K H a xs ∧ xs[i]? = some x, fun i H v H' => ∃ T x, v = .ref T ∧ H T = none ∧ H' = upd H T (.tup [.int (i : Nat), x]) ∧ ∀ xs, SqT K H a xs → xs[i]? = some x, fun i H => ∃ xs : List V, SqT K H a xs ∧ xs.length ≤ i⟩
theorem turn_enumT {P : Program} {w : World} {K : PySem.W.Frag} {elts : List Expr} {kk : Nat} {tpos : Pos} (a e it : Addr) :
    Turn P w K (.Tuple elts kk tpos) (Iett K a) [e, it] e (fun i h => (∃ old, IsEnum h e it ((i : Nat) : Int) old) ∧ h.IsTupleIter it a i ∧ e ≠ it) where
  mem := by simp
  obj := fun i h st b hb => by
    obtain ⟨⟨old, he⟩, ⟨o, ho, hc, hd⟩, _⟩ := st
    rcases (show b = e ∨ b = it by simpa using hb) with rfl | rfl
    · exact ⟨_, he, fun v q => nomatch q⟩
    · exact ⟨o, ho, fun v q => by rw [hd] at q; cases q⟩
  keep := fun i h h' st k => by
    obtain ⟨⟨old, he⟩, ⟨o, ho, r⟩, ne⟩ := st
    exact ⟨⟨old, k e (by simp) _ he⟩, ⟨o, k it (by simp) _ ho, r⟩, ne⟩
  item := by
    intro X eP ew eK hc i pins s σ H E I fr st gg
    subst eP ew eK
    obtain ⟨⟨old, he⟩, hit, ne⟩ := st
    obtain ⟨xs, x, hq, hx⟩ := gg
    obtain ⟨us, rv, tp, z⟩ := I.tuple hq
    obtain ⟨u, hu, ru⟩ := rv.get hx
    have tp : s.heap.IsTuple a us.toArray := tp
    have el : e < s.heap.objs.size := Heap.lt_size he
    have il : it < s.heap.objs.size := by
      obtain ⟨_, q, _⟩ := hit
      exact Heap.lt_size q
    have hh : X.A.in1.handled = none := I.ok.hd hc
    have nai : a ≠ it := fun q => by
      obtain ⟨o1, e1, c1, _⟩ := hit
      obtain ⟨o2, e2, c2, _⟩ := tp
      rw [q, e1] at e2
      cases e2
      rw [c1] at c2
      exact absurd c2 (by decide)
    have nea : e ≠ a := fun q => by
      obtain ⟨o2, e2, c2, _⟩ := tp
      have he' : s.heap.get? e = _ := he
      rw [q, e2] at he'
      cases he'
      exact absurd (show Value.type "enumerate" = Value.type "tuple" from c2) (by decide)
    have D := Draws.tuple (prog := X.prog) (w := X.w) hh it a nai us.toArray
    have iz : i < us.toArray.size := by
      have k1 := (List.getElem?_eq_some_iff.mp hx).1
      have k2 := rv.length
      rw [List.size_toArray]
      omega
    refine wpAny_pyNext_enum_itemD D he ⟨hit, tp⟩ iz ne (by simp [ne, nea]) fun v h' tk hv ho hs hT sz hk => ?_
    have ev : v = u := by
      have k : us.toArray[i]? = some v := hv
      rw [List.getElem?_toArray, hu] at k
      exact (Option.some.inj k).symm
    subst ev
    refine ⟨_, rfl, wpAny_letOwnedTupleGo_enum (s := { s with heap := h', toks := tk + 1 }) ho fun h'' he' sb => ?_⟩
    have hT2 : h''.get? s.heap.objs.size = some { cls := .type "tuple", data := .seq #[.int i tk, v] } := (sb.2 _ (Nat.ne_of_gt el)).trans hT
    have new : ObjOk X.prog X.w (upd H s.heap.objs.size (.tup [.int (i : Nat), x])) h'' s.heap.objs.size (.tup [.int (i : Nat), x]) := ⟨by show 2 ≤ sizeLine; decide, [.int i tk, v], .cons ⟨_, rfl⟩ (.cons ru .nil), ⟨_, hT2, rfl, _, rfl⟩⟩
    have J : Inv X pins σ (upd H s.heap.objs.size (.tup [.int (i : Nat), x])) { s with heap := h'', toks := tk + 1 } :=
      I.turnedNew (ch := [e, it]) (fun b ob nb q => (sb.2 b (fun w => nb (by simp [w]))).trans (hk b ob (fun w => nb (by simp [w])) (fun w => nb (by simp [w])) q)) fr (Nat.le_refl _) new
    refine ⟨.ref s.heap.objs.size, _, J, rfl, ⟨_, x, rfl, I.hok.fresh (Nat.le_refl _), rfl, fun ys hy => by rw [I.tuple_inj hy hq]; exact hx⟩, ⟨⟨v, ?_⟩, ?_, ne⟩, fun b hb => ?_⟩
    · rw [show ((i + 1 : Nat) : Int) = (i : Int) + 1 by omega]
      exact he'
    · obtain ⟨o, g, r⟩ := hs.1
      exact ⟨o, (sb.2 it (Ne.symm ne)).trans g, r⟩
    · have lt : b < s.heap.objs.size := by
        rcases (show b = e ∨ b = it by simpa using hb) with rfl | rfl
        · exact el
        · exact il
      rw [upd_ne (Nat.ne_of_lt lt)]
      exact (fr b hb).1
  done := by
    intro X eP ew eK hc i pins s σ H E I fr st gg
    subst eP ew eK
    obtain ⟨⟨old, he⟩, hit, ne⟩ := st
    obtain ⟨xs, hq, hx⟩ := gg
    obtain ⟨us, rv, tp, z⟩ := I.tuple hq
    have tp : s.heap.IsTuple a us.toArray := tp
    obtain ⟨f0, f1, f2, f3, f4, f5⟩ := fr it (by simp)
    have hh : X.A.in1.in1.handled = none := I.ok.hd hc
    have ln := rv.length
    have hT : s.TypeIs (.ref e) "enumerate" := ⟨_, he, rfl⟩
    unfold pyNext
    refine wpAny_bind (wpAny_attempt (wpAny_callSpecial?_slot (name := Str.ofString "__next__") hT F.slot_enumerate_next (wpAny_call_entry F.slot_enumerate_next hT F.entry_enumerate_next ?_ (F.args_enumerate_next_1 _))))
    show wpAny _ _ (field (.ref e) 2 >>= _) _ _ _
    refine wpAny_bind (wpAny_field he rfl (x := .ref it) rfl (wpAny_bind (wpAny_nextOf_tuple_end hh hit tp (by simp; omega) fun h' y eb hy => ?_)))
    obtain ⟨o, ho, hc⟩ := hy
    exact wpAny_bind (wpAny_isInstance (T := "StopIteration") (b := true) ⟨o, ho, hc⟩ isSubtype_stop (wpAny_pure ⟨rfl, I.turned (t' := s.toks) (fun b o hb q => eb b o hb q) f0 f1 f3 f4 f5⟩))
  self := fun A i s Q E st h => let ⟨⟨_, he⟩, _⟩ := st; wpAny_pyIter_enum he h
def ItE (K : PySem.W.Frag) (k : Bool) (a : Addr) : It := match k with
  | true => Ite K a
  | false => Iett K a
theorem walk_enumT {K : PySem.W.Frag} {a : Addr} {xs : List V} : Walk (Iett K a) xs.length (fun H => SqT K H a xs) (YPair (fun i => some (.int (i : Nat))) (fun i => xs[i]?)) := by
  refine ⟨fun i _ hi q => ⟨xs, xs[i], q, by simp [hi]⟩, fun _ q => ⟨xs, q, Nat.le_refl _⟩, fun i H v H' _ q y => ?_⟩
  obtain ⟨T, x, h1, h2, h3, h4⟩ := y
  exact ⟨T, .int (i : Nat), x, h1, h2, h3, rfl, h4 xs q⟩
theorem walk_enumK {K : PySem.W.Frag} {k : Bool} {a : Addr} {xs : List V} : Walk (ItE K k a) xs.length (fun H => SqK K k H a xs) (YPair (fun i => some (.int (i : Nat))) (fun i => xs[i]?)) := by
  cases k
  · exact walk_enumT
  · exact walk_enum
def iEnumK (K : PySem.W.Frag) (ta : TA) : TI := fun σ H R => ta σ H fun vs H1 => ∃ (k : Bool) (a : Addr) (xs : List V), vs = [.ref a] ∧ SqK K k H1 a xs ∧ R (ItE K k a) H1
theorem pi_enumK {X : Cx} {e : Expr} {ta : TA} {p pos tpos : Pos} {elts : List Expr} {kk : Nat} (hg : Gl X "enumerate") (hm : X.mg "enumerate" = none) (ha : PA X [e] ta) (hs : starEach [e] X.env = [(false, eval e X.env)] := by rfl) :
    PI X (.Tuple elts kk tpos) (.Call (.Name "enumerate" p) [e] [] pos) (iEnumK X.K ta) := by
  refine ⟨fun pins s σ H R I h => Call_ (ld_blt I hg hm boot_enumerate (callWith_type1 (thn (ha.run pos pins s σ H _ I h) fun us s1 r => ?_) hs rfl))⟩
  obtain ⟨vs, H1, J, rv, k, a, xs, rfl, hq, q⟩ := r
  cases rv with
  | cons r rr =>
    cases rr
    cases r
    have ge : ∀ b : Addr, b ∈ [s1.heap.objs.size + 1, s1.heap.objs.size] → s1.heap.objs.size ≤ b := fun b hb => by
      rcases (show b = s1.heap.objs.size + 1 ∨ b = s1.heap.objs.size by simpa using hb) with z | z
      · rw [z]
        exact Nat.le_add_right _ _
      · rw [z]
        exact Nat.le_refl _
    cases k with
    | true =>
      obtain ⟨its, rs, pl, z⟩ := J.list hq
      refine call_enumerate_list pl.isList fun h' he hit sz hk => wpAny_pyIter_enum he ⟨s1.heap.objs.size + 1, [s1.heap.objs.size + 1, s1.heap.objs.size], _, _, H1, rfl, J.kept (t' := s1.toks) hk, turn_enum a (s1.heap.objs.size + 1) s1.heap.objs.size, ⟨⟨.none, he⟩, hit, Nat.succ_ne_self _⟩, fun b hb => ?_, q⟩
      exact J.fpOk (ge b hb) (J.hok.fresh (ge b hb))
    | false =>
      obtain ⟨its, rs, pl, z⟩ := J.tuple hq
      refine call_enumT (show s1.heap.IsTuple a its.toArray from pl) fun h' he hit sz hk => wpAny_pyIter_enum he ⟨s1.heap.objs.size + 1, [s1.heap.objs.size + 1, s1.heap.objs.size], _, _, H1, rfl, J.kept (t' := s1.toks) hk, turn_enumT a (s1.heap.objs.size + 1) s1.heap.objs.size, ⟨⟨.none, he⟩, hit, Nat.succ_ne_self _⟩, fun b hb => ?_, q⟩
      exact J.fpOk (ge b hb) (J.hok.fresh (ge b hb))
end Sl
/-! ## B4 -/
set_option Elab.async false
set_option linter.all false
set_option maxRecDepth 100000
set_option maxHeartbeats 4000000
/-! sorted of a tuple of ints; has_length and are_states of a list or a tuple -/
namespace PyProof.Rows
open PySem PySem.W PySem.Calls
section
variable {prog : Program} {w : World} {A : Around} {E : Value → Shared → Prop} {s : Shared}
theorem collect_tupK {a : Addr} {us : List Value} {Q : List Value → Shared → Prop} (ht : s.heap.IsTuple a us.toArray)
    (h : Q us { s with heap := (s.heap.push (seqObj "list" #[] 0)).update s.heap.objs.size (Obj.mapSeq (· ++ us.toArray)) }) (z : us.length ≤ sizeLine) : wpAny (model prog w) A (collect (.ref a)) Q E s := by
  obtain ⟨o, ho, hc, n, hd⟩ := id ht
  unfold collect
  refine wpAny_bind (wpAny_runValue (codeAny_builtin entry_proto_collect' ?_))
  show wpAny _ _ (do again (.builtin "list.__iadd__" ⟨[← newList [], .ref a], []⟩)) _ _ s
  refine wpAny_bind (wpAny_newList (wpAny_pure ⟨Code.quiet_builtin _ (by decide +kernel), codeAny_builtin entry_list_iadd' ?_⟩))
  show wpAny _ _ (Builtin.List.listExtendWith (.ref s.heap.objs.size) (.ref a) (.ref s.heap.objs.size)) _ _ { s with heap := s.heap.push (seqObj "list" #[] 0) }
  unfold Builtin.List.listExtendWith
  have ho1 : (s.heap.push (seqObj "list" #[] 0)).get? a = some o := Heap.get?_push_of_some _ ho
  refine wpAny_bind (wpAny_typeOf (T := "tuple") ⟨o, ho1, hc⟩ ?_)
  rw [if_pos (by rw [show (Value.type "tuple" == Value.type "tuple") = true by rfl]; simp)]
  refine wpAny_bind (listItems_at ho1 hd (wpAny_bind (listItems_at (xs := #[]) (n := 0) (Heap.get?_push_size _ rfl) rfl ?_)))
  rw [if_neg (by simp)]
  refine wpAny_bind (listUpdate_at (xs := #[]) (n := 0) (Heap.get?_push_size _ rfl) rfl ?_ (Nat.zero_le _) (by show (#[] ++ us.toArray).size ≤ sizeLine + 1; simp only [Array.size_append, List.size_toArray, List.length_nil]; omega))
  refine wpAny_pure ?_
  show wpAny (model prog w) A (do
      let o ← load s.heap.objs.size
      match o.data with
      | .seq xs _ => pure xs.toList
      | _ => unsupported "internal:collect") Q E { s with heap := (s.heap.push (seqObj "list" #[] 0)).update s.heap.objs.size (Obj.mapSeq (· ++ us.toArray)) }
  refine wpAny_bind (wpAny_load (get?_update_seq (Heap.get?_push_size _ rfl) _) ?_)
  show wpAny _ _ (pure ((#[] : Array Value) ++ us.toArray).toList) Q E _
  rw [show ((#[] : Array Value) ++ us.toArray).toList = us by simp]
  exact wpAny_pure h
theorem sorted_tupK {a : Addr} {us : List Value} {ns : List Int} {Q : Value → Shared → Prop} (ht : s.heap.IsTuple a us.toArray) (hI : IntsAre us ns) (h64 : us.length < 64)
    (h : ∀ (out : Array Value) (ms : List Int), IntsAre out.toList ms → ms.Perm ns → ms.Pairwise (· ≤ ·) → Q (.ref (s.heap.objs.size + 1)) { s with heap := sortedAll s.heap us out }) :
    wpAny (model prog w) A (call (.builtin "sorted") [.ref a]) Q E s := by
  refine Calls.call_function_entry kind_sorted plain_sorted entry_sorted (args_sorted1 _) ?_
  unfold Builtin.«sorted»
  refine wpAny_bind (m := checkCount "sorted" 1 1 _) (wpAny_pure (wpAny_bind (collect_tupK ht (wpAny_bind (wpAny_newList ?_)) (by rw [sizeLine_eq]; omega))))
  have z : ((s.heap.push (seqObj "list" #[] 0)).update s.heap.objs.size (Obj.mapSeq (· ++ us.toArray))).objs.size = s.heap.objs.size + 1 := by rw [Heap.size_update, size_push']
  have at_ : (((s.heap.push (seqObj "list" #[] 0)).update s.heap.objs.size (Obj.mapSeq (· ++ us.toArray))).push (seqObj "list" us.toArray 0)).get? (s.heap.objs.size + 1) = some (seqObj "list" us.toArray 0) := by
    rw [← z]
    exact Heap.get?_push_size _ rfl
  show wpAny _ _ _ _ _ { s with heap := ((s.heap.push (seqObj "list" #[] 0)).update s.heap.objs.size (Obj.mapSeq (· ++ us.toArray))).push (seqObj "list" us.toArray 0) }
  rw [z]
  exact wpAny_bind (wpAny_holding (wpAny_call_entry slot_list_sort ⟨_, at_, rfl⟩ entry_list_sort (list_sort_tree at_ hI h64 fun out ms a1 a2 a3 => ⟨_, rfl, wpAny_pure ⟨_, rfl, h out ms a1 a2 a3⟩⟩) (args_list_sort _)))
end
end PyProof.Rows
namespace Sl
open PySem PySem.Spec PyProof.Rows L2
def rSortedK (K : PySem.W.Frag) : List V → Hp → VK → Prop := fun vs H Q => ∃ (k : Bool) (a : Addr) (ns : List Int), vs = [V.ref a] ∧ SqK K k H a (ns.map V.int) ∧ ns.length < 64 ∧
  ∀ (ms : List Int) (p : Addr), ms.Perm ns → ms.Pairwise (· ≤ ·) → H p = none → Q (.ref p) (upd H p (.lst (ms.map V.int)))
theorem cr_sortedK {X : Cx} : CallR X (.builtin "sorted") (rSortedK X.K) := by
  intro pins s σ H vs us Q I r h
  obtain ⟨k, a, ns, rfl, hs, h64, q⟩ := h
  cases k with
  | true => exact cr_sorted pins s σ H _ us Q I r ⟨a, ns, rfl, hs, h64, q⟩
  | false =>
    obtain ⟨its, rv, tp, _⟩ := I.tuple hs
    rw [Vals.ref1 r]
    have hi := rv.ints
    refine sorted_tupK (show s.heap.IsTuple a its.toArray from tp) hi (by rw [hi.length]; exact h64) fun out ms h1 h2 h3 => ?_
    obtain ⟨ep, e⟩ := sortedAll_at s.heap its out
    exact ⟨.ref _, upd H (s.heap.objs.size + 1) (.lst (ms.map V.int)), I.laid (t' := s.toks) (fun _ _ => sortedAll_old) (Nat.le_succ _) ⟨by rw [List.length_map, h2.length_eq]; exact small64 h64, out.toList, ep, vals_of_ints h1, e⟩, rfl, q ms _ h2 h3 (I.hok.fresh (Nat.le_succ _))⟩
def spHasLenK (K : PySem.W.Frag) : Sp := fun vs H Q _ => ∃ (k : Bool) (a : Addr) (xs : List V) (m n : Int), vs = [.ref a, .int m, .int n] ∧ SqK K k H a xs ∧ ∀ H', Ext H H' → Q (.bl (decide (m ≤ xs.length) && decide ((xs.length : Int) ≤ n))) H'
def spAreStatesK (K : PySem.W.Frag) : Sp := fun vs H Q _ => ∃ (k : Bool) (a : Addr) (ns : List Int) (n : Int), vs = [.ref a, .int n] ∧ SqK K k H a (ns.map V.int) ∧ ns.length < 64 ∧ ns.Nodup ∧ (∀ i ∈ ns, 0 ≤ i ∧ i < n) ∧ ∀ H', Ext H H' → Q (.bl true) H'
section
variable {P : Program} {w : World} {K : PySem.W.Frag} {mg : Str → Option Value} {base : Heap}
theorem ok_haslenK {f : Addr} {fd : FuncData} (F : Fun K "has_length" "has_length" sHasLen f fd) (zz : mg "isinstance" = none) (zl : mg "list" = none) (zt : mg "tuple" = none) (zn : mg "len" = none) :
    FnOk P w K mg base CX0 1 f fd ["value", "least", "most"] (spHasLenK K) := by
  refine F.ok scHasLen (fun vs H Q E h => ?_) (fun cdv A outer s H vs Q E hr h => ?_)
  · obtain ⟨k, a, xs, m, n, rfl, _⟩ := h
    rfl
  · obtain ⟨k, a, xs, m, n, rfl, ha, q⟩ := h
    refine ⟨_, pss_one (ps_ret (pe_and (pe_callB call_isiT (by rfl) zz (by decide +kernel) (pa_cons (pv 0) (pa_cons (pe_tup (pa_cons (pe_bltn (by rfl) zl (by decide +kernel) (rel_ty "list")) (pa_cons (pe_bltn (by rfl) zt (by decide +kernel) (rel_ty "tuple")) pa_nil))) pa_nil)))
      (pe_one (pe_chain op_le op_le (pv 1) (pe_callB call_len_seq (by rfl) zn PySem.boot_len (pa_cons (pv 0) pa_nil)) (pv 2))))), ?_⟩
    refine ⟨_, rfl, (by show 2 ≤ sizeLine; decide), fun p hp => ?_⟩
    have x1 : Ext H (upd H p (.tup [.ty "list", .ty "tuple"])) := Ext.new hp
    have hs := ha.ext x1
    refine ⟨_, p, _, _, _, true, rfl, upd_same, .cons (.ty _) (.cons (.ty _) .nil), hs.kind, seq_any k, true, rfl, _, rfl, _, rfl, _, _, rfl, hs.or, _, _, rfl, rfl, _, rfl, ?_⟩
    have q' := q _ x1
    by_cases c : m ≤ xs.length
    · simp only [c, decide_true, Bool.true_and, if_true] at q' ⊢
      exact ⟨_, rfl, _, _, rfl, rfl, q'⟩
    · simp only [c, decide_false, Bool.false_and, Bool.false_eq_true, if_false] at q' ⊢
      exact q'
theorem ok_arestatesK {f fB : Addr} {fd fdB : FuncData} (F : Fun K "are_states" "are_states" sAreStates f fd) (aB : At K mg "is_below" fB fdB ["value", "limit"] []) (gB : FnOk P w K mg base CX0 2 fB fdB ["value", "limit"] (spBelow K))
    (zz : mg "isinstance" = none) (zl : mg "list" = none) (zt : mg "tuple" = none) (zn : mg "len" = none) (za : mg "all" = none) (zs : mg "set" = none) :
    FnOk P w K mg base CX0 3 f fd ["value", "many"] (spAreStatesK K) := by
  refine F.ok scAreStates (fun vs H Q E h => ?_) (fun cdv A outer s H vs Q E hr h => ?_)
  · obtain ⟨k, a, ns, n, rfl, _⟩ := h
    rfl
  · obtain ⟨k, a, ns, n, rfl, ha, hl, nd, hns, q⟩ := h
    refine ⟨_, pss_cons (ps_if (pt_not (pt_val (pe_callB call_isiT (by rfl) zz (by decide +kernel) (pa_cons (pv 0) (pa_cons (pe_tup (pa_cons (pe_bltn (by rfl) zl (by decide +kernel) (rel_ty "list")) (pa_cons (pe_bltn (by rfl) zt (by decide +kernel) (rel_ty "tuple")) pa_nil))) pa_nil))))) (pss_one (ps_ret pe_bl)) pss_nil)
      (pss_cons (ps_if (pt_not (pt_val (pe_callB (cr_all rfl) (by rfl) za (by decide +kernel) (pa_cons (pe_lc (own := [("state", 2)]) (g := gName 2) (tt := tYes) rfl scAreStates.nd (pi_seq (pv 0)) (blkOk_by (N := ["value", "many", "state"]) (sc := defScope sAreStates) (by decide +kernel))
          (fun _ _ _ _ _ => pg_name (i := 2) scAreStates.nd rfl (Or.inl rfl)) (fun _ _ _ _ _ => pts_nil) (fun _ _ _ _ _ => pe_call gB hr (by rfl) aB.g aB.kp aB.b .nil pass0 (pa_cons (pv 2) (pa_cons (pv 1) pa_nil)))) pa_nil)))) (pss_one (ps_ret pe_bl)) pss_nil)
      (pss_one (ps_ret (pe_cmpR op_eq (pe_lenSeqI (by rfl) zn (by rfl) zs (pv 0)) (pe_callB call_len_seq (by rfl) zn PySem.boot_len (pa_cons (pv 0) pa_nil)) (nomark _))))), ?_⟩
    refine ⟨_, rfl, (by show 2 ≤ sizeLine; decide), fun p hp => ?_⟩
    have x1 : Ext H (upd H p (.tup [.ty "list", .ty "tuple"])) := Ext.new hp
    refine ⟨_, p, _, _, _, true, rfl, upd_same, .cons (.ty _) (.cons (.ty _) .nil), (ha.ext x1).kind, seq_any k, true, rfl, iteF ?_⟩
    generalize upd H p (.tup [.ty "list", .ty "tuple"]) = H1 at x1
    refine ⟨_, rfl, k, a, rfl, ⟨_, ha.ext x1⟩, fun D hD => ?_⟩
    refine lc_it (walk_seq (xs := ns.map V.int)) (fun i H' => Ext H H' ∧ H' D = some (.lst ((List.replicate i true).map V.bl))) ⟨x1.trans (Ext.new hD), upd_same⟩ (fun i H' _ h => ha.ext h.1) ?_ ?_
    · rintro i x H2 H' hi ⟨h1, h2⟩ ⟨rfl, hx⟩
      obtain ⟨z, hz, rfl⟩ := at_map hx
      have hil : i < ns.length := (List.getElem?_eq_some_iff.mp hz).1
      have hb := hns z (List.mem_of_getElem? hz)
      refine ⟨rfl, _, rfl, _, rfl, .int z, n, rfl, .inl ⟨z, rfl⟩, ?_⟩
      rw [show below (.int z) n = true by unfold below; simp [hb.1, hb.2]]
      refine ⟨_, h2, by rw [List.length_map, List.length_replicate]; exact small1000 (by omega), fun b o e => by rw [upd_ne (ne_of_none (x1 _ _ e) hD)]; exact h1 b o e, ?_⟩
      rw [upd_same, List.replicate_succ', List.map_append]
      rfl
    · rintro H' ⟨h1, h2⟩
      refine ⟨D, List.replicate (ns.map V.int).length true, rfl, SqL.of h2, true, by simp, iteF ?_⟩
      refine ⟨_, rfl, k, a, ns, rfl, ha.ext h1, nd, (by omega), _, rfl, a, _, rfl, (ha.ext h1).or, ?_⟩
      have e : decide (V.int (ns.length : Nat) = V.int ((ns.map V.int).length : Nat)) = true := by
        rw [List.length_map]
        simp
      have q' := q _ h1
      rw [← e] at q'
      exact ⟨rfl, q'⟩
end
end Sl
/-! ## S1 -/
set_option Elab.async false
set_option linter.all false
set_option maxRecDepth 100000
set_option maxHeartbeats 4000000
/-! ### sets of texts that can be walked: made, added to, sorted -/
namespace TxS
open PySem PySem.Spec PyProof.Rows L2 PySem.Froz
/-- the texts l, each once, are the set at a; its table can be walked -/
def SetS (P : Program) (w : World) (h : Heap) (a : Addr) (l : List Str) : Prop :=
  ∃ D : SD, h.get? a = some (sObj "set" D) ∧ TxOk P w D l ∧ (Ris D.2.2.place.toList ∧ (w.params.followText "set-order" = true ∨ D.2.2.led = true)) ∧ l.Nodup
theorem addTx_walk {w : World} {D : SD} {x : Int} {v : Value} (r : Ris D.2.2.place.toList ∧ (w.params.followText "set-order" = true ∨ D.2.2.led = true)) :
    Ris (addTx x v D).2.2.place.toList ∧ (w.params.followText "set-order" = true ∨ (addTx x v D).2.2.led = true) := by
  have r1 := layNew_ris D.2.2 D.1 x v r.1
  have r2 := layNew_led D.2.2 D.1 x v
  unfold addTx
  generalize layNew D.2.2 D.1 x v = Z at r1 r2
  obtain ⟨es1, t1, wd, gv⟩ := Z
  dsimp only at r1 r2 ⊢
  have r3 : Ris (if t1.plain = true then { t1 with plain := false } else t1).place.toList ∧ (if t1.plain = true then { t1 with plain := false } else t1).led = D.2.2.led := by
    by_cases c : t1.plain = true
    · rw [if_pos c]
      exact ⟨r1, r2⟩
    · rw [if_neg c]
      exact ⟨r1, r2⟩
  generalize (if t1.plain = true then { t1 with plain := false } else t1) = t2 at r3
  unfold tailTx
  split
  · exact ⟨relayAll_ris _ _ _, r.2.imp id fun z => by
      show (relayAll t2 es1 (SetTable.grown es1.size)).2.1.led = true
      rw [relayAll_led, r3.2]
      exact z⟩
  · exact ⟨r3.1, r.2.imp id fun z => by
      show t2.led = true
      rw [r3.2]
      exact z⟩
theorem SetS.later {P : Program} {w : World} {h h' : Heap} {a : Addr} {l : List Str} (R : SetS P w h a l) (k : ∀ o, h.get? a = some o → h'.get? a = some o) : SetS P w h' a l := by
  obtain ⟨D, e, r⟩ := R
  exact ⟨D, k _ e, r⟩
theorem SetS.fresh (P : Program) (w : World) {h : Heap} : SetS P w (h.push { cls := .type "set", dict := none, data := .set #[] 0 (.fresh 0 0 (!w.params.followText "set-order")) }) h.objs.size [] := by
  refine ⟨(#[], 0, .fresh 0 0 (!w.params.followText "set-order")), Heap.get?_push_size _ rfl, TxOk.nil (by rfl), ⟨List.Pairwise.nil, ?_⟩, List.nodup_nil⟩
  show _ ∨ (!w.params.followText "set-order") = true
  cases w.params.followText "set-order"
  · exact .inr rfl
  · exact .inl rfl
/-- the values of the table are the texts, in some order -/
theorem strs_all {P : Program} {w : World} : ∀ (vs : List Value), (∀ v ∈ vs, ∃ k : Str, (strKind P w).is k v = true) → ∃ ws, StrsAre vs ws
  | [], _ => ⟨[], .nil⟩
  | v :: vs, h => by
    obtain ⟨k, hk⟩ := h v List.mem_cons_self
    obtain ⟨ws, q⟩ := strs_all vs fun u hu => h u (List.mem_cons_of_mem _ hu)
    have e : Value.isStrOf k v = true := hk
    cases v with
    | str x u => exact ⟨x :: ws, .cons x u q⟩
    | _ => simp [Value.isStrOf] at e
theorem strs_mem {P : Program} {w : World} : ∀ {vs : List Value} {ws : List Str}, StrsAre vs ws → ∀ k : Str, k ∈ ws ↔ ∃ v ∈ vs, (strKind P w).is k v = true
  | _, _, .nil, k => by simp
  | _, _, .cons x u r, k => by
    rw [List.mem_cons, strs_mem (P := P) (w := w) r k]
    constructor
    · rintro (rfl | ⟨v, hv, z⟩)
      · exact ⟨_, List.mem_cons_self, is_str k u⟩
      · exact ⟨v, List.mem_cons_of_mem _ hv, z⟩
    · rintro ⟨v, hv, z⟩
      rcases List.mem_cons.mp hv with e | e
      · rw [e] at z
        exact .inl ((strKind P w).inj (.str x u) k x z (is_str x u))
      · exact .inr ⟨v, e, z⟩
theorem strs_len : ∀ {vs : List Value} {ws : List Str}, StrsAre vs ws → ws.length = vs.length
  | _, _, .nil => rfl
  | _, _, .cons _ _ r => congrArg (· + 1) (strs_len r)
/-- as many as the members, all members among them: each once -/
theorem perm_of_all : ∀ {l ws : List Str}, l.Nodup → (∀ k ∈ l, k ∈ ws) → ws.length = l.length → ws.Perm l
  | [], ws, _, _, e => by
    rw [List.eq_nil_of_length_eq_zero e]
  | x :: l, ws, nd, h, e => by
    obtain ⟨nx, nd'⟩ := List.nodup_cons.mp nd
    have hx := h x List.mem_cons_self
    have p := List.perm_cons_erase hx
    have hl : (ws.erase x).length = l.length := by
      have q := p.length_eq
      rw [List.length_cons] at q e
      omega
    exact p.trans ((perm_of_all nd' (fun k hk => (List.mem_erase_of_ne (fun z => nx (by rw [← z]; exact hk))).mpr (h k (List.mem_cons_of_mem _ hk))) hl).cons x)
theorem texts_of {P : Program} {w : World} {es : Array (Int × Value)} {ep : Nat} {t : SetTable} {l : List Str} {vs : List Value} (nd : l.Nodup) (G : TxOk P w (es, ep, t) l) (pm : vs.Perm (es.toList.map (·.2))) :
    ∃ ws, StrsAre vs ws ∧ ws.Perm l := by
  obtain ⟨ws, q⟩ := strs_all (P := P) (w := w) vs fun v hv => by
    obtain ⟨e, he, z⟩ := List.mem_map.mp (pm.mem_iff.mp hv)
    obtain ⟨⟨k, hk, _⟩, _⟩ := G.el e he
    exact ⟨k, by rw [← z]; exact hk⟩
  refine ⟨ws, q, perm_of_all nd (fun k hk => ?_) ?_⟩
  · revert hk
    refine (show k ∈ ws ↔ k ∈ l from ?_).mpr
    rw [strs_mem (P := P) (w := w) q k, G.mem k]
    constructor
    · rintro ⟨v, hv, z⟩
      obtain ⟨e, he, y⟩ := List.mem_map.mp (pm.mem_iff.mp hv)
      exact ⟨e, he, by rw [y]; exact z⟩
    · rintro ⟨e, he, z⟩
      exact ⟨e.2, pm.mem_iff.mpr (List.mem_map.mpr ⟨e, he, rfl⟩), z⟩
  · rw [strs_len q, pm.length_eq, List.length_map, Array.length_toList]
    exact G.sz
section
variable {P : Program} {w : World} {A : Around} {E : Value → Shared → Prop} {s : Shared} {a : Addr} {l : List Str}
/-- a text that is there already -/
theorem there_x {D : SD} {k : Str} {u : Tok} {Q : Bool → Shared → Prop} (ho : s.heap.get? a = some (sObj "set" D)) (F : TxOk P w D l) (hk : k ∈ l) (hb : l.length < scanBound)
    (h : Q false s) : wpAny (model P w) A (setAddHashed a (.str k u) (hashStr w k)) Q E s := by
  obtain ⟨es, ep, t⟩ := D
  have hd : (sObj "set" (es, ep, t)).data = .set es ep t := rfl
  have hf : t.fits es.size = true := F.fit
  have hel : ElemsOf (strKind P w) es.toList := F.el
  have hb0 : es.size < scanBound := by
    have q : es.size = l.length := F.sz
    omega
  unfold setAddHashed setAddHashedIn
  refine wpAny_holding (wpAny_bind (wpAny_setState_of ho hd hf ?_))
  dsimp only
  rw [byScan_of rfl hb0 hel]
  simp only [↓reduceIte]
  unfold setAddByScan
  refine wpAny_bind (wpAny_bind (wpAny_rule (wpAny_bind (wpAny_setScan_of (knd := strKind P w) (k := k) (is_str k u) ho hd hf hel ?_))))
  cases hr : List.findIdx? (fun e => (strKind P w).is k e.2) es.toList with
  | some j =>
    dsimp only
    exact wpAny_pure (wpAny_pure h)
  | none =>
    obtain ⟨e, he, q⟩ := (F.mem k).mp hk
    have c := List.findIdx?_eq_none_iff.mp hr e he
    rw [q] at c
    cases c
theorem setS_add {k : Str} {u : Tok} {Q : Value → Shared → Prop} (R : SetS P w s.heap a l) (room : l.length + 1 < scanBound)
    (hQ : ∀ h', Heap.SameBut a s.heap h' → SetS P w h' a (if k ∈ l then l else k :: l) → Q .none { s with heap := h', toks := s.toks + 1 }) :
    wpAny (model P w) A (call (.builtin "set.add") [.ref a, .str k u]) Q E s := by
  obtain ⟨D, ho, G, r, nd⟩ := R
  refine wpAny_call_entry F.slot_set_add ⟨_, ho, rfl⟩ F.entry_set_add ?_ (F.args_set_add_2 _ _)
  unfold Builtin.«set.add» Builtin.Frozenset.oneOther
  simp only [List.isEmpty_nil, bind_assoc]
  unfold Builtin.Frozenset.addrOf setAdd
  refine wpAny_bind (wpAny_pure ?_)
  try dsimp only
  refine wpAny_bind (wpAny_pure ?_)
  try dsimp only
  refine wpAny_bind (wpAny_holding (wpAny_bind ((strKind P w).pyHash (is_str k u) ?_)))
  by_cases c : k ∈ l
  · refine there_x (s := { s with toks := s.toks + 1 }) ho G c (by omega) ?_
    refine wpAny_pure ⟨_, rfl, hQ s.heap (Heap.SameBut.refl a s.heap) ?_⟩
    rw [if_pos c]
    exact ⟨D, ho, G, r, nd⟩
  · refine add_x (s := { s with toks := s.toks + 1 }) ho G c room ?_
    refine wpAny_pure ⟨_, rfl, hQ _ ?_ ?_⟩
    · exact Heap.SameBut.update ..
    · rw [if_neg c]
      exact ⟨_, get_upd _ ho rfl, add_ok u G, addTx_walk r, List.nodup_cons.mpr ⟨c, nd⟩⟩
/-- sorted(set): ascending -/
theorem sorted_setS {Q : Value → Shared → Prop} (R : SetS P w s.heap a l) (hh : A.handled = none) (h64 : l.length < 64)
    (hQ : ∀ s' p (out : Array Value) (c : Nat) (ys : List Str), (∀ b o, s.heap.get? b = some o → s'.heap.get? b = some o) → s'.gens = s.gens → s'.os = s.os → s.heap.objs.size ≤ p →
      s'.heap.get? p = some (seqObj "list" out c) → StrsAre out.toList ys → sortedS ys = true → ys.Perm l → Q (.ref p) s') :
    wpAny (model P w) A (call (.builtin "sorted") [.ref a]) Q E s := by
  obtain ⟨D, ho, G, r, nd⟩ := R
  obtain ⟨es, ep, t⟩ := D
  have hsz : es.size = l.length := G.sz
  have hb : es.size < scanBound := by
    unfold scanBound
    omega
  refine Calls.call_function_entry kind_sorted plain_sorted entry_sorted (args_sorted1 _) ?_
  unfold Builtin.«sorted»
  refine wpAny_bind (m := checkCount "sorted" 1 1 _) (wpAny_pure ?_)
  refine wpAny_bind (collect_set (A := A.in1) hh ⟨_, ho, rfl, rfl⟩ G.fit hb r.1 r.2 fun s1 vs k1 hz g1 o1 pm => ?_)
  obtain ⟨ws, hws, pw⟩ := texts_of (P := P) (w := w) nd G pm
  have hvl : vs.length = l.length := by rw [pm.length_eq, List.length_map, Array.length_toList, hsz]
  refine wpAny_bind (wpAny_newList ?_ (by rw [hvl, sizeLine_eq]; omega))
  have hoL : (s1.heap.push (seqObj "list" vs.toArray 0)).get? s1.heap.objs.size = some (seqObj "list" vs.toArray 0) := Heap.get?_push_size _ rfl
  refine wpAny_bind (wpAny_holding (wpAny_call_entry slot_list_sort ⟨_, hoL, rfl⟩ entry_list_sort (list_sort_treeK strKind_oneLt hoL hws.keysOf (fun v₁ v₂ rest e => keyKind_strs (by rw [← e]; exact hws)) (by rw [hvl]; exact h64) fun st' hp hs => ⟨_, rfl, ?_⟩) (args_list_sort _)))
  obtain ⟨ys, q1, q2, q3⟩ := sorted_out_str hws hp hs
  obtain ⟨c, hc⟩ := sortedHeap_at (vs := vs) (out := (arrOf st').map (·.2)) hoL
  refine wpAny_pure ⟨_, rfl, hQ _ s1.heap.objs.size _ c ys (fun b u e => ?_) g1 o1 hz hc q1 q3 (q2.trans pw)⟩
  have q := k1 b u e
  have hlt := Heap.lt_size q
  show (sortedHeap (s1.heap.push (seqObj "list" vs.toArray 0)) s1.heap.objs.size vs ((arrOf st').map (·.2))).get? b = some u
  rw [sortedHeap_old (Nat.ne_of_lt hlt) (by rw [size_push']; exact Nat.lt_succ_of_lt hlt)]
  exact Heap.get?_push_of_some _ q
end
/-! ### over the layer -/
def SetSO (P : Program) (w : World) (a : Addr) (l : List Str) : HO := .ext fun h => SetS P w h a l
theorem setSO_new {w : World} {P : Program} {H : Hp} {h : Heap} {a : Addr} {l : List Str} (R : SetS P w h a l) : ObjOk P w H h a (SetSO P w a l) := by
  have ⟨D, ho, _⟩ := R
  exact ⟨R, ⟨_, ho⟩, fun h1 h2 p k => SetS.later p k⟩
section
variable {X : Cx}
theorem setSO_get {pins : List (Addr × Obj)} {σ : L2.St} {H : Hp} {s : Shared} {a : Addr} {l : List Str} (I : Inv X pins σ H s) (ha : H a = some (SetSO X.prog X.w a l)) : SetS X.prog X.w s.heap a l := (I.hok a _ ha).1
/-- one more text for the set at D -/
theorem addS_ok {pins : List (Addr × Obj)} {σ : L2.St} {H : Hp} {s : Shared} {A : Around} {E : Value → Shared → Prop} {D : Addr} {l : List Str} {k : Str} {u : Tok} {Q : Value → Shared → Prop} (I : Inv X pins σ H s) (hD : H D = some (SetSO X.prog X.w D l)) (room : l.length + 1 < scanBound)
    (h : ∀ s', Inv X pins σ (upd H D (SetSO X.prog X.w D (if k ∈ l then l else k :: l))) s' → Q .none s') : wpAny (model X.prog X.w) A (call (.builtin "set.add") [.ref D, .str k u]) Q E s := by
  refine setS_add (setSO_get I hD) room fun h' sb new => h _ ?_
  have he : ∃ o, h'.get? D = some o := by
    have ⟨_, ho, _⟩ := new
    exact ⟨_, ho⟩
  exact I.write (e := D) (t' := s.toks + 1) (by rw [hD]; trivial) (.inl rfl) (fun b u hb hu => (sb.2 b hb).trans hu) he (setSO_new new)
/-- sorted(a set of texts) -/
def rSortedTx (P : Program) (w : World) : List V → Hp → VK → Prop := fun vs H Q => ∃ (a : Addr) (l : List Str), vs = [V.ref a] ∧ H a = some (SetSO P w a l) ∧ l.length < 64 ∧
  ∀ (ys : List Str) (p : Addr), ys.Perm l → sortedS ys = true → H p = none → Q (.ref p) (upd H p (.lst (ys.map V.str)))
theorem cr_sortedTx (hc : X.calm = true) : CallR X (.builtin "sorted") (rSortedTx X.prog X.w) := by
  intro pins s σ H vs us Q I r h
  obtain ⟨a, l, rfl, ha, h64, q⟩ := h
  have R := setSO_get I ha
  rw [Vals.ref1 r]
  refine sorted_setS R (I.ok.hd hc) h64 fun s' p out c ys k g o hp hg hi hs pm => ?_
  have hlen : (ys.map V.str).length ≤ sizeLine := by rw [List.length_map, pm.length_eq, sizeLine_eq]; omega
  have hn : H p = none := I.hok.fresh hp
  have J : Inv X pins σ (upd H p (.lst (ys.map V.str))) { s with heap := s'.heap, gens := s'.gens, drawn := s'.drawn, toks := s'.toks } :=
    I.call (ch := []) (Un.laid k hp hn) (I.hok.laid k hp ⟨hlen, out.toList, c, vals_of_strs hi, hg⟩) (by rw [g]; exact I.bare) (fun _ z => nomatch z)
  obtain ⟨s'h, s'g, s'd, s't, s'o⟩ := s'
  have e : s'o = s.os := o
  subst e
  exact ⟨.ref p, _, J, rfl, q ys p pm hs hn⟩
end
end TxS
/-! ## S2 -/
set_option Elab.async false
set_option linter.all false
set_option maxRecDepth 100000
set_option maxHeartbeats 4000000
/-! ### {elt for a in xs if .. for b in ys if ..}, elt a text -/
namespace TxS
open PySem PySem.Spec PyProof.Rows L2 PySem.Froz
/-- the set comprehension of two clauses -/
abbrev SC2 (elt t0 i0 t1 i1 : Expr) (f0 f1 : List Expr) (scope : Scope) (pos : Pos) : Expr := .SetComp elt [⟨t0, i0, f0, 0⟩, ⟨t1, i1, f1, 0⟩] scope pos
theorem sc2_turn0 (elt t0 i0 t1 i1 : Expr) (f0 f1 : List Expr) (scope : Scope) (pos : Pos) (it acc : Value) (env : Env) :
    compTurn (SC2 elt t0 i0 t1 i1 f0 f1 scope pos) 0 it acc env = (do
      standAt i0.pos
      match ← pyNext it with
      | none => pure (.done .next)
      | some v =>
        letOwnedTupleGo t0 it v
        assign t0 env v
        let mut good := true
        for c in f0 do
          if good then good ← isTrue c env (eval c env)
        if good then
          let src ← eval i1 env
          standAt i1.pos
          let src ← foldedSetIterable i1 env src
          let _ ← runOwn (.compStart (SC2 elt t0 i0 t1 i1 f0 f1 scope pos) 1 (← holding [src] (pyIter src)) acc env) env
        again (.compLoop (SC2 elt t0 i0 t1 i1 f0 f1 scope pos) 0 it acc env)) := by rfl
theorem sc2_turn1 (elt t0 i0 t1 i1 : Expr) (f0 f1 : List Expr) (scope : Scope) (pos : Pos) (it acc : Value) (env : Env) :
    compTurn (SC2 elt t0 i0 t1 i1 f0 f1 scope pos) 1 it acc env = (do
      standAt i1.pos
      match ← pyNext it with
      | none => pure (.done .next)
      | some v =>
        letOwnedTupleGo t1 it v
        assign t1 env v
        let mut good := true
        for c in f1 do
          if good then good ← isTrue c env (eval c env)
        if good then
          (do let one ← eval elt env; standAt elt.pos; let _ ← call (.builtin "set.add") [acc, one])
        again (.compLoop (SC2 elt t0 i0 t1 i1 f0 f1 scope pos) 1 it acc env)) := by rfl
/-- what a clause's turn asks ahead of its end: the next item, its store, its tests -/
abbrev Clause (M : Model) (A : Around) (t : Expr) (fs : List Expr) (env : Env) (it : Value) (R : Result → Shared → Prop) (yes no : Shared → Prop) (s : Shared) : Prop :=
  wpAny M A (pyNext it) (fun r s₁ => match r with
    | none => R (.ok .next) s₁
    | some v => wpAny M A (letOwnedTupleGo t it v) (fun _ s₂ => wpAny M A (assign t env v) (fun _ s₃ =>
        wpAny M A (forIn fs true fun c r => if r = true then do let ok ← isTrue c env (eval c env); pure (ForInStep.yield ok) else pure (ForInStep.yield r)) (fun ok s₄ => if ok = true then yes s₄ else no s₄)
          (notedBy M A env fun e s' => R (.error e) s') s₃) (notedBy M A env fun e s' => R (.error e) s') s₂) (notedBy M A env fun e s' => R (.error e) s') s₁)
    (notedBy M A env fun e s' => R (.error e) s') s
section
variable {prog : Program} {w : World} {A : Around} {R : Result → Shared → Prop} {s : Shared} {elt t0 i0 t1 i1 : Expr} {f0 f1 : List Expr} {scope : Scope} {pos : Pos} {it acc : Value} {env : Env}
theorem sc2_loop0 (hs : ∀ x, foldedSetIterable i1 env x = pure x) (I : Nat → Shared → Prop)
    (turn : ∀ n s, I n s → Clause (model prog w) A t0 f0 env it R
      (fun s => wpAny (model prog w) A (eval i1 env) (fun x s => wpAny (model prog w) A (pyIter x) (fun j s =>
        codeAny (model prog w) A (.compStart (SC2 elt t0 i0 t1 i1 f0 f1 scope pos) 1 j acc env) (fun r s' => match r with
          | .ok _ => ∃ m, m < n ∧ I m s'
          | .error _ => False) s) (notedBy (model prog w) A env fun e s' => R (.error e) s') s) (notedBy (model prog w) A env fun e s' => R (.error e) s') s)
      (fun s => ∃ m, m < n ∧ I m s) s) (n : Nat) (h : I n s) :
    codeAny (model prog w) A (.compLoop (SC2 elt t0 i0 t1 i1 f0 f1 scope pos) 0 it acc env) R s := by
  refine codeAny_loop rfl I (fun n s hI => ?_) n h
  show wpAny _ A ((compTurn (SC2 elt t0 i0 t1 i1 f0 f1 scope pos) 0 it acc env).onRaise (fun x => do noteFrame x env; theTreesLotGoes x)) _ _ s
  refine wpAny_noted ?_
  rw [sc2_turn0]
  refine wpAny_bind (wpAny_standAt (wpAny_bind (wpAny_mono (turn n s hI) (fun r z1 k1 => ?_) fun _ _ k => k)))
  cases r with
  | none => exact wpAny_pure k1
  | some v =>
    refine wpAny_bind (wpAny_mono k1 (fun _ z2 k2 => wpAny_bind (wpAny_mono k2 (fun _ z3 k3 => wpAny_bind (wpAny_mono k3 (fun ok z4 k4 => ?_) fun _ _ k => k)) fun _ _ k => k)) fun _ _ k => k)
    cases ok with
    | false => exact wpAny_pure ⟨rfl, k4⟩
    | true =>
      refine wpAny_bind (wpAny_mono k4 (fun x z5 k5 => wpAny_bind (wpAny_standAt (wpAny_bind (wpAny_of_eq (hs x) (wpAny_bind (wpAny_holding (wpAny_mono k5 (fun j z6 k6 => ?_) fun _ _ k => k))))))) fun _ _ k => k)
      refine wpAny_bind (wpAny_runOwn ?_)
      rw [Around.mark_none]
      refine codeAny_mono k6 fun r s' hr => ?_
      cases r with
      | error e => exact hr.elim
      | ok f => first
          | exact wpAny_pure ⟨rfl, hr⟩
          | exact wpAny_bind (wpAny_pure (wpAny_pure ⟨rfl, hr⟩))
theorem sc2_loop1 (I : Nat → Shared → Prop)
    (turn : ∀ n s, I n s → Clause (model prog w) A t1 f1 env it R
      (fun s => wpAny (model prog w) A (eval elt env) (fun x s => wpAny (model prog w) A (call (.builtin "set.add") [acc, x]) (fun _ s => ∃ m, m < n ∧ I m s)
        (notedBy (model prog w) A env fun e s' => R (.error e) s') s) (notedBy (model prog w) A env fun e s' => R (.error e) s') s)
      (fun s => ∃ m, m < n ∧ I m s) s) (n : Nat) (h : I n s) :
    codeAny (model prog w) A (.compLoop (SC2 elt t0 i0 t1 i1 f0 f1 scope pos) 1 it acc env) R s := by
  refine codeAny_loop rfl I (fun n s hI => ?_) n h
  show wpAny _ A ((compTurn (SC2 elt t0 i0 t1 i1 f0 f1 scope pos) 1 it acc env).onRaise (fun x => do noteFrame x env; theTreesLotGoes x)) _ _ s
  refine wpAny_noted ?_
  rw [sc2_turn1]
  refine wpAny_bind (wpAny_standAt (wpAny_bind (wpAny_mono (turn n s hI) (fun r z1 k1 => ?_) fun _ _ k => k)))
  cases r with
  | none => exact wpAny_pure k1
  | some v =>
    refine wpAny_bind (wpAny_mono k1 (fun _ z2 k2 => wpAny_bind (wpAny_mono k2 (fun _ z3 k3 => wpAny_bind (wpAny_mono k3 (fun ok z4 k4 => ?_) fun _ _ k => k)) fun _ _ k => k)) fun _ _ k => k)
    cases ok with
    | false => exact wpAny_pure ⟨rfl, k4⟩
    | true => exact wpAny_bind (wpAny_bind (wpAny_mono k4 (fun x z5 k5 => wpAny_bind (wpAny_standAt (wpAny_bind (wpAny_mono k5 (fun _ z6 k6 => wpAny_pure (wpAny_pure ⟨rfl, k6⟩)) fun _ _ k => k)))) fun _ _ k => k))
/-- the start of either clause's loop -/
theorem sc2_start {d : Nat} (hd : d = 0 ∨ d = 1) (h0 : codeAny (model prog w) A (.compLoop (SC2 elt t0 i0 t1 i1 f0 f1 scope pos) d it acc env) R s)
    (h : wpAny (model prog w) A (pyIter it) (fun j s' => codeAny (model prog w) A (.compLoop (SC2 elt t0 i0 t1 i1 f0 f1 scope pos) d j acc env) R s') (notedBy (model prog w) A env fun x s' => R (.error x) s') s) :
    codeAny (model prog w) A (.compStart (SC2 elt t0 i0 t1 i1 f0 f1 scope pos) d it acc env) R s := by
  rcases hd with e | e <;> subst e <;> refine codeAny_of_tree ?_
  · show wpAny _ _ ((compStart (SC2 elt t0 i0 t1 i1 f0 f1 scope pos) 0 it acc env).onRaise (fun x => do noteFrame x env; standAt theWindowsPlace)) _ _ s
    refine wpAny_notedAt ?_
    unfold compStart
    show wpAny _ _ (ask >>= _) _ _ s
    refine wpAny_bind (wpAny_askSetting (wpAny_ite ?_))
    split
    · first | exact wpAny_pure (And.intro rfl h0) | exact wpAny_bind (wpAny_pure (wpAny_pure (And.intro rfl h0)))
    · exact wpAny_bind (wpAny_rule (wpAny_bind (wpAny_standAt (wpAny_bind (wpAny_mono h (fun j s' k => wpAny_pure (And.intro rfl k)) fun _ _ x => x)))))
  · show wpAny _ _ ((compStart (SC2 elt t0 i0 t1 i1 f0 f1 scope pos) 1 it acc env).onRaise (fun x => do noteFrame x env; standAt theWindowsPlace)) _ _ s
    refine wpAny_notedAt ?_
    unfold compStart
    show wpAny _ _ (ask >>= _) _ _ s
    refine wpAny_bind (wpAny_askSetting (wpAny_ite ?_))
    split
    · first | exact wpAny_pure (And.intro rfl h0) | exact wpAny_bind (wpAny_pure (wpAny_pure (And.intro rfl h0)))
    · exact wpAny_bind (wpAny_rule (wpAny_bind (wpAny_standAt (wpAny_bind (wpAny_mono h (fun j s' k => wpAny_pure (And.intro rfl k)) fun _ _ x => x)))))
end
end TxS
/-! ## S3 -/
set_option Elab.async false
set_option linter.all false
set_option maxRecDepth 100000
set_option maxHeartbeats 4000000
namespace TxS
open PySem PySem.Spec PyProof.Rows L2 PySem.Froz PpSet
section
variable {X : Cx}
/-- what a turn that is kept asks: a text, the set as it is at D, room for it -/
def Adds (P : Program) (w : World) (D : Addr) (Nx : Hp → Prop) : VK := fun y H => ∃ (k : Str) (l : List Str), y = .str k ∧ H D = some (SetSO P w D l) ∧ l.length + 1 < scanBound ∧ Nx (upd H D (SetSO P w D (if k ∈ l then l else k :: l)))
/-- {elt for a in xs if .. for b in ys if ..}: D the new set; vs: the block's names, vs1: those of the second clause -/
def tSc2 (P : Program) (w : World) (wi : TI) (g : TG) (tt : TT) (wi1 : TI) (g1 : TG) (tt1 : TT) (te : TE) (vs vs1 : List Nat) : TE := fun σ H Q => wi σ H fun J Ha => ∀ D, Ha D = none →
  ∃ W : Nat → Nat → Hp → Prop, (∃ m, W 0 m (upd Ha D (SetSO P w D []))) ∧ ∀ i m Hb, W i m Hb → (J.stop i Hb ∧ Q (.ref D) Hb) ∨
    (J.go i Hb ∧ ∃ Nx : Hp → Prop, (∀ Hc, Nx Hc → ∃ m', m' < m ∧ W (i + 1) m' Hc) ∧ ∀ x Hc, J.yld i Hb x Hc → g x (wipe σ vs) Hc fun σ2 Hd => wipe σ2 vs = wipe σ vs ∧ tt σ2 Hd fun b He =>
      if b = true then wi1 σ2 He fun J1 Hf => ∃ W1 : Nat → Nat → Hp → Prop, (∃ m, W1 0 m Hf) ∧ ∀ j k Hg, W1 j k Hg → (J1.stop j Hg ∧ Nx Hg) ∨
        (J1.go j Hg ∧ ∃ Nx1 : Hp → Prop, (∀ Hh, Nx1 Hh → ∃ k', k' < k ∧ W1 (j + 1) k' Hh) ∧ ∀ x Hh, J1.yld j Hg x Hh → g1 x (wipe σ2 vs1) Hh fun σ3 Hi => wipe σ3 vs1 = wipe σ2 vs1 ∧ tt1 σ3 Hi fun b Hj =>
          if b = true then te σ3 Hj (Adds P w D Nx1) else Nx1 Hj)
      else Nx He)
theorem pe_sc2 {elt t0 i0 t1 i1 : Expr} {f0 f1 : List Expr} {scope : Scope} {own : List (PySem.Str × Nat)} {vs1 : List Nat} {pos : Pos} {wi wi1 : TI} {g g1 : TG} {tt tt1 : TT} {te : TE} (hc : X.calm = true) (hN : X.N.Nodup) (hi : PI X t0 i0 wi) (ok : BlkOk X.N X.env.scope scope own) (hv : ∀ i ∈ vs1, i ∈ own.map (·.2))
    (hg : ∀ s H C cl fp, PG (X.blk s H scope (compEnvC scope cl C X.env) fp) t0 g) (ht : ∀ s H C cl fp, PTs (X.blk s H scope (compEnvC scope cl C X.env) fp) f0 tt)
    (hi1 : ∀ s H C cl fp, PI (X.blk s H scope (compEnvC scope cl C X.env) fp) t1 i1 wi1)
    (hg1 : ∀ s H C cl fp, PG (X.blk s H scope (compEnvC scope cl C X.env) fp) t1 g1) (ht1 : ∀ s H C cl fp, PTs (X.blk s H scope (compEnvC scope cl C X.env) fp) f1 tt1)
    (he : ∀ s H C cl fp, PE (X.blk s H scope (compEnvC scope cl C X.env) fp) elt te) (hs : ∀ x, foldedSetIterable i0 X.env x = pure x := by intro _; rfl) (hs1 : ∀ env x, foldedSetIterable i1 env x = pure x := by intro _ _; rfl) :
    PE X (SC2 elt t0 i0 t1 i1 f0 f1 scope pos) (tSc2 X.prog X.w wi g tt wi1 g1 tt1 te (own.map (·.2)) vs1) := by
  refine ⟨fun pins s σ H Q I h => ?_⟩
  rw [eval_SetComp]
  -- the block's free names are cells of the frame
  have hfree : ∀ y ∈ scope.names, y.2 = .free → ∃ c, X.env.cells.lookup y.1 = some c := fun y hy e => (ok.free y hy e).elim (fun k => I.ok.has _ (.inl k)) fun k => I.ok.has _ (.inr k)
  refine wpAny_comprehension_free rfl hs (closure_ok hfree) ok.kind (fun y hy e => by rw [ok.uniq y hy, e]) (thn (hi.run pins s σ H _ I h) fun xv s1 hx => thn hx fun itv s2 hz => ?_)
  obtain ⟨it, fp, tn, J, Ha, e, Ia, T, sta, fa, q⟩ := hz
  subst e
  refine newSet_ok (newEnv_comp ?_)
  generalize hD : s2.heap.objs.size = D
  have hDn : Ha D = none := Ia.hok.fresh (Nat.le_of_eq hD)
  obtain ⟨W, ⟨m0, w0⟩, turn⟩ := q D hDn
  -- the set is made
  generalize hsb : ({ s2 with heap := s2.heap.push { cls := .type "set", dict := none, data := .set #[] 0 (.fresh 0 0 (!X.w.params.followText "set-order")) } } : Shared) = sb
  have heb : sb.heap = s2.heap.push { cls := .type "set", dict := none, data := .set #[] 0 (.fresh 0 0 (!X.w.params.followText "set-order")) } := by rw [← hsb]
  have Ib : Inv X pins σ (upd Ha D (SetSO X.prog X.w D [])) sb := by
    rw [← hsb]
    exact Ia.laid (t' := s2.toks) (fun b o e => Heap.get?_push_of_some _ e) (Nat.le_of_eq hD) (by rw [← hD]; exact setSO_new (SetS.fresh X.prog X.w))
  have fb : ∀ b ∈ fp, FpOk X pins (upd Ha D (SetSO X.prog X.w D [])) b ∧ b < sb.heap.objs.size := fun b hb => by
    obtain ⟨o, eo, _⟩ := T.obj _ _ sta b hb
    have hlt := Heap.lt_size eo
    refine ⟨⟨?_, (fa b hb).2⟩, by rw [heb, Heap.size_push]; exact Nat.lt_succ_of_lt hlt⟩
    rw [upd_ne (by rw [← hD]; exact Nat.ne_of_lt hlt)]
    exact (fa b hb).1
  have stb : tn 0 sb.heap := T.keep _ _ _ sta fun b _ o e => by rw [heb]; exact Heap.get?_push_of_some _ e
  have Ic := block_start Ib ok hN fb
  have pg := hg sb (upd Ha D (SetSO X.prog X.w D [])) sb.heap.objs.size (cellsFrom (sb.heap.objs.size + 1) scope.names (cloFrom X.env.cells scope.names [])) fp
  have pt := ht sb (upd Ha D (SetSO X.prog X.w D [])) sb.heap.objs.size (cellsFrom (sb.heap.objs.size + 1) scope.names (cloFrom X.env.cells scope.names [])) fp
  have pe := he sb (upd Ha D (SetSO X.prog X.w D [])) sb.heap.objs.size (cellsFrom (sb.heap.objs.size + 1) scope.names (cloFrom X.env.cells scope.names [])) fp
  have pj := hi1 sb (upd Ha D (SetSO X.prog X.w D [])) sb.heap.objs.size (cellsFrom (sb.heap.objs.size + 1) scope.names (cloFrom X.env.cells scope.names [])) fp
  have pg' := hg1 sb (upd Ha D (SetSO X.prog X.w D [])) sb.heap.objs.size (cellsFrom (sb.heap.objs.size + 1) scope.names (cloFrom X.env.cells scope.names [])) fp
  have pt' := ht1 sb (upd Ha D (SetSO X.prog X.w D [])) sb.heap.objs.size (cellsFrom (sb.heap.objs.size + 1) scope.names (cloFrom X.env.cells scope.names [])) fp
  have nfp : ∀ b ∈ fp, (upd Ha D (SetSO X.prog X.w D [])) b = none := fun b hb => (fb b hb).1.1
  show codeAny _ _ (.compStart (SC2 elt t0 i0 t1 i1 f0 f1 scope pos) 0 (.ref it) (.ref D) (compEnvC scope (cellsFrom (sb.heap.objs.size + 1) scope.names (cloFrom X.env.cells scope.names [])) sb.heap.objs.size X.env)) _ { sb with heap := pushCells (sb.heap.push { cls := .type "dict", data := .dict #[] }) scope.names }
  generalize hce : compEnvC scope (cellsFrom (sb.heap.objs.size + 1) scope.names (cloFrom X.env.cells scope.names [])) sb.heap.objs.size X.env = ce at Ic pg pt pe pj pg' pt' ⊢
  have cL : ce.locals = sb.heap.objs.size := by subst hce; rfl
  generalize hHb : upd Ha D (SetSO X.prog X.w D []) = Hb at Ib Ic pg pt pe pj pg' pt' w0 nfp fb
  generalize hsc : ({ sb with heap := pushCells (sb.heap.push { cls := .type "dict", data := .dict #[] }) scope.names } : Shared) = sc at Ic ⊢
  have stc : tn 0 sc.heap := T.keep _ _ _ stb fun b _ o e => by rw [← hsc]; exact pushCells_keeps _ _ _ _ (Heap.get?_push_of_some _ e)
  have stat : ∀ {σ' : L2.St} {H' : Hp} {s' : Shared}, Inv (X.blk sb Hb scope ce fp) [] σ' H' s' → (∀ b ∈ fp, H' b = none) → ∀ b ∈ fp, FpOk (X.blk sb Hb scope ce fp) [] H' b := fun {σ' H' s'} I' hn b hb =>
    ⟨hn b hb, (I'.ok.exf b hb).1, I'.ok.exfs b hb, .inl hb, fun x c e => (I'.ok.exf b hb).2 x c e, fun p hp => absurd (show p ∈ ([] : List (Addr × Obj)) ++ [] from hp) (by simp)⟩
  refine sc2_start (.inl rfl) ?L (T.self X.A 0 _ _ _ stc ?L)
  refine sc2_loop0 (hs1 ce) (fun n s' => ∃ i H', Inv (X.blk sb Hb scope ce fp) [] (wipe σ (own.map (·.2))) H' s' ∧ tn i s'.heap ∧ (∀ b ∈ fp, H' b = none) ∧ W i n H') ?_ m0 ⟨0, Hb, Ic, stc, nfp, w0⟩
  rintro n s5 ⟨i, H5, I5, st5, n5, w5⟩
  rcases turn i n H5 w5 with ⟨stop, qq⟩ | ⟨go, Nx, hNx, step⟩
  · -- the end: back in the def's frame
    refine thnF (T.done (X.blk sb Hb scope ce fp) rfl rfl rfl hc i [] s5 _ H5 (fun _ _ => False) I5 (stat I5 n5) st5 stop) fun r s6 ⟨hr, I6⟩ => ?_
    subst hr
    have I7 : Inv X pins σ H5 s6 := Ib.call' (ch := fp) I6.os I6.base I6.hok I6.bare fun b hb => ⟨(fb b hb).1.2.2.2.1, (fb b hb).1.2.1, (fb b hb).1.2.2.2.2.1, (fb b hb).1.2.2.2.2.2⟩
    have nC : H5 sb.heap.objs.size = none := by
      have z : H5 ce.locals = none := I6.free
      rwa [cL] at z
    obtain ⟨m, hn, _⟩ := I6.loc
    have hn : s6.heap.Ns ce.locals m := hn
    rw [cL] at hn
    obtain ⟨a0, a1, a2, a3, a4, a5⟩ := Ib.fpOk (Nat.le_refl _) nC
    exact ⟨m, hn, fun h'' sb' => ⟨.ref D, H5, I7.turned (t' := s6.toks) (fun b o hb e => (sb'.2 b hb).trans e) a0 a1 a3 a4 a5, rfl, qq⟩⟩
  · refine thnF (T.item (X.blk sb Hb scope ce fp) rfl rfl rfl hc i [] s5 _ H5 (fun _ _ => False) I5 (stat I5 n5) st5 go) fun r s6 ⟨u, hr, h6⟩ => ?_
    subst hr
    refine thnF h6 fun _ s7 ⟨x, H7, I7, r7, y7, st7, n7⟩ => ?_
    refine thnF (pg.run _ s7 _ H7 x u _ (I7.pinned (stat I7 n7) (T.obj _ _ st7)) r7 (step x H7 y7)) fun _ s8 ⟨σ8, H8, I8, hw8, q8⟩ => thnF (pt.run _ s8 σ8 H8 _ I8 q8) fun b s9 ⟨H9, I9, q9⟩ => ?_
    -- a turn's end, whatever slots are known
    have fin : ∀ {σ9 : L2.St} {s' : Shared} {H' : Hp}, Inv (X.blk sb Hb scope ce fp) ([] ++ pinsAt fp s7.heap) σ9 H' s' → (wipe σ (own.map (·.2))).length = σ9.length → (∀ (j : Nat) v, (wipe σ (own.map (·.2)))[j]? = some (some v) → σ9[j]? = some (some v)) → Nx H' →
        ∃ m, m < n ∧ ∃ i H', Inv (X.blk sb Hb scope ce fp) [] (wipe σ (own.map (·.2))) H' s' ∧ tn i s'.heap ∧ (∀ b ∈ fp, H' b = none) ∧ W i m H' := fun {σ9 s' H'} I' hl hk nx => by
      obtain ⟨m', hm, w'⟩ := hNx H' nx
      have pin' : ∀ b ∈ fp, ∀ o, s7.heap.get? b = some o → s'.heap.get? b = some o ∧ H' b = none := fun b hb o e =>
        let z := I'.pin (b, o) (List.mem_append_right _ (List.mem_append_right _ (mem_pinsAt hb e)))
        ⟨z.1, z.2.1⟩
      exact ⟨m', hm, i + 1, H', (I'.unpinned (pins := [])).weak hl hk, T.keep _ _ _ st7 fun b hb o e => (pin' b hb o e).1, fun b hb => let ⟨o, eo, _⟩ := T.obj _ _ st7 b hb; (pin' b hb o eo).2, w'⟩
    have hl8 : (wipe σ (own.map (·.2))).length = σ8.length := by rw [← hw8, wipe_length]
    have hk8 : ∀ (j : Nat) v, (wipe σ (own.map (·.2)))[j]? = some (some v) → σ8[j]? = some (some v) ∧ j ∉ own.map (·.2) := fun j v e => by
      rw [← hw8] at e
      exact wipe_some e
    cases b with
    | false =>
      simp only [Bool.false_eq_true, if_false] at q9 ⊢
      exact fin I9 hl8 (fun j v e => (hk8 j v e).1) q9
    | true =>
      simp only [if_true] at q9 ⊢
      refine thnF (pj.run _ s9 σ8 H9 _ I9 q9) fun xv s10 hx => thnF hx fun itv s11 hz => ?_
      obtain ⟨jt, fq, tm, J1, H11, e1, I11, T1, st11, f11, W1, ⟨m1, w1⟩, turn1⟩ := hz
      subst e1
      have statq : ∀ {H' : Hp}, (∀ b ∈ fq, H' b = none) → ∀ b ∈ fq, FpOk (X.blk sb Hb scope ce fp) ([] ++ pinsAt fp s7.heap) H' b := fun hn b hb => ⟨hn b hb, (f11 b hb).2⟩
      refine sc2_start (.inr rfl) ?M (T1.self X.A 0 _ _ _ st11 ?M)
      refine sc2_loop1 (fun k s' => ∃ j H', Inv (X.blk sb Hb scope ce fp) ([] ++ pinsAt fp s7.heap) (wipe σ8 vs1) H' s' ∧ tm j s'.heap ∧ (∀ b ∈ fq, H' b = none) ∧ W1 j k H') ?_ m1 ⟨0, H11, I11.weak (wipe_length _ _) (fun j v e => (wipe_some e).1), st11, fun b hb => (f11 b hb).1, w1⟩
      rintro k s12 ⟨j, H12, I12, st12, n12, w12⟩
      rcases turn1 j k H12 w12 with ⟨stop1, nx1⟩ | ⟨go1, Nx1, hNx1, step1⟩
      · refine thnF (T1.done (X.blk sb Hb scope ce fp) rfl rfl rfl hc j _ s12 (wipe σ8 vs1) H12 (fun _ _ => False) I12 (statq n12) st12 stop1) fun r s13 ⟨hr, I13⟩ => ?_
        subst hr
        exact fin I13 (hl8.trans (wipe_length σ8 vs1).symm) (fun j v e => by
          obtain ⟨e1, e2⟩ := hk8 j v e
          rw [wipe_out fun z => e2 (hv j z)]
          exact e1) nx1
      · refine thnF (T1.item (X.blk sb Hb scope ce fp) rfl rfl rfl hc j _ s12 (wipe σ8 vs1) H12 (fun _ _ => False) I12 (statq n12) st12 go1) fun r s13 ⟨u1, hr, h13⟩ => ?_
        subst hr
        refine thnF h13 fun _ s14 ⟨x1, H14, I14, r14, y14, st14, n14⟩ => ?_
        refine thnF (pg'.run _ s14 (wipe σ8 vs1) H14 x1 u1 _ (I14.pinned (statq n14) (T1.obj _ _ st14)) r14 (step1 x1 H14 y14)) fun _ s15 ⟨σ15, H15, I15, hw15, q15⟩ => thnF (pt'.run _ s15 σ15 H15 _ I15 q15) fun b1 s16 ⟨H16, I16, q16⟩ => ?_
        have fin1 : ∀ {s' : Shared} {H' : Hp}, Inv (X.blk sb Hb scope ce fp) (([] ++ pinsAt fp s7.heap) ++ pinsAt fq s14.heap) σ15 H' s' → Nx1 H' →
            ∃ m, m < k ∧ ∃ j H', Inv (X.blk sb Hb scope ce fp) ([] ++ pinsAt fp s7.heap) (wipe σ8 vs1) H' s' ∧ tm j s'.heap ∧ (∀ b ∈ fq, H' b = none) ∧ W1 j m H' := fun {s' H'} I' nx => by
          obtain ⟨m', hm, w'⟩ := hNx1 H' nx
          have pin' : ∀ b ∈ fq, ∀ o, s14.heap.get? b = some o → s'.heap.get? b = some o ∧ H' b = none := fun b hb o e =>
            let z := I'.pin (b, o) (List.mem_append_right _ (List.mem_append_right _ (mem_pinsAt hb e)))
            ⟨z.1, z.2.1⟩
          exact ⟨m', hm, j + 1, H', I'.unpinned.weak (by rw [← hw15, wipe_length]) (fun j v e => by rw [← hw15] at e; exact (wipe_some e).1), T1.keep _ _ _ st14 fun b hb o e => (pin' b hb o e).1, fun b hb => let ⟨o, eo, _⟩ := T1.obj _ _ st14 b hb; (pin' b hb o eo).2, w'⟩
        cases b1 with
        | false =>
          simp only [Bool.false_eq_true, if_false] at q16 ⊢
          exact fin1 I16 q16
        | true =>
          simp only [if_true] at q16 ⊢
          refine thnF (pe.run _ s16 σ15 H16 _ I16 q16) fun z s17 ⟨yv, H17, I17, r17, k0, l0, ey, hD17, hz17, nx⟩ => ?_
          subst ey
          obtain ⟨u0, rfl⟩ := r17
          exact addS_ok (X := X.blk sb Hb scope ce fp) I17 hD17 hz17 fun s18 I18 => fin1 I18 nx
end
end TxS
/-! ## P5 -/
set_option Elab.async false
set_option linter.all false
set_option maxRecDepth 100000
set_option maxHeartbeats 4000000
namespace Sl
open PySem PySem.Spec PyProof.Rows L2
/-! ### moves and rows -/
/-- a move: the next state, what is told -/
abbrev Mv := Int × Option Str
def toldV : Option Str → V
  | none => .non
  | some z => .str z
/-- the tuple of a move at t -/
def MvAt (H : Hp) (t : Addr) (m : Mv) : Prop := H t = some (.tup [.int m.1, toldV m.2])
inductive Ents (H : Hp) : List (Str × Addr) → List (Str × Mv) → Prop
  | nil : Ents H [] []
  | cons {z : Str} {t : Addr} {m : Mv} {es : List (Str × Addr)} {r : List (Str × Mv)} : MvAt H t m → Ents H es r → Ents H ((z, t) :: es) ((z, m) :: r)
def kvsOf (es : List (Str × Addr)) : List (Key × V) := es.map fun e => (Sum.inr e.1, V.ref e.2)
/-- the dict of a state at d -/
def RowAt (H : Hp) (d : Addr) (r : List (Str × Mv)) : Prop := ∃ es, H d = some (.dK (kvsOf es)) ∧ Ents H es r
theorem Ents.ext {H H' : Hp} {es : List (Str × Addr)} {r : List (Str × Mv)} (h : ∀ t xs, H t = some (.tup xs) → H' t = some (.tup xs)) : Ents H es r → Ents H' es r
  | .nil => .nil
  | .cons m e => .cons (h _ _ m) (Ents.ext h e)
theorem Ents.len {H : Hp} : ∀ {es : List (Str × Addr)} {r : List (Str × Mv)}, Ents H es r → es.length = r.length
  | _, _, .nil => rfl
  | _, _, .cons _ e => congrArg (· + 1) e.len
theorem Ents.at_ {H : Hp} : ∀ {es : List (Str × Addr)} {r : List (Str × Mv)} {i : Nat} {e : Str × Addr}, Ents H es r → es[i]? = some e → ∃ m, r[i]? = some (e.1, m) ∧ MvAt H e.2 m
  | _, _, 0, _, .cons (m := m) h _, q => by
    cases q
    exact ⟨m, rfl, h⟩
  | _, _, i + 1, _, .cons _ h, q => h.at_ (i := i) q
  | _, _, 0, _, .nil, q => by cases q
  | _, _, i + 1, _, .nil, q => by cases q
/-- a move that a reader of n states may have -/
def okMv (n : Int) (m : Mv) : Prop := (0 ≤ m.1 ∧ m.1 < n) ∧ ∀ z, m.2 = some z → nameS z = true ∧ z.length ≤ 8
def okRow (n : Int) (r : List (Str × Mv)) : Prop := ∀ e ∈ r, (signS e.1 = true ∧ e.1.length = 1) ∧ okMv n e.2
/-- a right move, and what stood stands -/
def spIsMove : Sp := fun vs H Q _ => ∃ (t : Addr) (m : Mv) (n : Int), vs = [.ref t, .int n] ∧ MvAt H t m ∧ okMv n m ∧ ∀ H', Ext H H' → Q (.bl true) H'
/-- a right row -/
def spIsRow : Sp := fun vs H Q _ => ∃ (d : Addr) (r : List (Str × Mv)) (n : Int), vs = [.ref d, .int n] ∧ RowAt H d r ∧ okRow n r ∧ r.length ≤ 100 ∧ ∀ H', Ext H H' → Q (.bl true) H'
section
variable {P : Program} {w : World} {K : PySem.W.Frag} {mg : Str → Option Value} {base : Heap}
theorem scIsMove : FnScope ["value", "many", "after", "told"] ["value", "many"] (defScope sIsMove) := ⟨rfl, rfl, rfl, by decide +kernel, rfl, by decide +kernel, by decide +kernel⟩
theorem ok_ismove {f fB fN : Addr} {fd fdB fdN : FuncData} (F : Fun K "_is_move" "_is_move" sIsMove f fd) (aB : At K mg "is_below" fB fdB ["value", "limit"] []) (gB : FnOk P w K mg base CX0 2 fB fdB ["value", "limit"] (spBelow K))
    (aN : At K mg "is_name" fN fdN ["value"] []) (gN : FnOk P w K mg base CX0 2 fN fdN ["value"] (spText nameS)) (zz : mg "isinstance" = none) (zt : mg "tuple" = none) (zn : mg "len" = none) :
    FnOk P w K mg base CX0 3 f fd ["value", "many"] spIsMove := by
  refine F.ok scIsMove (fun vs H Q E h => ?_) (fun cdv A outer s H vs Q E hr h => ?_)
  · obtain ⟨t, m, n, rfl, _⟩ := h
    rfl
  · obtain ⟨t, ⟨g, o⟩, n, rfl, ht, ⟨hg, ho⟩, q⟩ := h
    have ht : H t = some (.tup [.int g, toldV o]) := ht
    refine ⟨_, pss_cons (ps_if (PW.pt (pw_or (pt_not (pt_val (pe_callB call_isi (by rfl) zz (by decide +kernel) (pa_cons (pv 0) (pa_cons (pe_bltn (by rfl) zt (by decide +kernel) (rel_ty "tuple")) pa_nil)))))
          (pw_or1 (pt_cmpR op_ne (pe_callB call_len_seq (by rfl) zn PySem.boot_len (pa_cons (pv 0) pa_nil)) pe_int (nomark _))))) (pss_one (ps_ret pe_bl)) pss_nil)
      (pss_cons (ps_asg (pv 0) (pg_tup (by rfl) (pgs_cons (pg_name (i := 2) scIsMove.nd rfl (.inl rfl)) (pgs_cons (pg_name (i := 3) scIsMove.nd rfl (.inl rfl)) pgs_nil))))
      (pss_one (ps_ret (pe_and (pe_call gB hr (by rfl) aB.g aB.kp aB.b .nil pass0 (pa_cons (pv 2) (pa_cons (pv 1) pa_nil)))
        (pe_one (pe_or (pe_cmpR op_isN (pv 3) pe_non (nomark _)) (pe_one (pe_call gN hr (by rfl) aN.g aN.kp aN.b .nil pass0 (pa_cons (pv 3) pa_nil))))))))), ?_⟩
    refine ⟨_, rfl, _, _, .type "tuple", _, true, rfl, .ty _, .base (.tup ht), kit_ty (by decide +kernel), true, rfl, ?_⟩
    refine iteF ?_
    refine ⟨_, rfl, t, _, rfl, .inr (SqT.of ht), rfl, _, rfl, ?_⟩
    refine iteNS (by rfl) ?_
    refine ⟨_, rfl, t, _, rfl, SqT.of ht, rfl, _, _, rfl, _, _, rfl, rfl, ?_⟩
    refine ⟨_, rfl, _, rfl, .int g, n, rfl, .inl ⟨g, rfl⟩, ?_⟩
    have e : below (.int g) n = true := by
      unfold below
      simp [hg.1, hg.2]
    rw [e]
    refine ⟨true, rfl, ?_⟩
    cases o with
    | none =>
      refine ⟨_, rfl, rfl, true, rfl, ?_⟩
      exact q H (Ext.refl H)
    | some z =>
      obtain ⟨h1, h2⟩ := ho z rfl
      refine ⟨_, rfl, rfl, false, rfl, ?_⟩
      refine ⟨_, rfl, z, rfl, by omega, fun H' e => ?_⟩
      rw [h1]
      exact q H' e
end
end Sl
/-! ## P6 -/
set_option Elab.async false
set_option linter.all false
set_option maxRecDepth 100000
set_option maxHeartbeats 4000000
namespace Sl
open PySem PySem.Spec PyProof.Rows L2
theorem small_list {n : Nat} (h : n ≤ 10000) : n < sizeLine := by
  rw [sizeLine_eq]
  omega
theorem kvs_at {es : List (Str × Addr)} {i : Nat} {x y : V} (h1 : (kvsOf es)[i]?.map (fun kv => kV kv.1) = some x) (h2 : (kvsOf es)[i]?.map Prod.snd = some y) : ∃ e, es[i]? = some e ∧ x = .str e.1 ∧ y = .ref e.2 := by
  unfold kvsOf at h1 h2
  rw [List.getElem?_map] at h1 h2
  cases e : es[i]? with
  | none =>
    rw [e] at h1
    cases h1
  | some e0 =>
    rw [e] at h1 h2
    exact ⟨e0, rfl, (Option.some.inj h1).symm, (Option.some.inj h2).symm⟩
section
variable {P : Program} {w : World} {K : PySem.W.Frag} {mg : Str → Option Value} {base : Heap}
theorem scIsRow : FnScope ["value", "many", "sign", "move"] ["value", "many"] (defScope sIsRow) := ⟨rfl, rfl, rfl, by decide +kernel, rfl, by decide +kernel, by decide +kernel⟩
theorem ok_isrow {f fS fM : Addr} {fd fdS fdM : FuncData} (F : Fun K "_is_reader_state" "_is_reader_state" sIsRow f fd) (aS : At K mg "is_sign" fS fdS ["value"] []) (gS : FnOk P w K mg base CX0 2 fS fdS ["value"] (spText signS))
    (aM : At K mg "_is_move" fM fdM ["value", "many"] []) (gM : FnOk P w K mg base CX0 3 fM fdM ["value", "many"] spIsMove) (zz : mg "isinstance" = none) (zd : mg "dict" = none) (za : mg "all" = none) :
    FnOk P w K mg base CX0 4 f fd ["value", "many"] spIsRow := by
  refine F.ok scIsRow (fun vs H Q E h => ?_) (fun cdv A outer s H vs Q E hr h => ?_)
  · obtain ⟨d, r, n, rfl, _⟩ := h
    rfl
  · obtain ⟨d, r, n, rfl, ⟨es, hd, he⟩, hok, hl, q⟩ := h
    refine ⟨_, pss_cons (ps_if (pt_not (pt_val (pe_callB call_isi (by rfl) zz (by decide +kernel) (pa_cons (pv 0) (pa_cons (pe_bltn (by rfl) zd (by decide +kernel) (rel_ty "dict")) pa_nil))))) (pss_one (ps_ret pe_bl)) pss_nil)
      (pss_one (ps_ret (pe_callB (cr_all rfl) (by rfl) za (by decide +kernel) (pa_cons (pe_lock (pe_lc (own := [("sign", 2), ("move", 3)]) (g := gTup K 2 (gCons (gName 2) (gCons (gName 3) gNil))) (tt := tYes) rfl scIsRow.nd (pi_items (pv 0)) (blkOk_by (N := ["value", "many", "sign", "move"]) (sc := defScope sIsRow) (by decide +kernel))
          (fun _ _ _ _ _ => pg_tup rfl (pgs_cons (pg_name (i := 2) scIsRow.nd rfl (Or.inl rfl)) (pgs_cons (pg_name (i := 3) scIsRow.nd rfl (Or.inl rfl)) pgs_nil))) (fun _ _ _ _ _ => pts_nil)
          (fun _ _ _ _ _ => pe_and (pe_call gS (hr.mono (by decide)) (by rfl) aS.g aS.kp aS.b .nil pass0 (pa_cons (pv 2) pa_nil)) (pe_one (pe_call gM hr (by rfl) aM.g aM.kp aM.b .nil pass0 (pa_cons (pv 3) (pa_cons (pv 1) pa_nil))))))) pa_nil)))), ?_⟩
    refine ⟨_, rfl, _, _, .type "dict", _, true, rfl, .ty _, .base (.dK hd), kit_ty (by decide +kernel), true, rfl, ?_⟩
    refine iteF ?_
    refine ⟨d, _, hd, trivial, fun od => ?_⟩
    refine ⟨_, rfl, d, od, _, rfl, upd_same, fun D hD => ?_⟩
    have ndD : d ≠ D := ne_of_none upd_same hD
    have hD0 : H D = none := by
      rw [upd_ne ndD.symm] at hD
      exact hD
    have hlen : es.length ≤ 100 := by
      rw [he.len]
      exact hl
    have tup : ∀ {H' : Hp}, Ext (upd H d (.frz od (.dK (kvsOf es)))) H' → ∀ t xs, H t = some (.tup xs) → H' t = some (.tup xs) := fun x t xs e => x _ _ (by
      rw [upd_ne (ne_of e hd (by intro z; cases z))]
      exact e)
    refine lc_it walk_items (fun i H' => Ext (upd H d (.frz od (.dK (kvsOf es)))) H' ∧ H' D = some (.lst ((List.replicate i true).map V.bl))) ⟨Ext.new hD, upd_same⟩ (fun i H' _ h => h.1 _ _ upd_same) ?_ ?_
    · rintro i x H1 H2 hi ⟨h1, h2⟩ ⟨T, x1, y1, rfl, nT, rfl, q1, q2⟩
      obtain ⟨e, he1, rfl, rfl⟩ := kvs_at q1 q2
      obtain ⟨m, hm, mt⟩ := he.at_ he1
      have hok1 := hok _ (List.mem_of_getElem? hm)
      have x1 := h1.trans (Ext.new nT (o := .tup [V.str e.1, V.ref e.2]))
      have hil : i < es.length := (List.getElem?_eq_some_iff.mp he1).1
      refine ⟨T, _, rfl, SqT.of upd_same, rfl, _, _, rfl, _, _, rfl, rfl, rfl, ?_⟩
      refine ⟨_, rfl, e.1, rfl, (by rw [hok1.1.2]; decide), fun H3 e3 => ?_⟩
      rw [hok1.1.1]
      refine ⟨true, rfl, ?_⟩
      refine ⟨_, rfl, _, rfl, e.2, m, n, rfl, tup (x1.trans e3) _ _ mt, hok1.2, fun H4 e4 => ?_⟩
      have x4 := (x1.trans e3).trans e4
      have hD4 : H4 D = some (.lst ((List.replicate i true).map V.bl)) := e4 _ _ (e3 _ _ ((Ext.new nT) _ _ h2))
      refine ⟨_, hD4, by rw [List.length_map, List.length_replicate]; exact small_list (by omega), fun b o eb => ?_, ?_⟩
      · rw [upd_ne (ne_of_none eb hD)]
        exact x4 _ _ eb
      · rw [upd_same, List.replicate_succ', List.map_append]
        rfl
    · rintro H' ⟨h1, h2⟩
      refine ⟨h1 _ _ upd_same, D, List.replicate (kvsOf es).length true, rfl, SqL.of (by rw [upd_ne ndD.symm]; exact h2), ?_⟩
      have e : (List.replicate (kvsOf es).length true).all id = true := by simp
      rw [e]
      refine q _ fun b o eb => ?_
      by_cases c : b = d
      · subst c
        rw [upd_same, ← hd, eb]
      · rw [upd_ne c]
        exact h1 _ _ (by rw [upd_ne c]; exact eb)
end
end Sl
/-! ## P7 -/
set_option Elab.async false
set_option linter.all false
set_option maxRecDepth 100000
set_option maxHeartbeats 4000000
namespace Sl
open PySem PySem.Spec PyProof.Rows L2
abbrev sCopied : Stmt := top 21
/-- a dict comprehension over any walk -/
theorem dc_it {J : It} {n : Nat} {G : Hp → Prop} {Y : Nat → Hp → V → Hp → Prop} (w : Walk J n G Y) {g : TG} {tt : TT} {tk tv : TE} {vs : List Nat} {σ : L2.St} {H1 : Hp} {D : Addr} {Qd : Hp → Prop} (Pv : Nat → Hp → Prop) (h0 : Pv 0 (upd H1 D (.dK []))) (hG : ∀ i H, i ≤ n → Pv i H → G H)
    (hs : ∀ i x H H', i < n → Pv i H → Y i H x H' → g x (wipe σ vs) H' fun σ2 H2 => wipe σ2 vs = wipe σ vs ∧ tt σ2 H2 fun b H3 =>
      if b = true then tk σ2 H3 fun y H4 => tv σ2 H4 fun z H5 => ∃ kvs k, y = kV k ∧ H5 D = some (.dK kvs) ∧ kvs.length < sizeLine ∧ Pv (i + 1) (upd H5 D (.dK (putK kvs k z))) else Pv (i + 1) H3) (hd : ∀ H, Pv n H → Qd H) :
    ∃ W : Nat → Nat → Hp → Prop, (∃ m, W 0 m (upd H1 D (.dK []))) ∧ ∀ i m H, W i m H →
      (J.stop i H ∧ Qd H) ∨ (J.go i H ∧ ∃ Nx : Hp → Prop, (∀ H', Nx H' → ∃ m', m' < m ∧ W (i + 1) m' H') ∧ ∀ x H', J.yld i H x H' → g x (wipe σ vs) H' fun σ2 H2 => wipe σ2 vs = wipe σ vs ∧ tt σ2 H2 fun b H3 =>
        if b = true then tk σ2 H3 fun y H4 => tv σ2 H4 fun z H5 => ∃ kvs k, y = kV k ∧ H5 D = some (.dK kvs) ∧ kvs.length < sizeLine ∧ Nx (upd H5 D (.dK (putK kvs k z))) else Nx H3) := by
  refine ⟨fun i m H => m = n - i ∧ i ≤ n ∧ Pv i H, ⟨n, by simp, Nat.zero_le _, h0⟩, fun i m H z => ?_⟩
  obtain ⟨rfl, hi, p⟩ := z
  by_cases hlt : i < n
  · exact .inr ⟨w.goes i H hlt (hG i H hi p), Pv (i + 1), fun H' p' => ⟨n - (i + 1), by omega, rfl, hlt, p'⟩, fun x H' y => hs i x H H' hlt p (w.yields i H x H' hlt (hG i H hi p) y)⟩
  · obtain rfl : i = n := by omega
    exact .inl ⟨w.stops H (hG i H hi p), hd H p⟩
/-- as many, each once, all among them -/
theorem perm_sub {α : Type} [BEq α] [LawfulBEq α] : ∀ {l ws : List α}, l.Nodup → (∀ k ∈ l, k ∈ ws) → ws.length = l.length → ws.Perm l
  | [], ws, _, _, e => by rw [List.eq_nil_of_length_eq_zero e]
  | x :: l, ws, nd, h, e => by
    obtain ⟨nx, nd'⟩ := List.nodup_cons.mp nd
    have p := List.perm_cons_erase (h x List.mem_cons_self)
    have hl : (ws.erase x).length = l.length := by
      have q := p.length_eq
      rw [List.length_cons] at q e
      omega
    exact p.trans ((perm_sub nd' (fun k hk => (List.mem_erase_of_ne (fun z => nx (by rw [← z]; exact hk))).mpr (h k (List.mem_cons_of_mem _ hk))) hl).cons x)
theorem nodup_of_keys {α β : Type} : ∀ {l : List (α × β)}, (l.map (·.1)).Nodup → l.Nodup
  | [], _ => List.nodup_nil
  | x :: l, h => by
    obtain ⟨h1, h2⟩ := List.nodup_cons.mp h
    exact List.nodup_cons.mpr ⟨fun m => h1 (List.mem_map.mpr ⟨x, m, rfl⟩), nodup_of_keys h2⟩
/-- the value at a key that stands once -/
theorem val_at : ∀ {es : List (Str × Addr)} {z : Str} {t : Addr}, (es.map (·.1)).Nodup → (z, t) ∈ es → valV (kvsOf es) (Sum.inr z : Key) = some (.ref t)
  | [], _, _, _, h => by cases h
  | e :: es, z, t, nd, h => by
    obtain ⟨h1, h2⟩ := List.nodup_cons.mp nd
    rcases List.mem_cons.mp h with q | q
    · subst q
      exact valV_pos rfl
    · have ne : ¬ (Sum.inr e.1 : Key) = Sum.inr z := fun k => h1 (by
        injection k with k
        exact List.mem_map.mpr ⟨_, q, k.symm⟩)
      exact (valV_neg ne).trans (val_at h2 q)
theorem val_no : ∀ {es : List (Str × Addr)} {z : Str}, z ∉ es.map (·.1) → valV (kvsOf es) (Sum.inr z : Key) = none
  | [], _, _ => rfl
  | e :: es, z, h => by
    have ne : ¬ (Sum.inr e.1 : Key) = Sum.inr z := fun k => h (by
      injection k with k
      exact List.mem_map.mpr ⟨e, List.mem_cons_self, k⟩)
    exact (valV_neg ne).trans (val_no fun m => h (List.mem_cons_of_mem _ m))
theorem Ents.keys {H : Hp} : ∀ {es : List (Str × Addr)} {r : List (Str × Mv)}, Ents H es r → es.map (·.1) = r.map (·.1)
  | _, _, .nil => rfl
  | _, _, .cons _ e => congrArg _ e.keys
theorem Ents.mem {H : Hp} : ∀ {es : List (Str × Addr)} {r : List (Str × Mv)} {z : Str}, Ents H es r → z ∈ es.map (·.1) → ∃ t m, (z, t) ∈ es ∧ (z, m) ∈ r ∧ MvAt H t m
  | _, _, _, .nil, h => by cases h
  | _, _, z, .cons (z := y) (t := t) (m := m) h e, q => by
    rcases List.mem_cons.mp q with k | k
    · have k : z = y := k
      subst k
      exact ⟨t, m, List.mem_cons_self, List.mem_cons_self, h⟩
    · obtain ⟨t', m', a, b, c⟩ := e.mem k
      exact ⟨t', m', List.mem_cons_of_mem _ a, List.mem_cons_of_mem _ b, c⟩
theorem Ents.snoc {H : Hp} {z : Str} {t : Addr} {m : Mv} : ∀ {es : List (Str × Addr)} {r : List (Str × Mv)}, Ents H es r → MvAt H t m → Ents H (es ++ [(z, t)]) (r ++ [(z, m)])
  | _, _, .nil, h => .cons h .nil
  | _, _, .cons a e, h => .cons a (e.snoc h)
def rTupT (K : PySem.W.Frag) : List V → Hp → VK → Prop := fun xs H Q => ∃ a ys, xs = [V.ref a] ∧ SqT K H a ys ∧ Q (.ref a) H
/-- the row again, as a new dict -/
def spCopied : Sp := fun vs H Q _ => ∃ (d : Addr) (r : List (Str × Mv)), vs = [.ref d] ∧ RowAt H d r ∧ (r.map (·.1)).Nodup ∧ r.length < 64 ∧
  ∀ (H' : Hp) (p : Addr) (r' : List (Str × Mv)), Ext H H' → H p = none → RowAt H' p r' → r'.Perm r → sortedS (r'.map (·.1)) = true → Q (.ref p) H'
section
variable {P : Program} {w : World} {K : PySem.W.Frag} {mg : Str → Option Value} {base : Heap}
theorem scCopied : FnScope ["state", "sign"] ["state"] (defScope sCopied) := ⟨rfl, rfl, rfl, by decide +kernel, rfl, by decide +kernel, by decide +kernel⟩
theorem ok_copied {f : Addr} {fd : FuncData} (F : Fun K "_copied_state" "_copied_state" sCopied f fd) (zs : mg "sorted" = none) (zt : mg "tuple" = none) : FnOk P w K mg base CX0 1 f fd ["state"] spCopied := by
  refine F.ok scCopied (fun vs H Q E h => ?_) (fun cdv A outer s H vs Q E hr h => ?_)
  · obtain ⟨d, r, rfl, _⟩ := h
    rfl
  · obtain ⟨d, r, rfl, ⟨es, hd, he⟩, nd, hl, q⟩ := h
    have hu := hu_of hr
    refine ⟨_, pss_one (ps_ret (pe_dc (own := [("sign", 1)]) (g := gName 1) (tt := tYes) rfl scCopied.nd (pi_list (pe_callB (call_sortedD rfl) (by rfl) zs (by decide +kernel) (pa_cons (pv 0) pa_nil))) (blkOk_by (N := ["state", "sign"]) (sc := defScope sCopied) (by decide +kernel))
          (fun _ _ _ _ _ => pg_name (i := 1) scCopied.nd rfl (Or.inl rfl)) (fun _ _ _ _ _ => pts_nil) (fun _ _ _ _ _ => pv 1) (fun _ _ _ _ _ => pe_callTy (T := "tuple") (r := rTupT K) call_tupleT (by rfl) zt (by decide +kernel) (pa_cons (pe_dget hu (pv 0) (pv 1) (fun _ _ => rfl)) pa_nil)))), ?_⟩
    have ek := he.keys
    have nde : (es.map (·.1)).Nodup := by
      rw [ek]
      exact nd
    refine ⟨_, rfl, d, _, es.map (·.1), rfl, Rd.of hd, (by unfold kvsOf; rw [List.map_map, List.map_map]; rfl), (by rw [List.length_map, he.len]; exact hl), fun ys L pm sr hL => ?_⟩
    have ly : ys.length < 64 := by
      rw [pm.length_eq, List.length_map, he.len]
      exact hl
    refine ⟨L, rfl, ⟨_, SqL.of upd_same⟩, fun D hD => ?_⟩
    have nLD : L ≠ D := ne_of_none upd_same hD
    have hD0 : H D = none := (Ext.new hL).free hD
    refine dc_it (walk_list (xs := ys.map V.str)) (fun i H' => (Ext H H' ∧ H' L = some (.lst (ys.map V.str))) ∧ ∃ es' r', H' D = some (.dK (kvsOf es')) ∧ Ents H' es' r' ∧ r'.map (·.1) = ys.take i ∧ ∀ e ∈ r', e ∈ r) ⟨⟨(Ext.new hL).trans (Ext.new hD), by rw [upd_ne nLD]; exact upd_same⟩, [], [], upd_same, .nil, rfl, fun e h => by cases h⟩ (fun i H' _ h => SqL.of h.1.2) ?_ ?_
    · rintro i x H1 H2 hi ⟨⟨h1, h1'⟩, es', r', h2, h3, h4, h5⟩ ⟨rfl, hx⟩
      obtain ⟨z, hz, rfl⟩ := at_map hx
      have hzm : z ∈ es.map (·.1) := pm.mem_iff.mp (List.mem_of_getElem? hz)
      obtain ⟨t, m, m1, m2, m3⟩ := he.mem hzm
      have hil : i < ys.length := (List.getElem?_eq_some_iff.mp hz).1
      have hg : DGet H2 d (V.str z) (some (.ref t)) := by
        rw [← val_at nde m1]
        exact DGet.k (k := Sum.inr z) (h1 _ _ hd)
      have lr : r'.length ≤ i := by
        have k := congrArg List.length h4
        rw [List.length_map, List.length_take] at k
        omega
      have hnew : z ∉ es'.map (·.1) := by
        rw [h3.keys, h4]
        intro k
        have ndy : ys.Nodup := pm.nodup_iff.mpr nde
        obtain ⟨j, hj, e⟩ := List.mem_iff_getElem.mp k
        rw [List.length_take] at hj
        rw [List.getElem_take] at e
        have e2 : ys[i]'hil = z := (List.getElem?_eq_some_iff.mp hz).2
        have := (List.getElem_inj ndy).mp (e.trans e2.symm)
        omega
      refine ⟨rfl, _, rfl, _, rfl, _, rfl, d, _, rfl, hg, t, _, rfl, SqT.of (h1 _ _ m3), _, Sum.inr z, rfl, h2, by unfold kvsOf; rw [List.length_map, h3.len]; exact small_list (by omega), ?_⟩
      rw [putK_new _ (val_no hnew)]
      have nDx : ∀ b o, H b = some o → b ≠ D := fun b o e => ne_of_none e hD0
      refine ⟨⟨fun b o e => by rw [upd_ne (nDx b o e)]; exact h1 b o e, by rw [upd_ne nLD]; exact h1'⟩, es' ++ [(z, t)], r' ++ [(z, m)], ?_, (Ents.ext (fun u xs e => ?_) h3).snoc ?_, ?_, fun e h => ?_⟩
      · rw [upd_same]
        unfold kvsOf
        rw [List.map_append]
        rfl
      · rw [upd_ne (ne_of e h2 (by intro z; cases z))]
        exact e
      · show upd _ D _ t = _
        rw [upd_ne (nDx t _ m3)]
        exact h1 _ _ m3
      · rw [List.map_append, h4, take_more hz]
        rfl
      · rcases List.mem_append.mp h with k | k
        · exact h5 e k
        · rw [List.mem_singleton.mp k]
          exact m2
    · rintro H' ⟨⟨h1, _⟩, es', r', h2, h3, h4, h5⟩
      rw [List.length_map, List.take_length] at h4
      refine q H' D r' h1 hD0 ⟨es', h2, h3⟩ ?_ (by rw [h4]; exact sr)
      have nr' : (r'.map (·.1)).Nodup := by
        rw [h4]
        exact pm.nodup_iff.mpr nde
      have el : r'.length = r.length := by
        have k := congrArg List.length h4
        rw [List.length_map] at k
        rw [k, pm.length_eq, List.length_map, he.len]
      exact (perm_sub (nodup_of_keys nr') h5 el.symm).symm
end
end Sl
/-! ## P8 -/
set_option Elab.async false
set_option linter.all false
set_option maxRecDepth 100000
set_option maxHeartbeats 4000000
namespace TxS
open PySem PySem.Spec PyProof.Rows L2
/-! ### the reading of a set comprehension of two clauses -/
theorem sc2_in {P : Program} {w : World} {J1 : It} {n : Nat} {G : Hp → Prop} {Y : Nat → Hp → V → Hp → Prop} (wk : Walk J1 n G Y) {D : Addr} {g1 : TG} {tt1 : TT} {te : TE} {vs1 : List Nat} {σ2 : L2.St} {Hf : Hp} {Nx : Hp → Prop} (Pv : Nat → Hp → Prop) (h0 : Pv 0 Hf) (hG : ∀ j H, j ≤ n → Pv j H → G H)
    (hs : ∀ j x H H', j < n → Pv j H → Y j H x H' → g1 x (wipe σ2 vs1) H' fun σ3 Hi => wipe σ3 vs1 = wipe σ2 vs1 ∧ tt1 σ3 Hi fun b Hj => if b = true then te σ3 Hj (Adds P w D (Pv (j + 1))) else Pv (j + 1) Hj) (hd : ∀ H, Pv n H → Nx H) :
    ∃ W1 : Nat → Nat → Hp → Prop, (∃ m, W1 0 m Hf) ∧ ∀ j k Hg, W1 j k Hg → (J1.stop j Hg ∧ Nx Hg) ∨
      (J1.go j Hg ∧ ∃ Nx1 : Hp → Prop, (∀ Hh, Nx1 Hh → ∃ k', k' < k ∧ W1 (j + 1) k' Hh) ∧ ∀ x Hh, J1.yld j Hg x Hh → g1 x (wipe σ2 vs1) Hh fun σ3 Hi => wipe σ3 vs1 = wipe σ2 vs1 ∧ tt1 σ3 Hi fun b Hj =>
        if b = true then te σ3 Hj (Adds P w D Nx1) else Nx1 Hj) := by
  refine ⟨fun j k H => k = n - j ∧ j ≤ n ∧ Pv j H, ⟨n, by simp, Nat.zero_le _, h0⟩, fun j k H z => ?_⟩
  obtain ⟨rfl, hj, p⟩ := z
  by_cases hlt : j < n
  · exact .inr ⟨wk.goes j H hlt (hG j H hj p), Pv (j + 1), fun H' p' => ⟨n - (j + 1), by omega, rfl, hlt, p'⟩, fun x H' y => hs j x H H' hlt p (wk.yields j H x H' hlt (hG j H hj p) y)⟩
  · obtain rfl : j = n := by omega
    exact .inl ⟨wk.stops H (hG j H hj p), hd H p⟩
theorem sc2_out {P : Program} {w : World} {J : It} {n : Nat} {G : Hp → Prop} {Y : Nat → Hp → V → Hp → Prop} (wk : Walk J n G Y) {D : Addr} {g g1 : TG} {tt tt1 : TT} {te : TE} {wi1 : TI} {vs vs1 : List Nat} {σ : L2.St} {Ha : Hp} {Qd : Hp → Prop} (Pv : Nat → Hp → Prop) (h0 : Pv 0 (upd Ha D (SetSO P w D []))) (hG : ∀ i H, i ≤ n → Pv i H → G H)
    (hs : ∀ i x H H', i < n → Pv i H → Y i H x H' → g x (wipe σ vs) H' fun σ2 Hd => wipe σ2 vs = wipe σ vs ∧ tt σ2 Hd fun b He =>
      if b = true then wi1 σ2 He fun J1 Hf => ∃ W1 : Nat → Nat → Hp → Prop, (∃ m, W1 0 m Hf) ∧ ∀ j k Hg, W1 j k Hg → (J1.stop j Hg ∧ Pv (i + 1) Hg) ∨
        (J1.go j Hg ∧ ∃ Nx1 : Hp → Prop, (∀ Hh, Nx1 Hh → ∃ k', k' < k ∧ W1 (j + 1) k' Hh) ∧ ∀ x Hh, J1.yld j Hg x Hh → g1 x (wipe σ2 vs1) Hh fun σ3 Hi => wipe σ3 vs1 = wipe σ2 vs1 ∧ tt1 σ3 Hi fun b Hj =>
          if b = true then te σ3 Hj (Adds P w D Nx1) else Nx1 Hj)
      else Pv (i + 1) He) (hd : ∀ H, Pv n H → Qd H) :
    ∃ W : Nat → Nat → Hp → Prop, (∃ m, W 0 m (upd Ha D (SetSO P w D []))) ∧ ∀ i m Hb, W i m Hb → (J.stop i Hb ∧ Qd Hb) ∨
      (J.go i Hb ∧ ∃ Nx : Hp → Prop, (∀ Hc, Nx Hc → ∃ m', m' < m ∧ W (i + 1) m' Hc) ∧ ∀ x Hc, J.yld i Hb x Hc → g x (wipe σ vs) Hc fun σ2 Hd => wipe σ2 vs = wipe σ vs ∧ tt σ2 Hd fun b He =>
        if b = true then wi1 σ2 He fun J1 Hf => ∃ W1 : Nat → Nat → Hp → Prop, (∃ m, W1 0 m Hf) ∧ ∀ j k Hg, W1 j k Hg → (J1.stop j Hg ∧ Nx Hg) ∨
          (J1.go j Hg ∧ ∃ Nx1 : Hp → Prop, (∀ Hh, Nx1 Hh → ∃ k', k' < k ∧ W1 (j + 1) k' Hh) ∧ ∀ x Hh, J1.yld j Hg x Hh → g1 x (wipe σ2 vs1) Hh fun σ3 Hi => wipe σ3 vs1 = wipe σ2 vs1 ∧ tt1 σ3 Hi fun b Hj =>
            if b = true then te σ3 Hj (Adds P w D Nx1) else Nx1 Hj)
        else Nx He) := by
  refine ⟨fun i m H => m = n - i ∧ i ≤ n ∧ Pv i H, ⟨n, by simp, Nat.zero_le _, h0⟩, fun i m H z => ?_⟩
  obtain ⟨rfl, hi, p⟩ := z
  by_cases hlt : i < n
  · exact .inr ⟨wk.goes i H hlt (hG i H hi p), Pv (i + 1), fun H' p' => ⟨n - (i + 1), by omega, rfl, hlt, p'⟩, fun x H' y => hs i x H H' hlt p (wk.yields i H x H' hlt (hG i H hi p) y)⟩
  · obtain rfl : i = n := by omega
    exact .inl ⟨wk.stops H (hG i H hi p), hd H p⟩
/-! ### several dicts under a lock -/
def lockN : Nat → TE → TE
  | 0, t => t
  | n + 1, t => tLockE (lockN n t)
theorem pe_lockN {X : Cx} {e : Expr} {t : TE} (h : PE X e t) : ∀ n, PE X e (lockN n t)
  | 0 => h
  | n + 1 => pe_lock (pe_lockN h n)
/-- the dicts ds are locked -/
def lockH (od : Addr → Obj) (ds : List Addr) (H : Hp) : Hp := fun b => if b ∈ ds then (H b).map (HO.frz (od b)) else H b
/-- .. unlocked again -/
def freeH (ds : List Addr) (H H' : Hp) : Hp := fun b => if b ∈ ds then H b else H' b
theorem lockN_read {t : TE} {σ : L2.St} : ∀ {ds : List Addr} {H : Hp} {Q : VK}, ds.Nodup → (∀ d ∈ ds, ∃ kvs, H d = some (.dK kvs)) →
    (∀ od, t σ (lockH od ds H) fun v H' => (∀ d ∈ ds, H' d = lockH od ds H d) ∧ Q v (freeH ds H H')) → lockN ds.length t σ H Q
  | [], H, Q, _, _, h => by
    have e : lockH (fun _ => { cls := .none, data := .fields #[] }) [] H = H := by
      funext b
      unfold lockH
      rw [if_neg (by simp)]
    have q := h fun _ => { cls := .none, data := .fields #[] }
    rw [e] at q
    have e2 : (fun v H' => (∀ d ∈ ([] : List Addr), H' d = H d) ∧ Q v (freeH [] H H')) = Q := by
      funext v H'
      have e3 : freeH [] H H' = H' := by
        funext b
        unfold freeH
        rw [if_neg (by simp)]
      rw [e3]
      exact propext ⟨fun z => z.2, fun z => ⟨fun d hd => (nomatch hd), z⟩⟩
    rw [e2] at q
    exact q
  | d :: ds, H, Q, nd, hk, h => by
    obtain ⟨nd1, nd2⟩ := List.nodup_cons.mp nd
    obtain ⟨kvs, hd⟩ := hk d List.mem_cons_self
    refine ⟨d, _, hd, trivial, fun o0 => lockN_read nd2 (fun x hx => ?_) fun od' => ?_⟩
    · obtain ⟨k2, e⟩ := hk x (List.mem_cons_of_mem _ hx)
      exact ⟨k2, by rw [upd_ne (fun z => nd1 (by rw [← z]; exact hx))]; exact e⟩
    · have hL : lockH od' ds (upd H d (.frz o0 (.dK kvs))) = lockH (fun b => if b = d then o0 else od' b) (d :: ds) H := by
        funext b
        unfold lockH
        by_cases c : b = d
        · subst c
          rw [if_neg nd1, if_pos List.mem_cons_self, upd_same, hd]
          show some (HO.frz o0 (.dK kvs)) = some (HO.frz (if b = b then o0 else od' b) (.dK kvs))
          rw [if_pos rfl]
        · have e : (if b = d then o0 else od' b) = od' b := if_neg c
          show _ = if b ∈ d :: ds then Option.map (HO.frz (if b = d then o0 else od' b)) (H b) else H b
          rw [upd_ne c, e]
          by_cases c2 : b ∈ ds
          · rw [if_pos c2, if_pos (List.mem_cons_of_mem _ c2)]
          · rw [if_neg c2, if_neg (fun z => (List.mem_cons.mp z).elim c c2)]
      have q := h fun b => if b = d then o0 else od' b
      rw [← hL] at q
      have e2 : (fun v H' => (∀ x ∈ d :: ds, H' x = lockH od' ds (upd H d (.frz o0 (.dK kvs))) x) ∧ Q v (freeH (d :: ds) H H')) =
          fun v H' => (∀ x ∈ ds, H' x = lockH od' ds (upd H d (.frz o0 (.dK kvs))) x) ∧ (freeH ds (upd H d (.frz o0 (.dK kvs))) H' d = some (.frz o0 (.dK kvs)) ∧ Q v (upd (freeH ds (upd H d (.frz o0 (.dK kvs))) H') d (.dK kvs))) := by
        funext v H'
        have f1 : freeH ds (upd H d (.frz o0 (.dK kvs))) H' d = H' d := if_neg nd1
        have f2 : upd (freeH ds (upd H d (.frz o0 (.dK kvs))) H') d (.dK kvs) = freeH (d :: ds) H H' := by
          funext b
          by_cases c : b = d
          · subst c
            rw [upd_same]
            unfold freeH
            rw [if_pos List.mem_cons_self, hd]
          · rw [upd_ne c]
            unfold freeH
            by_cases c2 : b ∈ ds
            · rw [if_pos c2, if_pos (List.mem_cons_of_mem _ c2), upd_ne c]
            · rw [if_neg c2, if_neg (fun z => (List.mem_cons.mp z).elim c c2)]
        have f3 : lockH od' ds (upd H d (.frz o0 (.dK kvs))) d = some (.frz o0 (.dK kvs)) := by
          unfold lockH
          rw [if_neg nd1, upd_same]
        rw [f1, f2]
        exact propext ⟨fun z => ⟨fun x hx => z.1 x (List.mem_cons_of_mem _ hx), (z.1 d List.mem_cons_self).trans f3, z.2⟩,
          fun z => ⟨fun x hx => (List.mem_cons.mp hx).elim (fun e => by rw [e, f3]; exact z.2.1) (z.1 x), z.2.2⟩⟩
      rw [e2] at q
      exact q
end TxS
/-! ## P9 -/
set_option Elab.async false
set_option linter.all false
set_option maxRecDepth 100000
set_option maxHeartbeats 4000000
namespace Sl
open PySem PySem.Spec PyProof.Rows L2 TxS
abbrev sCollect : Stmt := inClass (top 22) 2
abbrev Rw := List (Str × Mv)
inductive RowsAt (H : Hp) : List Addr → List Rw → Prop
  | nil : RowsAt H [] []
  | cons {d : Addr} {r : Rw} {ds : List Addr} {rows : List Rw} : RowAt H d r → RowsAt H ds rows → RowsAt H (d :: ds) (r :: rows)
theorem RowAt.same {H H' : Hp} {d : Addr} {r : Rw} (h : RowAt H d r) (e : H' d = H d) (t : ∀ t xs, H t = some (.tup xs) → H' t = some (.tup xs)) : RowAt H' d r := by
  obtain ⟨es, a, b⟩ := h
  exact ⟨es, e.trans a, b.ext t⟩
theorem RowsAt.ext {H H' : Hp} (x : Ext H H') : ∀ {ds : List Addr} {rows : List Rw}, RowsAt H ds rows → RowsAt H' ds rows
  | _, _, .nil => .nil
  | _, _, .cons ⟨es, a, b⟩ h => .cons ⟨es, x _ _ a, b.ext fun t xs e => x _ _ e⟩ (h.ext x)
theorem RowsAt.len {H : Hp} : ∀ {ds : List Addr} {rows : List Rw}, RowsAt H ds rows → ds.length = rows.length
  | _, _, .nil => rfl
  | _, _, .cons _ h => congrArg (· + 1) h.len
theorem RowsAt.at_ {H : Hp} : ∀ {ds : List Addr} {rows : List Rw} {i : Nat} {d : Addr}, RowsAt H ds rows → ds[i]? = some d → ∃ r, rows[i]? = some r ∧ RowAt H d r
  | _, _, 0, _, .cons (r := r) h _, q => by cases q; exact ⟨r, rfl, h⟩
  | _, _, i + 1, _, .cons _ h, q => h.at_ (i := i) q
  | _, _, 0, _, .nil, q => by cases q
  | _, _, i + 1, _, .nil, q => by cases q
def keysOf (rows : List Rw) : List Str := rows.flatMap fun r => r.map (·.1)
def toldsOf (rows : List Rw) : List Str := rows.flatMap fun r => r.filterMap fun e => e.2.2
theorem len_le : ∀ {l A : List Str}, l.Nodup → (∀ k ∈ l, k ∈ A) → l.length ≤ A.length
  | [], _, _, _ => Nat.zero_le _
  | x :: l, A, nd, h => by
    obtain ⟨nx, nd'⟩ := List.nodup_cons.mp nd
    have p := (List.perm_cons_erase (h x List.mem_cons_self)).length_eq
    have q := len_le (l := l) (A := A.erase x) nd' fun k hk => (List.mem_erase_of_ne (fun z => nx (by rw [← z]; exact hk))).mpr (h k (List.mem_cons_of_mem _ hk))
    rw [List.length_cons] at p ⊢
    omega
/-- a list that gathers: each once, of what is in S -/
def Gath (l : List Str) (S : List Str) : Prop := l.Nodup ∧ ∀ z, z ∈ l ↔ z ∈ S
theorem Gath.put {l S : List Str} {k : Str} (g : Gath l S) : Gath (if k ∈ l then l else k :: l) (S ++ [k]) := by
  by_cases c : k ∈ l
  · rw [if_pos c]
    refine ⟨g.1, fun z => ?_⟩
    rw [List.mem_append, g.2 z, List.mem_singleton]
    exact ⟨.inl, fun h => h.elim id fun e => by rw [e]; exact (g.2 k).mp c⟩
  · rw [if_neg c]
    refine ⟨List.nodup_cons.mpr ⟨c, g.1⟩, fun z => ?_⟩
    rw [List.mem_append, List.mem_cons, g.2 z, List.mem_singleton]
    exact Or.comm
theorem Gath.room {l S A : List Str} (g : Gath l S) (h : ∀ z ∈ S, z ∈ A) (hA : A.length < 64) : l.length < 64 ∧ l.length + 1 < scanBound := by
  have q := len_le g.1 fun k hk => h k ((g.2 k).mp hk)
  unfold scanBound
  exact ⟨by omega, by omega⟩
def tellsAll (r : Rw) : List Str := r.filterMap fun e => e.2.2
section
variable {P : Program} {w : World} {K : PySem.W.Frag} {mg : Str → Option Value} {base : Heap}
/-- the walk over all keys of all rows: state in slot 3, sign in slot 2 -/
theorem read_keys {s0 s1 s2 s3 s4 s5 : Option V} {H : Hp} {Q : VK} {ts : TE} {L : Addr} {ds : List Addr} {rows : List Rw} {A : List Str} (hts : ∀ (H0 : Hp) (Q : VK), H0 L = some (.lst (ds.map V.ref)) → (∀ b o, H b = some o → b ∉ ds → H0 b = some o) → Q (.ref L) H0 → ts [s0, s1, s2, s3, s4, s5] H0 Q)
    (hL : H L = some (.lst (ds.map V.ref))) (nd : ds.Nodup) (hr : RowsAt H ds rows) (hA : ∀ z ∈ keysOf rows, z ∈ A) (h64 : A.length < 64)
    (q : ∀ (H' : Hp) (D : Addr) (l : List Str), Ext H H' → H D = none → H' D = some (SetSO P w D l) → Gath l (keysOf rows) → Q (.ref D) H') :
    lockN ds.length (tSc2 P w (iList K ts) (gName 3) tYes (iKeys (tVar 3)) (gName 2) tYes (tVar 2) [2, 3] [2]) [s0, s1, s2, s3, s4, s5] H Q := by
  refine lockN_read nd (fun d hd => ?_) fun od => ?_
  · obtain ⟨i, hi, e⟩ := List.mem_iff_getElem.mp hd
    obtain ⟨r, _, es, a, _⟩ := hr.at_ (i := i) (d := d) (by rw [List.getElem?_eq_getElem hi, e])
    exact ⟨_, a⟩
  · have hLd : L ∉ ds := fun hm => by
      obtain ⟨i, hi, e⟩ := List.mem_iff_getElem.mp hm
      obtain ⟨r, _, es, a, _⟩ := hr.at_ (i := i) (d := L) (by rw [List.getElem?_eq_getElem hi, e])
      rw [hL] at a
      cases a
    have out : ∀ b o, H b = some o → b ∉ ds → lockH od ds H b = some o := fun b o e n => by
      unfold lockH
      rw [if_neg n]
      exact e
    have hL0 := out L _ hL hLd
    refine hts _ _ hL0 out ⟨L, rfl, ⟨_, SqL.of hL0⟩, fun D hD => ?_⟩
    have hDd : D ∉ ds := fun hm => by
      obtain ⟨i, hi, e⟩ := List.mem_iff_getElem.mp hm
      obtain ⟨r, _, es, a, _⟩ := hr.at_ (i := i) (d := D) (by rw [List.getElem?_eq_getElem hi, e])
      unfold lockH at hD
      rw [if_pos hm, a] at hD
      cases hD
    have hDH : H D = none := by
      unfold lockH at hD
      rw [if_neg hDd] at hD
      exact hD
    refine sc2_out (walk_list (xs := ds.map V.ref)) (fun i H' => Ext (lockH od ds H) H' ∧ ∃ l, H' D = some (SetSO P w D l) ∧ Gath l (keysOf (rows.take i))) ⟨Ext.new hD, [], upd_same, List.nodup_nil, fun z => by simp [keysOf]⟩ (fun i H' _ h => SqL.of (h.1 _ _ hL0)) ?_ ?_
    · rintro i x H1 H2 hi ⟨h1, l, h2, h3⟩ ⟨rfl, hx⟩
      obtain ⟨d, hd, rfl⟩ := at_map hx
      obtain ⟨r, hri, es, he1, he2⟩ := hr.at_ hd
      have hdm := List.mem_of_getElem? hd
      have hdl : lockH od ds H d = some (.frz (od d) (.dK (kvsOf es))) := by
        unfold lockH
        rw [if_pos hdm, he1]
        rfl
      refine ⟨rfl, _, rfl, d, od d, rfl, .inl ⟨kvsOf es, h1 _ _ hdl, ?_⟩⟩
      have ek := he2.keys
      refine sc2_in walk_keys (fun j H' => Ext (lockH od ds H) H' ∧ ∃ l, H' D = some (SetSO P w D l) ∧ Gath l (keysOf (rows.take i) ++ (r.map (·.1)).take j)) ⟨h1, l, h2, by rw [List.take_zero, List.append_nil]; exact h3⟩ (fun j H' _ h => h.1 _ _ hdl) ?_ ?_
      · rintro j x H3 H4 hj ⟨g1, l', g2, g3⟩ ⟨rfl, k, v, hk, rfl⟩
        unfold kvsOf at hk
        rw [List.getElem?_map] at hk
        cases e : es[j]? with
        | none =>
          rw [e] at hk
          cases hk
        | some e0 =>
          rw [e] at hk
          have hk := Option.some.inj hk
          obtain ⟨rfl, rfl⟩ := Prod.mk.inj hk
          have hz : (r.map (·.1))[j]? = some e0.1 := by
            rw [← ek, List.getElem?_map, e]
            rfl
          have sub : ∀ z ∈ keysOf (rows.take i) ++ (r.map (·.1)).take j, z ∈ A := fun z hz => hA z (by
            unfold keysOf at hz ⊢
            rcases List.mem_append.mp hz with c | c
            · obtain ⟨r0, hr0, hz0⟩ := List.mem_flatMap.mp c
              exact List.mem_flatMap.mpr ⟨r0, List.mem_of_mem_take hr0, hz0⟩
            · exact List.mem_flatMap.mpr ⟨r, List.mem_of_getElem? hri, List.mem_of_mem_take c⟩)
          refine ⟨rfl, _, rfl, e0.1, l', rfl, g2, (g3.room sub h64).2, fun b o eb => by rw [upd_ne (ne_of_none eb hD)]; exact g1 b o eb, _, upd_same, ?_⟩
          rw [take_more hz, ← List.append_assoc]
          exact g3.put
      · rintro H3 ⟨g1, l', g2, g3⟩
        refine ⟨g1, l', g2, ?_⟩
        have e1 : (kvsOf es).length = (r.map (·.1)).length := by
          unfold kvsOf
          rw [List.length_map, List.length_map, he2.len]
        rw [e1, List.take_length] at g3
        have e2 : keysOf (rows.take (i + 1)) = keysOf (rows.take i) ++ r.map (·.1) := by
          unfold keysOf
          rw [take_more hri, List.flatMap_append]
          simp
        rw [e2]
        exact g3
    · rintro H' ⟨h1, l, h2, h3⟩
      rw [List.length_map, hr.len, List.take_length] at h3
      refine ⟨fun d hd => ?_, q _ D l (fun b o e => ?_) hDH ?_ h3⟩
      · obtain ⟨i, hi, e⟩ := List.mem_iff_getElem.mp hd
        obtain ⟨r, _, es, a, _⟩ := hr.at_ (i := i) (d := d) (by rw [List.getElem?_eq_getElem hi, e])
        have k : lockH od ds H d = some (.frz (od d) (.dK (kvsOf es))) := by
          unfold lockH
          rw [if_pos hd, a]
          rfl
        rw [k]
        exact h1 _ _ k
      · unfold freeH
        by_cases c : b ∈ ds
        · rw [if_pos c]
          exact e
        · rw [if_neg c]
          exact h1 _ _ (out _ _ e c)
      · unfold freeH
        rw [if_neg hDd]
        exact h2
def rNotN : R2 := fun x y H Q => y = .non ∧ Q (.bl (!decide (x = .non))) H
/-- the walk over all that the moves tell: state in slot 3, the next state in slot 4, told in slot 1 -/
theorem read_tolds {s0 s1 s2 s3 s4 s5 : Option V} {H : Hp} {Q : VK} {ts : TE} {L : Addr} {ds : List Addr} {rows : List Rw} {A : List Str} (hts : ∀ (H0 : Hp) (Q : VK), H0 L = some (.lst (ds.map V.ref)) → (∀ b o, H b = some o → b ∉ ds → H0 b = some o) → Q (.ref L) H0 → ts [s0, s1, s2, s3, s4, s5] H0 Q)
    (hL : H L = some (.lst (ds.map V.ref))) (nd : ds.Nodup) (hr : RowsAt H ds rows) (hA : ∀ z ∈ toldsOf rows, z ∈ A) (h64 : A.length < 64)
    (q : ∀ (H' : Hp) (D : Addr) (l : List Str), Ext H H' → H D = none → H' D = some (SetSO P w D l) → Gath l (toldsOf rows) → Q (.ref D) H') :
    lockN ds.length (tSc2 P w (iList K ts) (gName 3) tYes (iVals (tVar 3)) (gTup K 2 (gCons (gName 4) (gCons (gName 1) gNil))) (tTest (tOp rNotN (tVar 1) (tC .non))) (tVar 1) [1, 3, 4] [1, 4]) [s0, s1, s2, s3, s4, s5] H Q := by
  refine lockN_read nd (fun d hd => ?_) fun od => ?_
  · obtain ⟨i, hi, e⟩ := List.mem_iff_getElem.mp hd
    obtain ⟨r, _, es, a, _⟩ := hr.at_ (i := i) (d := d) (by rw [List.getElem?_eq_getElem hi, e])
    exact ⟨_, a⟩
  · have hLd : L ∉ ds := fun hm => by
      obtain ⟨i, hi, e⟩ := List.mem_iff_getElem.mp hm
      obtain ⟨r, _, es, a, _⟩ := hr.at_ (i := i) (d := L) (by rw [List.getElem?_eq_getElem hi, e])
      rw [hL] at a
      cases a
    have out : ∀ b o, H b = some o → b ∉ ds → lockH od ds H b = some o := fun b o e n => by
      unfold lockH
      rw [if_neg n]
      exact e
    have hL0 := out L _ hL hLd
    refine hts _ _ hL0 out ⟨L, rfl, ⟨_, SqL.of hL0⟩, fun D hD => ?_⟩
    have hDd : D ∉ ds := fun hm => by
      obtain ⟨i, hi, e⟩ := List.mem_iff_getElem.mp hm
      obtain ⟨r, _, es, a, _⟩ := hr.at_ (i := i) (d := D) (by rw [List.getElem?_eq_getElem hi, e])
      unfold lockH at hD
      rw [if_pos hm, a] at hD
      cases hD
    have hDH : H D = none := by
      unfold lockH at hD
      rw [if_neg hDd] at hD
      exact hD
    refine sc2_out (walk_list (xs := ds.map V.ref)) (fun i H' => Ext (lockH od ds H) H' ∧ ∃ l, H' D = some (SetSO P w D l) ∧ Gath l (toldsOf (rows.take i))) ⟨Ext.new hD, [], upd_same, List.nodup_nil, fun z => by simp [toldsOf]⟩ (fun i H' _ h => SqL.of (h.1 _ _ hL0)) ?_ ?_
    · rintro i x H1 H2 hi ⟨h1, l, h2, h3⟩ ⟨rfl, hx⟩
      obtain ⟨d, hd, rfl⟩ := at_map hx
      obtain ⟨r, hri, es, he1, he2⟩ := hr.at_ hd
      have hdm := List.mem_of_getElem? hd
      have hdl : lockH od ds H d = some (.frz (od d) (.dK (kvsOf es))) := by
        unfold lockH
        rw [if_pos hdm, he1]
        rfl
      refine ⟨rfl, _, rfl, d, od d, kvsOf es, rfl, h1 _ _ hdl, ?_⟩
      have ek := he2.keys
      refine sc2_in walk_values (fun j H' => Ext (lockH od ds H) H' ∧ ∃ l, H' D = some (SetSO P w D l) ∧ Gath l (toldsOf (rows.take i) ++ tellsAll (r.take j))) ⟨h1, l, h2, by rw [List.take_zero]; show Gath l (_ ++ []); rw [List.append_nil]; exact h3⟩ (fun j H' _ h => h.1 _ _ hdl) ?_ ?_
      · rintro j x H3 H4 hj ⟨g1, l', g2, g3⟩ ⟨rfl, k, hk⟩
        unfold kvsOf at hk
        rw [List.getElem?_map] at hk
        cases e : es[j]? with
        | none =>
          rw [e] at hk
          cases hk
        | some e0 =>
          rw [e] at hk
          have hk := Option.some.inj hk
          obtain ⟨rfl, rfl⟩ := Prod.mk.inj hk
          obtain ⟨m, hm, mt⟩ := he2.at_ e
          have mt : H e0.2 = some (.tup [.int m.1, toldV m.2]) := mt
          have ndt : e0.2 ∉ ds := fun hmem => by
            obtain ⟨i', hi', e'⟩ := List.mem_iff_getElem.mp hmem
            obtain ⟨r', _, es', a', _⟩ := hr.at_ (i := i') (d := e0.2) (by rw [List.getElem?_eq_getElem hi', e'])
            rw [mt] at a'
            cases a'
          have mt4 := g1 _ _ (out _ _ mt ndt)
          have e2 : tellsAll (r.take (j + 1)) = tellsAll (r.take j) ++ m.2.toList := by
            unfold tellsAll
            rw [take_more hm, List.filterMap_append]
            obtain ⟨mg, mo⟩ := m
            cases mo <;> rfl
          refine ⟨e0.2, _, rfl, SqT.of mt4, rfl, _, _, rfl, _, _, rfl, rfl, rfl, ?_⟩
          obtain ⟨mg, mo⟩ := m
          cases mo with
          | none =>
            refine ⟨_, rfl, rfl, false, rfl, ?_⟩
            refine ⟨g1, l', g2, ?_⟩
            rw [e2]
            show Gath l' (_ ++ (_ ++ []))
            rw [List.append_nil]
            exact g3
          | some z0 =>
            have sub : ∀ z ∈ toldsOf (rows.take i) ++ tellsAll (r.take j), z ∈ A := fun z hz => hA z (by
              unfold toldsOf at hz ⊢
              rcases List.mem_append.mp hz with c | c
              · obtain ⟨r0, hr0, hz0⟩ := List.mem_flatMap.mp c
                exact List.mem_flatMap.mpr ⟨r0, List.mem_of_mem_take hr0, hz0⟩
              · refine List.mem_flatMap.mpr ⟨r, List.mem_of_getElem? hri, ?_⟩
                obtain ⟨y, hy, hz0⟩ := List.mem_filterMap.mp c
                exact List.mem_filterMap.mpr ⟨y, List.mem_of_mem_take hy, hz0⟩)
            refine ⟨_, rfl, rfl, true, rfl, ?_⟩
            refine ⟨_, rfl, z0, l', rfl, g2, (g3.room sub h64).2, fun b o eb => by rw [upd_ne (ne_of_none eb hD)]; exact g1 b o eb, _, upd_same, ?_⟩
            rw [e2, ← List.append_assoc]
            exact g3.put
      · rintro H3 ⟨g1, l', g2, g3⟩
        refine ⟨g1, l', g2, ?_⟩
        have e1 : (kvsOf es).length = r.length := by
          unfold kvsOf
          rw [List.length_map, he2.len]
        rw [e1, List.take_length] at g3
        have e2 : toldsOf (rows.take (i + 1)) = toldsOf (rows.take i) ++ tellsAll r := by
          unfold toldsOf tellsAll
          rw [take_more hri, List.flatMap_append]
          simp
        rw [e2]
        exact g3
    · rintro H' ⟨h1, l, h2, h3⟩
      rw [List.length_map, hr.len, List.take_length] at h3
      refine ⟨fun d hd => ?_, q _ D l (fun b o e => ?_) hDH ?_ h3⟩
      · obtain ⟨i, hi, e⟩ := List.mem_iff_getElem.mp hd
        obtain ⟨r, _, es, a, _⟩ := hr.at_ (i := i) (d := d) (by rw [List.getElem?_eq_getElem hi, e])
        have k : lockH od ds H d = some (.frz (od d) (.dK (kvsOf es))) := by
          unfold lockH
          rw [if_pos hd, a]
          rfl
        rw [k]
        exact h1 _ _ k
      · unfold freeH
        by_cases c : b ∈ ds
        · rw [if_pos c]
          exact e
        · rw [if_neg c]
          exact h1 _ _ (out _ _ e c)
      · unfold freeH
        rw [if_neg hDd]
        exact h2
end
end Sl
/-! ## P10 -/
set_option Elab.async false
set_option linter.all false
set_option maxRecDepth 100000
set_option maxHeartbeats 4000000
namespace Sl
open PySem PySem.Spec PyProof.Rows L2 TxS
/-- what the walk asks of the class Reader as the top has made it -/
structure RdC (K : PySem.W.Frag) (C : Addr) : Prop where
  cl : Cls K C
  nS : NoAttr K C "_states"
  nE : NoAttr K C "_ends"
  nB : NoAttr K C "_start"
  nP : NoAttr K C "_page_signs"
  nT : NoAttr K C "_text_signs"
  nM : NoAttr K C "_marks"
def spCollect (C : Addr) : Sp := fun vs H Q _ => ∃ (p dx L : Addr) (fs : List (Str × V)) (ds : List Addr) (rows : List Rw) (A B : List Str), vs = [.ref p] ∧ H p = some (.ins C dx fs) ∧ fs.length < 900 ∧ fs.lookup ("_states" : Str) = some (.ref L) ∧ H L = some (.lst (ds.map V.ref)) ∧ ds.Nodup ∧ RowsAt H ds rows ∧
  (∀ z ∈ keysOf rows, z ∈ A) ∧ A.length < 64 ∧ (∀ z ∈ toldsOf rows, z ∈ B) ∧ B.length < 64 ∧ (∀ z ∈ keysOf rows, z.length ≤ 8) ∧ (∀ z ∈ toldsOf rows, z.length ≤ 8) ∧
  ∀ (H' : Hp) (M : Addr) (ys ts : List Str), Keep p H H' → H M = none → Gath ys (keysOf rows) → sortedS ys = true → Gath ts (toldsOf rows) → sortedS ts = true → H' M = some (.lst ((ts.filter markS).map V.str)) →
    H' p = some (.ins C dx (putF "_marks" (.ref M) (putF "_text_signs" (.str (Txt.join "" (ts.filter signS))) (putF "_page_signs" (.str (Txt.join "" ys)) fs)))) → Q .non H'
theorem Gath.perm {l ys S : List Str} (g : Gath l S) (p : ys.Perm l) : Gath ys S := ⟨p.nodup_iff.mpr g.1, fun z => p.mem_iff.trans (g.2 z)⟩
theorem Gath.le {l S : List Str} (g : Gath l S) {n : Nat} (h : ∀ z ∈ S, z.length ≤ n) : ∀ z ∈ l, z.length ≤ n := fun z hz => h z ((g.2 z).mp hz)
theorem sum_le : ∀ {l : List Str}, (∀ z ∈ l, z.length ≤ 8) → (l.map (·.length)).sum ≤ 8 * l.length
  | [], _ => Nat.zero_le _
  | z :: l, h => by
    have q := sum_le (l := l) fun y hy => h y (List.mem_cons_of_mem _ hy)
    have k := h z List.mem_cons_self
    rw [List.map_cons, List.sum_cons, List.length_cons]
    omega
theorem putF_len (f : Str) (v : V) : ∀ fs : List (Str × V), (putF f v fs).length ≤ fs.length + 1
  | [] => Nat.le_refl _
  | (g, y) :: fs => by
    have q := putF_len f v fs
    unfold putF
    split
    · rw [List.length_cons, List.length_cons]
      omega
    · rw [List.length_cons, List.length_cons]
      omega
theorem RowsAt.keep {H H' : Hp} {a : Addr} (k : Keep a H H') (n1 : ∀ kvs, H a ≠ some (.dK kvs)) (n2 : ∀ xs, H a ≠ some (.tup xs)) : ∀ {ds : List Addr} {rows : List Rw}, RowsAt H ds rows → RowsAt H' ds rows
  | _, _, .nil => .nil
  | _, _, .cons ⟨es, e, b⟩ h => .cons ⟨es, k _ _ e (fun z => n1 _ (by rw [← z]; exact e)), b.ext fun t xs e => k _ _ e (fun z => n2 _ (by rw [← z]; exact e))⟩ (h.keep k n1 n2)
theorem RowsAt.mem {H : Hp} {ds : List Addr} {rows : List Rw} (h : RowsAt H ds rows) {d : Addr} (hd : d ∈ ds) : ∃ kvs, H d = some (.dK kvs) := by
  obtain ⟨i, hi, e⟩ := List.mem_iff_getElem.mp hd
  obtain ⟨r, _, es, a, _⟩ := h.at_ (i := i) (d := d) (by rw [List.getElem?_eq_getElem hi, e])
  exact ⟨_, a⟩
theorem join_size {ys : List Str} {n : Nat} (h : ∀ z ∈ ys, z.length ≤ 8) (hn : ys.length < 64) : (ys.map (·.length)).sum + ys.length * n ≤ 16777216 → True := fun _ => trivial
theorem join_le {ys : List Str} (h : ∀ z ∈ ys, z.length ≤ 8) (hn : ys.length < 64) : (ys.map (·.length)).sum + ys.length * ("" : Str).length ≤ 16777216 := by
  have e : ("" : Str).length = 0 := by decide
  have q := sum_le h
  rw [e]
  omega
section
variable {P : Program} {w : World} {K : PySem.W.Frag} {mg : Str → Option Value} {base : Heap}
theorem scCollect : FnScope ["self", "told", "sign", "state", "_", "name"] ["self"] (defScope sCollect) := ⟨rfl, rfl, rfl, by decide +kernel, rfl, by decide +kernel, by decide +kernel⟩
theorem ok_collect {f C fS fM : Addr} {fd fdS fdM : FuncData} (F : Fun K "_collect_names" "Reader._collect_names" sCollect f fd) (T : RdC K C) (aS : At K mg "is_sign" fS fdS ["value"] []) (gS : FnOk P w K mg base CX0 2 fS fdS ["value"] (spText signS))
    (aM : At K mg "is_mark" fM fdM ["value"] []) (gM : FnOk P w K mg base CX0 3 fM fdM ["value"] (spText markS)) (zs : mg "sorted" = none) :
    FnOk P w K mg base CX0 4 f fd ["self"] (spCollect C) := by
  refine F.ok scCollect (fun vs H Q E h => ?_) (fun cdv A0 outer s H vs Q E hr h => ?_)
  · obtain ⟨p, dx, L, fs, ds, rows, A, B, rfl, _⟩ := h
    rfl
  · obtain ⟨p, dx, L, fs, ds, rows, A, B, rfl, hp, hfs, hst, hL, nd, hrw, hA, hA64, hB, hB64, k8, t8, q⟩ := h
    refine ⟨_, pss_cons (ps_fld (pv 0) (pe_join pe_str (pe_callB (cr_sortedTx rfl) (by rfl) zs (by decide +kernel) (pa_cons (pe_lockN (pe_sc2 (own := [("sign", 2), ("state", 3)]) (vs1 := [2]) (g := gName 3) (g1 := gName 2) (tt := tYes) (tt1 := tYes) rfl scCollect.nd (pi_list (pe_fld (pv 0) rfl))
          (blkOk_by (N := ["self", "told", "sign", "state", "_", "name"]) (sc := defScope sCollect) (by decide +kernel)) (by decide) (fun _ _ _ _ _ => pg_name (i := 3) scCollect.nd rfl (Or.inl rfl)) (fun _ _ _ _ _ => pts_nil) (fun _ _ _ _ _ => pi_keys (pv 3))
          (fun _ _ _ _ _ => pg_name (i := 2) scCollect.nd rfl (Or.inl rfl)) (fun _ _ _ _ _ => pts_nil) (fun _ _ _ _ _ => pv 2)) ds.length) pa_nil))) rfl)
      (pss_cons (ps_set (i := 1) scCollect.nd rfl (Or.inl rfl) (pe_callB (cr_sortedTx rfl) (by rfl) zs (by decide +kernel) (pa_cons (pe_lockN (pe_sc2 (own := [("told", 1), ("state", 3), ("_", 4)]) (vs1 := [1, 4]) (g := gName 3) (g1 := gTup K 2 (gCons (gName 4) (gCons (gName 1) gNil))) (tt := tYes) (tt1 := tTest (tOp rNotN (tVar 1) (tC .non))) rfl scCollect.nd (pi_list (pe_fld (pv 0) rfl))
          (blkOk_by (N := ["self", "told", "sign", "state", "_", "name"]) (sc := defScope sCollect) (by decide +kernel)) (by decide) (fun _ _ _ _ _ => pg_name (i := 3) scCollect.nd rfl (Or.inl rfl)) (fun _ _ _ _ _ => pts_nil) (fun _ _ _ _ _ => pi_values (pv 3))
          (fun _ _ _ _ _ => pg_tup rfl (pgs_cons (pg_name (i := 4) scCollect.nd rfl (Or.inl rfl)) (pgs_cons (pg_name (i := 1) scCollect.nd rfl (Or.inl rfl)) pgs_nil))) (fun _ _ _ _ _ => pts_one (pt_cmpR op_notN (pv 1) pe_non (nomark _))) (fun _ _ _ _ _ => pv 1)) ds.length) pa_nil)))
      (pss_cons (ps_fld (pv 0) (pe_join pe_str (pe_lc (own := [("name", 5)]) (g := gName 5) (tt := tTest (tCall (spText signS) [] (fun _ _ _ => False) (tCons (tVar 5) tNil))) rfl scCollect.nd (pi_list (pv 1)) (blkOk_by (N := ["self", "told", "sign", "state", "_", "name"]) (sc := defScope sCollect) (by decide +kernel))
          (fun _ _ _ _ _ => pg_name (i := 5) scCollect.nd rfl (Or.inl rfl)) (fun _ _ _ _ _ => pts_one (pt_val (pe_call gS (hr.mono (by decide)) (by rfl) aS.g aS.kp aS.b .nil pass0 (pa_cons (pv 5) pa_nil)))) (fun _ _ _ _ _ => pv 5))) rfl)
      (pss_one (ps_fld (pv 0) (pe_lc (own := [("name", 5)]) (g := gName 5) (tt := tTest (tCall (spText markS) [] (fun _ _ _ => False) (tCons (tVar 5) tNil))) rfl scCollect.nd (pi_list (pv 1)) (blkOk_by (N := ["self", "told", "sign", "state", "_", "name"]) (sc := defScope sCollect) (by decide +kernel))
          (fun _ _ _ _ _ => pg_name (i := 5) scCollect.nd rfl (Or.inl rfl)) (fun _ _ _ _ _ => pts_one (pt_val (pe_call gM hr (by rfl) aM.g aM.kp aM.b .nil pass0 (pa_cons (pv 5) pa_nil)))) (fun _ _ _ _ _ => pv 5)) rfl)))), ?_⟩
    have npd : p ∉ ds := fun hm => by
      obtain ⟨kvs, e⟩ := hrw.mem hm
      rw [hp] at e
      cases e
    have npL : L ≠ p := ne_of hL hp (by intro z; cases z)
    have hu := hu_of hr
    -- self._page_signs
    refine ⟨⟨_, rfl⟩, read_keys (fun H0 Q0 h1 h2 q0 => ⟨_, rfl, p, C, dx, _, _, rfl, h2 _ _ hp npd, T.cl, T.nS, hst, q0⟩) hL nd hrw hA hA64 fun H1 D l x1 _ hD g1 => ?_⟩
    refine ⟨D, l, rfl, hD, (g1.room hA hA64).1, fun ys L1 pm1 sr1 nL1 => ?_⟩
    have gy := g1.perm pm1
    have ly : ys.length < 64 := (gy.room hA hA64).1
    refine ⟨_, L1, ys, rfl, rfl, .inl (SqL.of upd_same), join_le (gy.le k8) ly, ?_⟩
    have p1 : (upd H1 L1 (.lst (ys.map V.str))) p = some (.ins C dx fs) := (x1.trans (Ext.new nL1)) _ _ hp
    refine ⟨_, rfl, p, C, dx, fs, rfl, p1, T.cl, T.nP, by omega, ?_⟩
    have kA : Keep p H (upd (upd H1 L1 (.lst (ys.map V.str))) p (.ins C dx (putF "_page_signs" (.str (Txt.join "" ys)) fs))) := fun b o e n => by
      rw [upd_ne n]
      exact (x1.trans (Ext.new nL1)) _ _ e
    have pA : (upd (upd H1 L1 (.lst (ys.map V.str))) p (.ins C dx (putF "_page_signs" (.str (Txt.join "" ys)) fs))) p = some (.ins C dx (putF "_page_signs" (.str (Txt.join "" ys)) fs)) := upd_same
    generalize upd (upd H1 L1 (.lst (ys.map V.str))) p (.ins C dx (putF "_page_signs" (.str (Txt.join "" ys)) fs)) = HA at kA pA ⊢
    have rwA := hrw.keep kA (fun kvs e => by rw [hp] at e; cases e) (fun xs e => by rw [hp] at e; cases e)
    have stA : (putF "_page_signs" (.str (Txt.join "" ys)) fs).lookup ("_states" : Str) = some (.ref L) := by
      rw [lookup_putF, if_neg (by decide +kernel)]
      exact hst
    have LA := kA _ _ hL npL
    -- told
    refine read_tolds (fun H0 Q0 h1 h2 q0 => ⟨_, rfl, p, C, dx, _, _, rfl, h2 _ _ pA npd, T.cl, T.nS, stA, q0⟩) LA nd rwA hB hB64 fun H2 D2 l2 x2 _ hD2 g2 => ?_
    refine ⟨D2, l2, rfl, hD2, (g2.room hB hB64).1, fun ts Lt pm2 sr2 nL2 => ?_⟩
    have gt := g2.perm pm2
    have lt : ts.length < 64 := (gt.room hB hB64).1
    have x3 : Ext HA (upd H2 Lt (.lst (ts.map V.str))) := x2.trans (Ext.new nL2)
    have tL : (upd H2 Lt (.lst (ts.map V.str))) Lt = some (.lst (ts.map V.str)) := upd_same
    generalize upd H2 Lt (.lst (ts.map V.str)) = H3 at x3 tL ⊢
    -- a list of the told names that pass a test
    have pick : ∀ (t : Str → Bool) (H4 : Hp) (σ : L2.St) (Q0 : VK), σ = [some (.ref p), some (.ref Lt), none, none, none, none] → H4 Lt = some (.lst (ts.map V.str)) → (∀ (H5 : Hp) (D5 : Addr), Ext H4 H5 → H4 D5 = none → H5 D5 = some (.lst ((ts.filter t).map V.str)) → Q0 (.ref D5) H5) →
        tLc (iList K (tVar 1)) (gName 5) (tTest (tCall (spText t) [] (fun _ _ _ => False) (tCons (tVar 5) tNil))) (tVar 5) [5] σ H4 Q0 := by
      rintro t H4 σ Q0 rfl h4 q0
      refine ⟨_, rfl, Lt, rfl, ⟨_, SqL.of h4⟩, fun D5 nD5 => ?_⟩
      refine lc_it (walk_list (xs := ts.map V.str)) (fun i H5 => Ext H4 H5 ∧ H5 D5 = some (.lst (((ts.take i).filter t).map V.str))) ⟨Ext.new nD5, upd_same⟩ (fun i H5 _ h => SqL.of (h.1 _ _ h4)) ?_ ?_
      · rintro i x H5 H6 hi ⟨h1, h2⟩ ⟨rfl, hx⟩
        obtain ⟨z, hz, rfl⟩ := at_map hx
        have z8 := gt.le t8 z (List.mem_of_getElem? hz)
        refine ⟨rfl, _, rfl, z, rfl, by omega, fun H7 e7 => ⟨_, rfl, ?_⟩⟩
        rw [take_more hz, List.filter_append]
        have x7 : Ext H4 H7 := h1.trans e7
        have l7 := e7 _ _ h2
        have li : ((ts.take i).filter t).length ≤ ts.length := Nat.le_trans (List.length_filter_le _ _) (by rw [List.length_take]; omega)
        cases ct : t z with
        | false =>
          have e1 : List.filter t [z] = [] := by rw [List.filter_cons_of_neg (by rw [ct]; exact Bool.false_ne_true)]; rfl
          rw [e1, List.append_nil]
          exact ⟨x7, l7⟩
        | true =>
          have e1 : List.filter t [z] = [z] := by rw [List.filter_cons_of_pos ct]; rfl
          rw [e1, List.map_append]
          refine ⟨_, rfl, _, l7, by rw [List.length_map]; exact small_list (by omega), fun b o e => by rw [upd_ne (ne_of_none e nD5)]; exact x7 _ _ e, upd_same⟩
      · rintro H5 ⟨h1, h2⟩
        rw [List.length_map, List.take_length] at h2
        exact q0 H5 D5 h1 nD5 h2
    -- self._text_signs
    refine ⟨⟨_, rfl⟩, pick signS H3 _ _ rfl tL fun H4 D4 x4 nD4 l4 => ?_⟩
    have lf : (ts.filter signS).length ≤ ts.length := List.length_filter_le _ _
    refine ⟨_, D4, ts.filter signS, rfl, rfl, .inl (SqL.of l4), join_le (fun z hz => gt.le t8 z (List.mem_filter.mp hz).1) (by omega), ?_⟩
    have fA := putF_len "_page_signs" (.str (Txt.join "" ys)) fs
    refine ⟨_, rfl, p, C, dx, _, rfl, x4 _ _ (x3 _ _ pA), T.cl, T.nT, by omega, ?_⟩
    have kB : Keep p H (upd H4 p (.ins C dx (putF "_text_signs" (.str (Txt.join "" (ts.filter signS))) (putF "_page_signs" (.str (Txt.join "" ys)) fs)))) := fun b o e n => by
      rw [upd_ne n]
      exact x4 _ _ (x3 _ _ (kA b o e n))
    have pB : (upd H4 p (.ins C dx (putF "_text_signs" (.str (Txt.join "" (ts.filter signS))) (putF "_page_signs" (.str (Txt.join "" ys)) fs)))) p = some (.ins C dx (putF "_text_signs" (.str (Txt.join "" (ts.filter signS))) (putF "_page_signs" (.str (Txt.join "" ys)) fs))) := upd_same
    have tL4 : (upd H4 p (.ins C dx (putF "_text_signs" (.str (Txt.join "" (ts.filter signS))) (putF "_page_signs" (.str (Txt.join "" ys)) fs)))) Lt = some (.lst (ts.map V.str)) := by
      rw [upd_ne (ne_of tL (x3 _ _ pA) (by intro z; cases z))]
      exact x4 _ _ tL
    have nn : ∀ b, (upd H4 p (.ins C dx (putF "_text_signs" (.str (Txt.join "" (ts.filter signS))) (putF "_page_signs" (.str (Txt.join "" ys)) fs)))) b = none → H b = none := fun b hb => by
      cases e : H b with
      | none => rfl
      | some o =>
        by_cases c : b = p
        · rw [c, pB] at hb
          cases hb
        · rw [kB b o e c] at hb
          cases hb
    have fB := putF_len "_text_signs" (.str (Txt.join "" (ts.filter signS))) (putF "_page_signs" (.str (Txt.join "" ys)) fs)
    generalize upd H4 p (.ins C dx (putF "_text_signs" (.str (Txt.join "" (ts.filter signS))) (putF "_page_signs" (.str (Txt.join "" ys)) fs))) = HB at kB pB tL4 nn ⊢
    -- self._marks
    show sFld K (tVar 0) (tLc (iList K (tVar 1)) (gName 5) (tTest (tCall (spText markS) [] (fun _ _ _ => False) (tCons (tVar 5) tNil))) (tVar 5) [5]) "_marks" { nx := fun _ H' => Q .non H', rt := Q } [some (V.ref p), some (V.ref Lt), none, none, none, none] HB
    unfold sFld
    refine pick markS HB _ _ rfl tL4 fun H5 D5 x5 nD5 l5 => ?_
    refine ⟨_, rfl, p, C, dx, _, rfl, x5 _ _ pB, T.cl, T.nM, by omega, ?_⟩
    refine q _ D5 ys ts (fun b o e n => ?_) (nn _ nD5) gy sr1 gt sr2 ?_ upd_same
    · rw [upd_ne n]
      exact x5 _ _ (kB b o e n)
    · rw [upd_ne (ne_of l5 (x5 _ _ pB) (by intro z; cases z))]
      exact l5
end
end Sl
/-! ## P11 -/
set_option Elab.async false
set_option linter.all false
set_option maxRecDepth 100000
set_option maxHeartbeats 4000000
namespace Sl
open PySem PySem.Spec PyProof.Rows L2 TxS
abbrev sLimits : Stmt := inClass (top 22) 3
abbrev sInit : Stmt := inClass (top 22) 1
def spLimits (C : Addr) : Sp := fun vs H Q _ => ∃ (p dx M : Addr) (fs : List (Str × V)) (a b : Str) (ms : List V), vs = [.ref p] ∧ H p = some (.ins C dx fs) ∧ fs.lookup ("_page_signs" : Str) = some (.str a) ∧ fs.lookup ("_text_signs" : Str) = some (.str b) ∧ fs.lookup ("_marks" : Str) = some (.ref M) ∧
  H M = some (.lst ms) ∧ a.length ≤ 6 ∧ b.length ≤ 4 ∧ ms.length ≤ 6 ∧ Q .non H
section
variable {P : Program} {w : World} {K : PySem.W.Frag} {mg : Str → Option Value} {base : Heap}
theorem scLimits : FnScope ["self"] ["self"] (defScope sLimits) := ⟨rfl, rfl, rfl, by decide +kernel, rfl, by decide +kernel, by decide +kernel⟩
theorem ok_limits {f C : Addr} {fd : FuncData} {t1 t2 t3 : Tok} (F : Fun K "_check_limits" "Reader._check_limits" sLimits f fd) (T : RdC K C) (zn : mg "len" = none) (m1 : mg "MAX_PAGE_SIGNS" = some (.int 6 t1)) (m2 : mg "MAX_TEXT_SIGNS" = some (.int 4 t2)) (m3 : mg "MAX_MARKS" = some (.int 6 t3)) :
    FnOk P w K mg base CX0 1 f fd ["self"] (spLimits C) := by
  refine F.ok scLimits (fun vs H Q E h => ?_) (fun cdv A0 outer s H vs Q E hr h => ?_)
  · obtain ⟨p, dx, M, fs, a, b, ms, rfl, _⟩ := h
    rfl
  · obtain ⟨p, dx, M, fs, a, b, ms, rfl, hp, ha, hb, hm, hM, la, lb, lm, q⟩ := h
    refine ⟨_, pss_cons (ps_if (pt_cmpR op_gt (pe_callB call_len_str (by rfl) zn PySem.boot_len (pa_cons (pe_fld (pv 0) rfl) pa_nil)) (pe_glob (v := .int 6) rfl m1 ⟨_, rfl⟩) (nomark _)) (pss_one ps_never) pss_nil)
      (pss_cons (ps_if (pt_cmpR op_gt (pe_callB call_len_str (by rfl) zn PySem.boot_len (pa_cons (pe_fld (pv 0) rfl) pa_nil)) (pe_glob (v := .int 4) rfl m2 ⟨_, rfl⟩) (nomark _)) (pss_one ps_never) pss_nil)
      (pss_one (ps_if (pt_cmpR op_gt (pe_callB call_len_seq (by rfl) zn PySem.boot_len (pa_cons (pe_fld (pv 0) rfl) pa_nil)) (pe_glob (v := .int 6) rfl m3 ⟨_, rfl⟩) (nomark _)) (pss_one ps_never) pss_nil))), ?_⟩
    refine ⟨_, rfl, p, C, dx, _, _, rfl, hp, T.cl, T.nP, ha, a, rfl, small_size (by omega), _, _, rfl, rfl, _, rfl, ?_⟩
    rw [decide_eq_false (by omega)]
    refine iteF ?_
    refine ⟨_, rfl, p, C, dx, _, _, rfl, hp, T.cl, T.nT, hb, b, rfl, small_size (by omega), _, _, rfl, rfl, _, rfl, ?_⟩
    rw [decide_eq_false (by omega)]
    refine iteF ?_
    refine ⟨_, rfl, p, C, dx, _, _, rfl, hp, T.cl, T.nM, hm, M, ms, rfl, .inl (SqL.of hM), _, _, rfl, rfl, _, rfl, ?_⟩
    rw [decide_eq_false (by omega)]
    refine iteF ?_
    exact q
/-! ### a reader -/
/-- a reader stands at p: its rows, its ends, its start -/
structure ReaderAt (C : Addr) (H : Hp) (p : Addr) (rows : List Rw) (ends : List Int) (b : Int) : Prop where
  ex : ∃ dx fs L ds Te, H p = some (.ins C dx fs) ∧ fs.lookup ("_states" : Str) = some (.ref L) ∧ H L = some (.lst (ds.map V.ref)) ∧ RowsAt H ds rows ∧ fs.lookup ("_ends" : Str) = some (.ref Te) ∧ H Te = some (.tup (ends.map V.int)) ∧
    fs.lookup ("_start" : Str) = some (.int b) ∧ ∀ f, f ∉ (["_states", "_ends", "_start", "_page_signs", "_text_signs", "_marks"] : List Str) → fs.lookup f = none
inductive Perms : List Rw → List Rw → Prop
  | nil : Perms [] []
  | cons {r r' : Rw} {rs rs' : List Rw} : r.Perm r' → Perms rs rs' → Perms (r :: rs) (r' :: rs')
theorem scInit : FnScope ["self", "states", "ends", "start", "index", "state"] ["self", "states", "ends", "start"] (defScope sInit) := ⟨rfl, rfl, rfl, by decide +kernel, rfl, by decide +kernel, by decide +kernel⟩
end
end Sl
/-! ## P12 -/
set_option Elab.async false
set_option linter.all false
set_option maxRecDepth 100000
set_option maxHeartbeats 4000000
namespace Sl
open PySem PySem.Spec PyProof.Rows L2 TxS
/-- the rows again, each by ascending keys -/
inductive Ascs : List Rw → List Rw → Prop
  | nil : Ascs [] []
  | cons {r r' : Rw} {rs rs' : List Rw} : r.Perm r' → sortedS (r'.map (·.1)) = true → Ascs rs rs' → Ascs (r :: rs) (r' :: rs')
theorem Ascs.perms : ∀ {a b : List Rw}, Ascs a b → Perms a b
  | _, _, .nil => .nil
  | _, _, .cons p _ h => .cons p h.perms
theorem Ascs.snoc {r r' : Rw} (p : r.Perm r') (s : sortedS (r'.map (·.1)) = true) : ∀ {a b : List Rw}, Ascs a b → Ascs (a ++ [r]) (b ++ [r'])
  | _, _, .nil => .cons p s .nil
  | _, _, .cons q t h => .cons q t (h.snoc p s)
/-- a reader stands at p: its rows by ascending signs, its ends ascending, its start, its names -/
structure ReaderX (C : Addr) (H : Hp) (p : Addr) (rows : List Rw) (ends : List Int) (b : Int) (ys ts : List Str) : Prop where
  ex : ∃ dx fs L ds Te M, H p = some (.ins C dx fs) ∧ fs.lookup ("_states" : Str) = some (.ref L) ∧ H L = some (.lst (ds.map V.ref)) ∧ RowsAt H ds rows ∧ fs.lookup ("_ends" : Str) = some (.ref Te) ∧ H Te = some (.tup (ends.map V.int)) ∧
    fs.lookup ("_start" : Str) = some (.int b) ∧ fs.lookup ("_page_signs" : Str) = some (.str (Txt.join "" ys)) ∧ fs.lookup ("_text_signs" : Str) = some (.str (Txt.join "" (ts.filter signS))) ∧ fs.lookup ("_marks" : Str) = some (.ref M) ∧ H M = some (.lst ((ts.filter markS).map V.str)) ∧ ds.Nodup ∧
    ∀ f, f ∉ (["_states", "_ends", "_start", "_page_signs", "_text_signs", "_marks"] : List Str) → fs.lookup f = none
theorem ReaderX.plain {C : Addr} {H : Hp} {p : Addr} {rows : List Rw} {ends : List Int} {b : Int} {ys ts : List Str} (h : ReaderX C H p rows ends b ys ts) : ReaderAt C H p rows ends b := by
  obtain ⟨dx, fs, L, ds, Te, M, a1, a2, a3, a4, a5, a6, a7, _, _, _, _, _, a8⟩ := h.ex
  exact ⟨dx, fs, L, ds, Te, a1, a2, a3, a4, a5, a6, a7, a8⟩
/-- a list or tuple stays where an instance changes -/
theorem SqK.keepI {K : PySem.W.Frag} {k : Bool} {H H' : Hp} {a p C dx : Addr} {fs : List (Str × V)} {xs : List V} (x : Keep p H H') (hp : H p = some (.ins C dx fs)) (h : SqK K k H a xs) : SqK K k H' a xs := by
  have r : ∀ {o : HO}, (∀ C dx fs, o ≠ .ins C dx fs) → Rd H a o → Rd H' a o := fun {o} no h => by
    rcases h with h | ⟨ob, h⟩
    · exact .inl (x _ _ h fun e => by rw [e, hp] at h; cases h; exact no _ _ _ rfl)
    · exact .inr ⟨ob, x _ _ h fun e => by rw [e, hp] at h; cases h⟩
  cases k
  · exact h.elim (fun h => .inl (r (fun _ _ _ z => by cases z) h)) .inr
  · exact h.elim (fun h => .inl (r (fun _ _ _ z => by cases z) h)) .inr
/-- the reader at p, in H', has parts of its own that were not there in H -/
def NewR (C : Addr) (H H' : Hp) (p : Addr) : Prop := ∃ (dx : Addr) (fs : List (Str × V)) (L : Addr) (ds : List Addr) (Te M : Addr), H' p = some (.ins C dx fs) ∧ fs.lookup ("_states" : Str) = some (.ref L) ∧ H' L = some (.lst (ds.map V.ref)) ∧ fs.lookup ("_ends" : Str) = some (.ref Te) ∧ fs.lookup ("_marks" : Str) = some (.ref M) ∧
  H L = none ∧ H Te = none ∧ H M = none ∧ ∀ d ∈ ds, H d = none
theorem Keep.none' {p a : Addr} {H H' : Hp} {o : HO} (k : Keep p H H') (hp : H' p = some o) (n : H' a = none) : H a = none := by
  cases e : H a with
  | none => rfl
  | some u =>
    by_cases c : a = p
    · rw [c, hp] at n
      cases n
    · rw [k _ _ e c] at n
      cases n
/-- what Reader(..) asks of its arguments, and what it makes of them -/
def spInit (K : PySem.W.Frag) (C : Addr) : Sp := fun vs H Q _ => ∃ (ks ke : Bool) (p dx S En : Addr) (ds : List Addr) (rows : List Rw) (ns : List Int) (b : Int) (A B : List Str), vs = [.ref p, .ref S, .ref En, .int b] ∧ H p = some (.ins C dx []) ∧ SqK K ks H S (ds.map V.ref) ∧ RowsAt H ds rows ∧
  1 ≤ rows.length ∧ rows.length ≤ 12 ∧ (∀ r ∈ rows, okRow rows.length r ∧ (r.map (·.1)).Nodup ∧ r.length < 64) ∧ SqK K ke H En (ns.map V.int) ∧ ns.length < 64 ∧ ns.Nodup ∧ (∀ i ∈ ns, 0 ≤ i ∧ i < rows.length) ∧ 0 ≤ b ∧ b < rows.length ∧
  (∀ z ∈ keysOf rows, z ∈ A) ∧ A.length ≤ 6 ∧ (∀ z ∈ toldsOf rows, z ∈ B) ∧ B.length < 64 ∧ (B.filter signS).length ≤ 4 ∧ (B.filter markS).length ≤ 6 ∧
  ∀ (H' : Hp) (rows' : List Rw) (ns' : List Int) (ys ts : List Str), Keep p H H' → Ascs rows rows' → ns'.Perm ns → ns'.Pairwise (· ≤ ·) → Gath ys (keysOf rows) → sortedS ys = true → Gath ts (toldsOf rows) → sortedS ts = true → ReaderX C H' p rows' ns' b ys ts → NewR C H H' p → Q .non H'
theorem Perms.len : ∀ {a b : List Rw}, Perms a b → a.length = b.length
  | _, _, .nil => rfl
  | _, _, .cons _ h => congrArg (· + 1) h.len
theorem Perms.snoc {r r' : Rw} (p : r.Perm r') : ∀ {a b : List Rw}, Perms a b → Perms (a ++ [r]) (b ++ [r'])
  | _, _, .nil => .cons p .nil
  | _, _, .cons q h => .cons q (h.snoc p)
theorem Perms.keys : ∀ {a b : List Rw}, Perms a b → ∀ z, z ∈ keysOf b ↔ z ∈ keysOf a
  | _, _, .nil, _ => Iff.rfl
  | _, _, .cons (r := r) (r' := r') q h, z => by
    unfold keysOf
    rw [List.flatMap_cons, List.flatMap_cons, List.mem_append, List.mem_append]
    exact or_congr ((q.map (·.1)).mem_iff).symm (h.keys z)
theorem Perms.tolds : ∀ {a b : List Rw}, Perms a b → ∀ z, z ∈ toldsOf b ↔ z ∈ toldsOf a
  | _, _, .nil, _ => Iff.rfl
  | _, _, .cons (r := r) (r' := r') q h, z => by
    unfold toldsOf
    rw [List.flatMap_cons, List.flatMap_cons, List.mem_append, List.mem_append]
    exact or_congr ((q.filterMap _).mem_iff).symm (h.tolds z)
theorem RowsAt.snoc {H : Hp} {d : Addr} {r : Rw} (h : RowAt H d r) : ∀ {ds : List Addr} {rows : List Rw}, RowsAt H ds rows → RowsAt H (ds ++ [d]) (rows ++ [r])
  | _, _, .nil => .cons h .nil
  | _, _, .cons q k => .cons q (k.snoc h)
theorem tolds_name {n : Int} {rows : List Rw} (h : ∀ r ∈ rows, okRow n r) : ∀ z ∈ toldsOf rows, z.length ≤ 8 := fun z hz => by
  unfold toldsOf at hz
  obtain ⟨r, hr, h2⟩ := List.mem_flatMap.mp hz
  obtain ⟨e, he, h3⟩ := List.mem_filterMap.mp h2
  exact ((h r hr e he).2.2 z h3).2
theorem keys_name {n : Int} {rows : List Rw} (h : ∀ r ∈ rows, okRow n r) : ∀ z ∈ keysOf rows, z.length = 1 := fun z hz => by
  unfold keysOf at hz
  obtain ⟨r, hr, h2⟩ := List.mem_flatMap.mp hz
  obtain ⟨e, he, rfl⟩ := List.mem_map.mp h2
  exact (h r hr e he).1.2
open PySem.W TL in
theorem join_len : ∀ {ys : List Str}, (∀ z ∈ ys, z.length = 1) → (Txt.join "" ys).length = ys.length := fun {ys} h => by
  have e : ∀ l : List (List Nat), (joinL [] l).length = (l.map List.length).sum := by
    intro l
    induction l with
    | nil => rfl
    | cons x l ih =>
      cases l with
      | nil =>
        show x.length = x.length + 0
        omega
      | cons y r =>
        show (x ++ ([] ++ joinL [] (y :: r))).length = _
        rw [List.nil_append, List.length_append, ih]
        rfl
  have k : tl (Str.join ("" : Str) ys) = joinL (tl ("" : Str)) (ys.map tl) := tl_join "" ys
  have z : tl ("" : Str) = [] := rfl
  rw [join_eq]
  show (tl (Str.join ("" : Str) ys)).length = ys.length
  rw [k, z, e, List.map_map]
  have q : ∀ l : List Str, (∀ x ∈ l, x.length = 1) → (l.map (List.length ∘ tl)).sum = l.length := by
    intro l
    induction l with
    | nil => intro _; rfl
    | cons x l ih =>
      intro hh
      have h1 : (tl x).length = 1 := hh x List.mem_cons_self
      rw [List.map_cons, List.sum_cons, List.length_cons, ih fun y hy => hh y (List.mem_cons_of_mem _ hy)]
      show (tl x).length + _ = _
      omega
  exact q ys h
section
variable {P : Program} {w : World} {K : PySem.W.Frag} {mg : Str → Option Value} {base : Heap}
theorem ok_init {f C fH fR fA fB fC fN fL : Addr} {fd fdH fdR fdA fdB fdC fdN fdL : FuncData} {dvs : List V} {kws : List (Str × V)} (F : FunD K "__init__" "Reader.__init__" (defArgs sInit) (defBody sInit) (defScope sInit) dvs kws f fd) (T : RdC K C)
    (aH : At K mg "has_length" fH fdH ["value", "least", "most"] []) (gH : FnOk P w K mg base CX0 1 fH fdH ["value", "least", "most"] (spHasLenK K))
    (aR : At K mg "_is_reader_state" fR fdR ["value", "many"] []) (gR : FnOk P w K mg base CX0 4 fR fdR ["value", "many"] spIsRow)
    (aA : At K mg "are_states" fA fdA ["value", "many"] []) (gA : FnOk P w K mg base CX0 3 fA fdA ["value", "many"] (spAreStatesK K))
    (aB : At K mg "is_below" fB fdB ["value", "limit"] []) (gB : FnOk P w K mg base CX0 2 fB fdB ["value", "limit"] (spBelow K))
    (aC : At K mg "_copied_state" fC fdC ["state"] []) (gC : FnOk P w K mg base CX0 1 fC fdC ["state"] spCopied)
    (mN : Meth K C "_collect_names" fN) (bN : Binds K fdN ["self"] []) (gN : FnOk P w K mg base CX0 4 fN fdN ["self"] (spCollect C))
    (mL : Meth K C "_check_limits" fL) (bL : Binds K fdL ["self"] []) (gL : FnOk P w K mg base CX0 1 fL fdL ["self"] (spLimits C))
    {u12 : Value} (c12 : Con K C "MAX_STATES" (.int 12) u12) (zn : mg "len" = none) (ze : mg "enumerate" = none) (zt : mg "tuple" = none) (zs : mg "sorted" = none) :
    FnOk P w K mg base CX0 5 f fd ["self", "states", "ends", "start"] (spInit K C) := by
  refine F.ok scInit (fun vs H Q E h => ?_) (fun cdv A0 outer s H vs Q E hr h => ?_)
  · obtain ⟨ks, ke, p, dx, S, En, ds, rows, ns, b, A, B, rfl, _⟩ := h
    rfl
  · obtain ⟨ks, ke, p, dx, S, En, ds, rows, ns, b, A, B, rfl, hp, hS, hrw, r1, r12, hok, hE, nl, nnd, nin, b0, bn, hA, lA, hB, lB, fB1, fB2, q⟩ := h
    refine ⟨_, PSs.nox (pss_cons (ps_if (pt_not (pt_val (pe_call gH (hr.mono (by decide)) (by rfl) aH.g aH.kp aH.b .nil pass0 (pa_cons (pv 1) (pa_cons pe_int (pa_cons (pe_con (pv 0) rfl) pa_nil)))))) (pss_one ps_never) pss_nil)
      (pss_cons (ps_for PassesOwn.never rfl (pi_enumK (by rfl) ze (pa_cons (pv 1) pa_nil)) (pg_tup rfl (pgs_cons (pg_name (i := 4) scInit.nd rfl (.inl rfl)) (pgs_cons (pg_name (i := 5) scInit.nd rfl (.inl rfl)) pgs_nil)))
        (pss_one (ps_if (pt_not (pt_val (pe_call gR hr (by rfl) aR.g aR.kp aR.b .nil pass0 (pa_cons (pv 5) (pa_cons (pe_callB call_len_seq (by rfl) zn PySem.boot_len (pa_cons (pv 1) pa_nil)) pa_nil))))) (pss_one ps_never) pss_nil)))
      (pss_cons (ps_if (pt_not (pt_val (pe_call gA (hr.mono (by decide)) (by rfl) aA.g aA.kp aA.b .nil pass0 (pa_cons (pv 2) (pa_cons (pe_callB call_len_seq (by rfl) zn PySem.boot_len (pa_cons (pv 1) pa_nil)) pa_nil))))) (pss_one ps_never) pss_nil)
      (pss_cons (ps_if (pt_not (pt_val (pe_call gB (hr.mono (by decide)) (by rfl) aB.g aB.kp aB.b .nil pass0 (pa_cons (pv 3) (pa_cons (pe_callB call_len_seq (by rfl) zn PySem.boot_len (pa_cons (pv 1) pa_nil)) pa_nil))))) (pss_one ps_never) pss_nil)
      (pss_cons (ps_fld (pv 0) (pe_lc (own := [("state", 5)]) (g := gName 5) (tt := tYes) rfl scInit.nd (pi_seq (pv 1)) (blkOk_by (N := ["self", "states", "ends", "start", "index", "state"]) (sc := defScope sInit) (by decide +kernel))
          (fun _ _ _ _ _ => pg_name (i := 5) scInit.nd rfl (Or.inl rfl)) (fun _ _ _ _ _ => pts_nil) (fun _ _ _ _ _ => pe_call gC (hr.mono (by decide)) (by rfl) aC.g aC.kp aC.b .nil pass0 (pa_cons (pv 5) pa_nil))) rfl)
      (pss_cons (ps_fld (pv 0) (pe_callTy call_tuple_of (by rfl) zt (by decide +kernel) (pa_cons (pe_callB cr_sortedK (by rfl) zs (by decide +kernel) (pa_cons (pv 2) pa_nil)) pa_nil)) rfl)
      (pss_cons (ps_fld (pv 0) (pv 3) rfl)
      (pss_cons (ps_expr (pe_meth0 (pv 0) T.cl mN gN hr bN .nil pass0))
      (pss_one (ps_expr (pe_meth0 (pv 0) T.cl mL gL (hr.mono (by decide)) bL .nil pass0))))))))))), ?_⟩
    have lds : (ds.map V.ref).length = rows.length := by rw [List.length_map, hrw.len]
    -- has_length
    refine ⟨_, rfl, _, rfl, p, C, dx, _, _, _, rfl, hp, T.cl, c12, rfl, ks, S, _, 1, 12, rfl, hS, fun H1 x1 => ?_⟩
    rw [lds, decide_eq_true (by omega), decide_eq_true (by omega)]
    refine ⟨true, rfl, iteF ?_⟩
    -- each state
    refine ⟨_, rfl, ks, S, _, rfl, hS.ext x1, ?_⟩
    refine for_it (walk_enumK (xs := ds.map V.ref)) (fun i σ H2 => ∃ v4 v5, σ = [some (.ref p), some (.ref S), some (.ref En), some (.int b), v4, v5] ∧ Ext H H2) ⟨none, none, rfl, x1⟩ (fun i σ H2 _ ⟨_, _, _, x2⟩ => hS.ext x2) ?_ ?_
    · rintro i x σ H2 H3 hi ⟨v4, v5, rfl, x2⟩ ⟨T1, x3, y3, rfl, nT, rfl, e1, e2⟩
      obtain ⟨d, hd, rfl⟩ := at_map e2
      obtain ⟨r, hri, ra⟩ := hrw.at_ hd
      cases e1
      have x3 := x2.trans (Ext.new nT (o := .tup [.int (i : Nat), .ref d]))
      obtain ⟨o1, o2, o3⟩ := hok r (List.mem_of_getElem? hri)
      refine ⟨T1, _, rfl, SqT.of upd_same, rfl, _, _, rfl, _, _, rfl, rfl, ?_⟩
      refine ⟨_, rfl, _, rfl, S, _, rfl, (hS.ext x3).or, d, r, _, rfl, ?_, ?_, by omega, fun H4 x4 => ⟨true, rfl, iteF ⟨_, _, rfl, x3.trans x4⟩⟩⟩
      · obtain ⟨es, a1, a2⟩ := ra
        exact ⟨es, x3 _ _ a1, a2.ext fun t xs e => x3 _ _ e⟩
      · rw [lds]
        exact o1
    rintro σ H2 ⟨v4, v5, rfl, x2⟩
    -- are_states, is_below
    refine ⟨_, rfl, _, rfl, S, _, rfl, (hS.ext x2).or, ke, En, ns, _, rfl, hE.ext x2, nl, nnd, (by rw [lds]; exact nin), fun H3 x3 => ⟨true, rfl, iteF ?_⟩⟩
    have x3 := x2.trans x3
    refine ⟨_, rfl, _, rfl, S, _, rfl, (hS.ext x3).or, .int b, _, rfl, .inl ⟨b, rfl⟩, ?_⟩
    have eb : below (.int b) ((ds.map V.ref).length : Nat) = true := by
      rw [lds]
      unfold below
      simp [b0, bn]
    rw [eb]
    refine ⟨true, rfl, iteF ?_⟩
    -- self._states
    refine ⟨_, rfl, ks, S, rfl, ⟨_, hS.ext x3⟩, fun D nD => ?_⟩
    have x4 := x3.trans (Ext.new nD (o := .lst []))
    refine lc_it (walk_seq (xs := ds.map V.ref)) (fun i H4 => Ext H H4 ∧ ∃ ds' rows', H4 D = some (.lst (ds'.map V.ref)) ∧ RowsAt H4 ds' rows' ∧ Ascs (rows.take i) rows' ∧ ds'.Nodup ∧ (∀ d ∈ ds', H d = none)) ⟨x4, [], [], upd_same, .nil, .nil, List.nodup_nil, fun d h => by cases h⟩ (fun i H4 _ h => hS.ext h.1) ?_ ?_
    · rintro i x H4 H5 hi ⟨x5, ds', rows', l5, w5, p5, nd5, f5⟩ ⟨rfl, hx⟩
      obtain ⟨d, hd, rfl⟩ := at_map hx
      obtain ⟨r, hri, es, a1, a2⟩ := hrw.at_ hd
      obtain ⟨o1, o2, o3⟩ := hok r (List.mem_of_getElem? hri)
      have hil : i < rows.length := (List.getElem?_eq_some_iff.mp hri).1
      refine ⟨rfl, _, rfl, d, r, rfl, ⟨es, x5 _ _ a1, a2.ext fun t xs e => x5 _ _ e⟩, o2, o3, fun H6 p6 r' x6 n6 ra pm srt => ?_⟩
      have nDp : p6 ≠ D := fun z => by
        rw [z, l5] at n6
        cases n6
      have lw : ds'.length = rows'.length := w5.len
      have lp : rows'.length ≤ i := by
        rw [← p5.perms.len, List.length_take]
        omega
      have keepD : ∀ b o, H5 b = some o → b ≠ D → upd H6 D (.lst (ds'.map V.ref ++ [V.ref p6])) b = some o := fun b o e n => by
        rw [upd_ne n]
        exact x6 _ _ e
      refine ⟨_, x6 _ _ l5, by rw [List.length_map]; exact small_list (by omega), fun b o e => by rw [upd_ne (ne_of_none e (x3.free nD))]; exact x6 _ _ (x5 _ _ e), ds' ++ [p6], rows' ++ [r'], by rw [upd_same, List.map_append]; rfl, ?_, ?_, ?_, ?_⟩
      · refine RowsAt.snoc ?_ ?_
        · refine ra.same (upd_ne nDp) fun t xs e => ?_
          rw [upd_ne (ne_of e (x6 _ _ l5) (by intro z; cases z))]
          exact e
        · have w6 := w5.ext x6
          have kk : Keep D H6 (upd H6 D (.lst (ds'.map V.ref ++ [V.ref p6]))) := Keep.at_
          have l6 := x6 _ _ l5
          exact w6.keep kk (fun kvs e => by rw [l6] at e; cases e) (fun xs e => by rw [l6] at e; cases e)
      · rw [take_more hri]
        exact p5.snoc pm.symm srt
      · refine List.nodup_append.mpr ⟨nd5, by simp, fun a ha b hb e => ?_⟩
        rw [List.mem_singleton.mp hb] at e
        obtain ⟨kvs, ek⟩ := w5.mem ha
        rw [e, n6] at ek
        cases ek
      · intro d' hd'
        rcases List.mem_append.mp hd' with c | c
        · exact f5 d' c
        · rw [List.mem_singleton.mp c]
          exact x5.free n6
    rintro H4 ⟨x5, ds', rows', l5, w5, p5, nd5, f5⟩
    rw [lds, List.take_length] at p5
    refine ⟨_, rfl, p, C, dx, [], rfl, x5 _ _ hp, T.cl, T.nS, by decide, ?_⟩
    have k5 : Keep p H (upd H4 p (.ins C dx (putF "_states" (.ref D) []))) := fun b o e n => by
      rw [upd_ne n]
      exact x5 _ _ e
    have i5 : (upd H4 p (.ins C dx (putF "_states" (.ref D) []))) p = some (.ins C dx (putF "_states" (.ref D) [])) := upd_same
    have nDp : D ≠ p := ne_of l5 (x5 _ _ hp) (by intro z; cases z)
    have l6 : (upd H4 p (.ins C dx (putF "_states" (.ref D) []))) D = some (.lst (ds'.map V.ref)) := by
      rw [upd_ne nDp]
      exact l5
    have hp4 := x5 _ _ hp
    have w6 : RowsAt (upd H4 p (.ins C dx (putF "_states" (.ref D) []))) ds' rows' := w5.keep Keep.at_ (fun kvs e => by rw [hp4] at e; cases e) (fun xs e => by rw [hp4] at e; cases e)
    have hE5 := hE.keepI k5 hp
    generalize upd H4 p (.ins C dx (putF "_states" (.ref D) [])) = H5 at k5 i5 l6 w6 hE5 ⊢
    -- self._ends
    refine ⟨_, rfl, ke, En, ns, rfl, hE5, nl, fun ns' pa pm rising na => ⟨pa, _, rfl, .inl ⟨SqL.of upd_same, fun Te nTe => ?_⟩⟩⟩
    have x6 : Ext H5 (upd (upd H5 pa (.lst (ns'.map V.int))) Te (.tup (ns'.map V.int))) := (Ext.new na).trans (Ext.new nTe)
    have t6 : (upd (upd H5 pa (.lst (ns'.map V.int))) Te (.tup (ns'.map V.int))) Te = some (.tup (ns'.map V.int)) := upd_same
    generalize upd (upd H5 pa (.lst (ns'.map V.int))) Te (.tup (ns'.map V.int)) = H6 at x6 t6 ⊢
    have i6 := x6 _ _ i5
    refine ⟨_, rfl, p, C, dx, _, rfl, i6, T.cl, T.nE, Nat.lt_of_le_of_lt (putF_len _ _ _) (by decide), ?_⟩
    have k7 : Keep p H (upd H6 p (.ins C dx (putF "_ends" (.ref Te) (putF "_states" (.ref D) [])))) := fun b o e n => by
      rw [upd_ne n]
      exact x6 _ _ (k5 b o e n)
    have i7 : (upd H6 p (.ins C dx (putF "_ends" (.ref Te) (putF "_states" (.ref D) [])))) p = some (.ins C dx (putF "_ends" (.ref Te) (putF "_states" (.ref D) []))) := upd_same
    have l7 : (upd H6 p (.ins C dx (putF "_ends" (.ref Te) (putF "_states" (.ref D) [])))) D = some (.lst (ds'.map V.ref)) := by
      rw [upd_ne nDp]
      exact x6 _ _ l6
    have t7 : (upd H6 p (.ins C dx (putF "_ends" (.ref Te) (putF "_states" (.ref D) [])))) Te = some (.tup (ns'.map V.int)) := by
      rw [upd_ne (ne_of t6 i6 (by intro z; cases z))]
      exact t6
    have w7 : RowsAt (upd H6 p (.ins C dx (putF "_ends" (.ref Te) (putF "_states" (.ref D) [])))) ds' rows' := (w6.ext x6).keep Keep.at_ (fun kvs e => by rw [i6] at e; cases e) (fun xs e => by rw [i6] at e; cases e)
    generalize upd H6 p (.ins C dx (putF "_ends" (.ref Te) (putF "_states" (.ref D) []))) = H7 at k7 i7 l7 t7 w7 ⊢
    -- self._start
    have f2 : (putF "_ends" (V.ref Te) (putF "_states" (V.ref D) [])).length ≤ 2 := Nat.le_trans (putF_len _ _ _) (Nat.succ_le_succ (putF_len _ _ _))
    refine ⟨_, rfl, _, rfl, p, C, dx, _, rfl, i7, T.cl, T.nB, by omega, ?_⟩
    have k8 : Keep p H (upd H7 p (.ins C dx (putF "_start" (.int b) (putF "_ends" (.ref Te) (putF "_states" (.ref D) []))))) := fun b' o e n => by
      rw [upd_ne n]
      exact k7 b' o e n
    have i8 : (upd H7 p (.ins C dx (putF "_start" (.int b) (putF "_ends" (.ref Te) (putF "_states" (.ref D) []))))) p = some (.ins C dx (putF "_start" (.int b) (putF "_ends" (.ref Te) (putF "_states" (.ref D) [])))) := upd_same
    have l8 : (upd H7 p (.ins C dx (putF "_start" (.int b) (putF "_ends" (.ref Te) (putF "_states" (.ref D) []))))) D = some (.lst (ds'.map V.ref)) := by
      rw [upd_ne nDp]
      exact l7
    have t8 : (upd H7 p (.ins C dx (putF "_start" (.int b) (putF "_ends" (.ref Te) (putF "_states" (.ref D) []))))) Te = some (.tup (ns'.map V.int)) := by
      rw [upd_ne (ne_of t7 i7 (by intro z; cases z))]
      exact t7
    have w8 : RowsAt (upd H7 p (.ins C dx (putF "_start" (.int b) (putF "_ends" (.ref Te) (putF "_states" (.ref D) []))))) ds' rows' := w7.keep Keep.at_ (fun kvs e => by rw [i7] at e; cases e) (fun xs e => by rw [i7] at e; cases e)
    have f3 : (putF "_start" (V.int b) (putF "_ends" (V.ref Te) (putF "_states" (V.ref D) []))).length ≤ 3 := Nat.le_trans (putF_len _ _ _) (Nat.succ_le_succ f2)
    have look : ∀ f : Str, (putF "_start" (V.int b) (putF "_ends" (V.ref Te) (putF "_states" (V.ref D) []))).lookup f = if f = "_start" then some (V.int b) else if f = "_ends" then some (V.ref Te) else if f = "_states" then some (V.ref D) else none := fun f => by
      rw [lookup_putF, lookup_putF, lookup_putF]
      rfl
    generalize putF "_start" (V.int b) (putF "_ends" (V.ref Te) (putF "_states" (V.ref D) [])) = f3s at i8 f3 look l8 t8 w8 k8 ⊢
    generalize upd H7 p (.ins C dx f3s) = H8 at k8 i8 l8 t8 w8 ⊢
    -- self._collect_names()
    have okall : ∀ r ∈ rows, okRow rows.length r := fun r h => (hok r h).1
    have kn := p5.perms.keys
    have tn := p5.perms.tolds
    have key1 : ∀ z ∈ keysOf rows', z.length = 1 := fun z hz => keys_name okall z ((kn z).mp hz)
    have told8 : ∀ z ∈ toldsOf rows', z.length ≤ 8 := fun z hz => tolds_name okall z ((tn z).mp hz)
    refine ⟨_, rfl, p, dx, f3s, rfl, i8, ?_, p, dx, D, f3s, ds', rows', A, B, rfl, i8, by omega, ?_, l8, nd5, w8, fun z hz => hA z ((kn z).mp hz), by omega, fun z hz => hB z ((tn z).mp hz), lB, fun z hz => by rw [key1 z hz]; decide, told8, fun H9 M ys ts k9 nM gy sy gt st hM i9 => ?_⟩
    · rw [look]
      rfl
    · rw [look]
      rfl
    -- self._check_limits()
    have fl : ∀ f : Str, (putF "_marks" (V.ref M) (putF "_text_signs" (V.str (Txt.join "" (ts.filter signS))) (putF "_page_signs" (V.str (Txt.join "" ys)) f3s))).lookup f = if f = "_marks" then some (V.ref M) else if f = "_text_signs" then some (V.str (Txt.join "" (ts.filter signS))) else if f = "_page_signs" then some (V.str (Txt.join "" ys)) else f3s.lookup f := fun f => by
      rw [lookup_putF, lookup_putF, lookup_putF]
    generalize putF "_marks" (V.ref M) (putF "_text_signs" (V.str (Txt.join "" (ts.filter signS))) (putF "_page_signs" (V.str (Txt.join "" ys)) f3s)) = f6 at i9 fl
    have sub1 : (ts.filter signS).length ≤ 4 := Nat.le_trans (len_le (gt.1.filter _) fun z hz => List.mem_filter.mpr ⟨hB z ((tn z).mp ((gt.2 z).mp (List.mem_filter.mp hz).1)), (List.mem_filter.mp hz).2⟩) fB1
    have sub2 : (ts.filter markS).length ≤ 6 := Nat.le_trans (len_le (gt.1.filter _) fun z hz => List.mem_filter.mpr ⟨hB z ((tn z).mp ((gt.2 z).mp (List.mem_filter.mp hz).1)), (List.mem_filter.mp hz).2⟩) fB2
    have sub3 : ys.length ≤ 6 := Nat.le_trans (len_le gy.1 fun z hz => hA z ((kn z).mp ((gy.2 z).mp hz))) lA
    refine ⟨_, rfl, p, dx, f6, rfl, i9, ?_, p, dx, M, f6, _, _, _, rfl, i9, (by rw [fl]; rfl), (by rw [fl]; rfl), (by rw [fl]; rfl), hM, ?_, ?_, by rw [List.length_map]; exact sub2, ?_⟩
    · rw [fl, look]
      rfl
    · rw [join_len fun z hz => key1 z ((gy.2 z).mp hz)]
      exact sub3
    · rw [join_len fun z hz => ?_]
      · exact sub1
      · have q1 := (List.mem_filter.mp hz).2
        unfold signS at q1
        rw [Bool.and_eq_true, decide_eq_true_eq] at q1
        exact q1.2
    have gy' : Gath ys (keysOf rows) := ⟨gy.1, fun z => (gy.2 z).trans (kn z)⟩
    have gt' : Gath ts (toldsOf rows) := ⟨gt.1, fun z => (gt.2 z).trans (tn z)⟩
    refine q H9 rows' ns' ys ts (k8.trans k9) p5 pm rising gy' sy gt' st (ReaderX.mk ⟨dx, f6, D, ds', Te, M, i9, (by rw [fl, look]; rfl), k9 _ _ l8 nDp, w8.keep k9 (fun kvs e => by rw [i8] at e; cases e) (fun xs e => by rw [i8] at e; cases e), (by rw [fl, look]; rfl), k9 _ _ t8 (ne_of t8 i8 (by intro z; cases z)), (by rw [fl, look]; rfl), (by rw [fl]; rfl), (by rw [fl]; rfl), (by rw [fl]; rfl), hM, nd5, fun f hf => ?_⟩) ?_
    · rw [fl, look]
      simp only [List.mem_cons, List.not_mem_nil, or_false, not_or] at hf
      obtain ⟨a1, a2, a3, a4, a5, a6⟩ := hf
      rw [if_neg a6, if_neg a5, if_neg a4, if_neg a3, if_neg a2, if_neg a1]
    · exact ⟨dx, f6, D, ds', Te, M, i9, (by rw [fl, look]; rfl), k9 _ _ l8 nDp, (by rw [fl, look]; rfl), (by rw [fl]; rfl), x3.free nD, k5.none' i5 ((Ext.new na).free nTe), k8.none' i8 nM, f5⟩
end
end Sl
/-! ## P13 -/
set_option Elab.async false
set_option linter.all false
set_option maxRecDepth 100000
set_option maxHeartbeats 4000000
namespace Sl
open PySem PySem.Spec PyProof.Rows L2 TxS
abbrev sCheckState : Stmt := top 7
abbrev sStart : Stmt := inClass (top 22) 5
abbrev sEnds : Stmt := inClass (top 22) 6
abbrev sMove : Stmt := inClass (top 22) 7
abbrev sWalk : Stmt := top 999
abbrev sRow : Stmt := top 999
abbrev sLast : Stmt := top 999
def spCheckState : Sp := fun vs H Q _ => ∃ (i n : Int), vs = [.int i, .int n] ∧ 0 ≤ i ∧ i < n ∧ Q .non H
/-- the move of a state by a sign -/
def mvOf (rows : List Rw) (q : Int) (z : Str) : Option Mv := (rows.getD q.toNat []).lookup z
/-- what a reader's rows are like -/
def okRows (n : Int) (rows : List Rw) : Prop := (rows.length : Int) = n ∧ ∀ r ∈ rows, okRow n r ∧ (r.map (·.1)).Nodup
/-- an optional move as a value -/
def MvV (H : Hp) (v : V) : Option Mv → Prop
  | none => v = .non
  | some m => ∃ t, v = .ref t ∧ MvAt H t m
def spMove (C : Addr) : Sp := fun vs H Q _ => ∃ (p : Addr) (q : Int) (z : Str) (rows : List Rw) (ends : List Int) (b n : Int), vs = [.ref p, .int q, .str z] ∧ ReaderAt C H p rows ends b ∧ okRows n rows ∧ 0 ≤ q ∧ q < n ∧ ∀ v, MvV H v (mvOf rows q z) → Q v H
/-- the moves along signs -/
def walkL (rows : List Rw) : Int → List Str → List Mv
  | _, [] => []
  | q, z :: r => match mvOf rows q z with
    | none => []
    | some m => m :: walkL rows m.1 r
def signsOf (z : Str) : List Str := z.cps.toList.map fun c => ⟨#[c]⟩
inductive MvsAt (H : Hp) : List Addr → List Mv → Prop
  | nil : MvsAt H [] []
  | cons {t : Addr} {m : Mv} {ts : List Addr} {ms : List Mv} : MvAt H t m → MvsAt H ts ms → MvsAt H (t :: ts) (m :: ms)
theorem MvsAt.ext {H H' : Hp} (x : ∀ t xs, H t = some (.tup xs) → H' t = some (.tup xs)) : ∀ {ts : List Addr} {ms : List Mv}, MvsAt H ts ms → MvsAt H' ts ms
  | _, _, .nil => .nil
  | _, _, .cons a h => .cons (x _ _ a) (h.ext x)
theorem MvsAt.snoc {H : Hp} {t : Addr} {m : Mv} (a : MvAt H t m) : ∀ {ts : List Addr} {ms : List Mv}, MvsAt H ts ms → MvsAt H (ts ++ [t]) (ms ++ [m])
  | _, _, .nil => .cons a .nil
  | _, _, .cons b h => .cons b (h.snoc a)
theorem MvsAt.len {H : Hp} : ∀ {ts : List Addr} {ms : List Mv}, MvsAt H ts ms → ts.length = ms.length
  | _, _, .nil => rfl
  | _, _, .cons _ h => congrArg (· + 1) h.len
theorem MvsAt.at_ {H : Hp} : ∀ {ts : List Addr} {ms : List Mv} {i : Nat} {t : Addr}, MvsAt H ts ms → ts[i]? = some t → ∃ m, ms[i]? = some m ∧ MvAt H t m
  | _, _, 0, _, .cons (m := m) h _, q => by cases q; exact ⟨m, rfl, h⟩
  | _, _, i + 1, _, .cons _ h, q => h.at_ (i := i) q
  | _, _, 0, _, .nil, q => by cases q
  | _, _, i + 1, _, .nil, q => by cases q
theorem ReaderAt.ext {C : Addr} {H H' : Hp} {p : Addr} {rows : List Rw} {ends : List Int} {b : Int} (x : Ext H H') (h : ReaderAt C H p rows ends b) : ReaderAt C H' p rows ends b := by
  obtain ⟨dx, fs, L, ds, Te, a1, a2, a3, a4, a5, a6, a7, a8⟩ := h.ex
  exact ⟨dx, fs, L, ds, Te, x _ _ a1, a2, x _ _ a3, a4.ext x, a5, x _ _ a6, a7, a8⟩
theorem lookup_mem : ∀ {r : Rw} {z : Str} {m : Mv}, (r.map (·.1)).Nodup → (z, m) ∈ r → r.lookup z = some m
  | e :: r, z, m, nd, h => by
    obtain ⟨n1, n2⟩ := List.nodup_cons.mp nd
    obtain ⟨y, k⟩ := e
    rw [List.lookup_cons]
    rcases List.mem_cons.mp h with c | c
    · cases c
      simp
    · have ne : (z == y) = false := by
        cases e : z == y with
        | false => rfl
        | true => exact absurd (List.mem_map.mpr ⟨_, c, beq_iff_eq.mp e⟩) n1
      rw [ne]
      exact lookup_mem n2 c
  | [], _, _, _, h => by cases h
theorem lookup_no : ∀ {r : Rw} {z : Str}, z ∉ r.map (·.1) → r.lookup z = none
  | [], _, _ => rfl
  | (y, k) :: r, z, h => by
    have ne : (z == y) = false := by
      cases e : z == y with
      | false => rfl
      | true => exact absurd (List.mem_map.mpr ⟨(y, k), List.mem_cons_self, (beq_iff_eq.mp e).symm⟩) h
    rw [List.lookup_cons, ne]
    exact lookup_no fun m => h (List.mem_cons_of_mem _ m)
theorem mvOf_ok {n : Int} {rows : List Rw} {q : Int} {z : Str} {m : Mv} (ok : okRows n rows) (h : mvOf rows q z = some m) : okMv n m := by
  unfold mvOf at h
  cases e : rows[q.toNat]? with
  | none =>
    rw [List.getD_eq_getElem?_getD, e] at h
    cases h
  | some r =>
    rw [List.getD_eq_getElem?_getD, e] at h
    have h : r.lookup z = some m := h
    have hr := (ok.2 r (List.mem_of_getElem? e)).1
    have mem : ∀ {l : Rw}, l.lookup z = some m → (z, m) ∈ l := by
      intro l
      induction l with
      | nil => intro k; cases k
      | cons y l ih =>
        obtain ⟨y1, y2⟩ := y
        intro k
        rw [List.lookup_cons] at k
        cases c : z == y1 with
        | true =>
          rw [c] at k
          cases k
          rw [beq_iff_eq.mp c]
          exact List.mem_cons_self
        | false =>
          rw [c] at k
          exact List.mem_cons_of_mem _ (ih k)
    exact (hr _ (mem h)).2
section
variable {P : Program} {w : World} {K : PySem.W.Frag} {mg : Str → Option Value} {base : Heap}
theorem scCheckState : FnScope ["value", "many"] ["value", "many"] (defScope sCheckState) := ⟨rfl, rfl, rfl, by decide +kernel, rfl, by decide +kernel, by decide +kernel⟩
theorem ok_checkstate {f fB : Addr} {fd fdB : FuncData} (F : Fun K "check_state" "check_state" sCheckState f fd) (aB : At K mg "is_below" fB fdB ["value", "limit"] []) (gB : FnOk P w K mg base CX0 2 fB fdB ["value", "limit"] (spBelow K)) :
    FnOk P w K mg base CX0 3 f fd ["value", "many"] spCheckState := by
  refine F.ok scCheckState (fun vs H Q E h => ?_) (fun cdv A0 outer s H vs Q E hr h => ?_)
  · obtain ⟨i, n, rfl, _⟩ := h
    rfl
  · obtain ⟨i, n, rfl, h0, h1, q⟩ := h
    refine ⟨_, pss_one (ps_if (pt_not (pt_val (pe_call gB hr (by rfl) aB.g aB.kp aB.b .nil pass0 (pa_cons (pv 0) (pa_cons (pv 1) pa_nil))))) (pss_one ps_never) pss_nil), ?_⟩
    refine ⟨_, rfl, _, rfl, .int i, n, rfl, .inl ⟨i, rfl⟩, ?_⟩
    have e : below (.int i) n = true := by
      unfold below
      simp [h0, h1]
    rw [e]
    exact ⟨true, rfl, iteF q⟩
theorem scMove : FnScope ["self", "state", "sign"] ["self", "state", "sign"] (defScope sMove) := ⟨rfl, rfl, rfl, by decide +kernel, rfl, by decide +kernel, by decide +kernel⟩
theorem ok_move {f C fS : Addr} {fd fdS : FuncData} (F : Fun K "move" "Reader.move" sMove f fd) (T : RdC K C) (aS : At K mg "check_state" fS fdS ["value", "many"] []) (gS : FnOk P w K mg base CX0 3 fS fdS ["value", "many"] spCheckState) (zn : mg "len" = none) :
    FnOk P w K mg base CX0 4 f fd ["self", "state", "sign"] (spMove C) := by
  refine F.ok scMove (fun vs H Q E h => ?_) (fun cdv A0 outer s H vs Q E hr h => ?_)
  · obtain ⟨p, q, z, rows, ends, b, n, rfl, _⟩ := h
    rfl
  · obtain ⟨p, q, z, rows, ends, b, n, rfl, RA, ok, q0, qn, k⟩ := h
    obtain ⟨dx, fs, L, ds, Te, hp, hst, hL, hrw, _⟩ := RA.ex
    have lr : (ds.map V.ref).length = rows.length := by rw [List.length_map, hrw.len]
    refine ⟨_, pss_cons (ps_expr (pe_call gS hr (by rfl) aS.g aS.kp aS.b .nil pass0 (pa_cons (pv 1) (pa_cons (pe_callB call_len_seq (by rfl) zn PySem.boot_len (pa_cons (pe_fld (pv 0) rfl) pa_nil)) pa_nil))))
      (pss_one (ps_ret (pe_dget1 (hu_of hr) (pe_ix ix_list (pe_fld (pv 0) rfl) (pv 1) (fun _ _ => rfl)) (pv 2) ⟨rfl, rfl, rfl, rfl⟩))), ?_⟩
    refine ⟨_, rfl, _, rfl, p, C, dx, _, _, rfl, hp, T.cl, T.nS, hst, L, _, rfl, .inl (SqL.of hL), q, _, rfl, q0, by rw [lr]; have := ok.1; omega, ?_⟩
    obtain ⟨j, ej⟩ : ∃ j : Nat, q = (j : Int) := ⟨q.toNat, by omega⟩
    subst ej
    have hq : j < rows.length := by have := ok.1; omega
    have hqd : j < ds.length := by rw [hrw.len]; exact hq
    obtain ⟨r, hr1, es, hd, he⟩ := hrw.at_ (i := j) (d := ds[j]) (List.getElem?_eq_getElem hqd)
    have hat : atI (ds.map V.ref) (j : Int) = some (.ref ds[j]) := atI_nat (by rw [List.getElem?_map, List.getElem?_eq_getElem hqd]; rfl)
    refine ⟨_, rfl, p, C, dx, _, _, rfl, hp, T.cl, T.nS, hst, _, rfl, L, _, _, _, rfl, rfl, SqL.of hL, hat, ds[j], rfl, .inl ⟨_, Rd.of hd⟩, _, rfl, _, DGet.k (k := Sum.inr z) hd, ?_⟩
    have ek := he.keys
    have hmem := List.mem_of_getElem? hr1
    have nd := (ok.2 r hmem).2
    have emv : mvOf rows (j : Int) z = r.lookup z := by
      unfold mvOf
      rw [Int.toNat_natCast, List.getD_eq_getElem?_getD, hr1]
      rfl
    by_cases c : z ∈ es.map (·.1)
    · obtain ⟨t, m, m1, m2, m3⟩ := he.mem c
      rw [val_at (by rw [ek]; exact nd) m1]
      refine k _ ?_
      rw [emv, lookup_mem nd m2]
      exact ⟨t, rfl, m3⟩
    · rw [val_no c]
      refine k _ ?_
      rw [emv, lookup_no (by rw [← ek]; exact c)]
      rfl
end
end Sl
/-! ## P15 -/
set_option Elab.async false
set_option linter.all false
set_option maxRecDepth 100000
set_option maxHeartbeats 4000000
namespace Sl
open PySem PySem.Spec PyProof.Rows L2 TxS
abbrev sLetters : Stmt := top 27
abbrev sMarks : Stmt := top 28
theorem Rng.keep {H H' : Hp} {a b : Addr} (r : Rng H a) (k : Keep b H H') (n : a ≠ b) : Rng H' a := by
  obtain ⟨x, y, h, q⟩ := r.ex
  exact ⟨x, y, k _ _ h n, q⟩
theorem Rng.ext {H H' : Hp} {a : Addr} (r : Rng H a) (k : Ext H H') : Rng H' a := by
  obtain ⟨x, y, h, q⟩ := r.ex
  exact ⟨x, y, k _ _ h, q⟩
theorem Keep.of {a : Addr} {H H' : Hp} (x : Ext H H') : Keep a H H' := fun b o e _ => x b o e
theorem Keep.free {a : Addr} {H H' : Hp} {p : Addr} {o : HO} (k : Keep a H H') (ha : H' a = some o) (n : H' p = none) : H p = none := by
  cases e : H p with
  | none => rfl
  | some u =>
    by_cases c : p = a
    · rw [c, ha] at n
      cases n
    · rw [k p u e c] at n
      cases n
theorem Rng.there {H : Hp} {a : Addr} (r : Rng H a) : ∃ o, H a = some o := by
  obtain ⟨x, y, h, q⟩ := r.ex
  exact ⟨_, h⟩
theorem Rng.lst {H : Hp} {a b : Addr} {xs : List V} (r : Rng H a) (h : H b = some (.lst xs)) (n : ∀ x y : Int, xs ≠ [.int x, .int y]) : b ≠ a := fun e => by
  obtain ⟨x, y, h2, q⟩ := r.ex
  rw [e, h2] at h
  exact n x y (by injection h with h; injection h with h; exact h.symm)
def spChoice : Sp := fun vs H Q _ => ∃ (a b : Addr) (xs : List V), vs = [.ref a, .ref b] ∧ Rng H a ∧ H b = some (.lst xs) ∧ b ≠ a ∧ 0 < xs.length ∧ xs.length ≤ 10000 ∧
  ∀ (i : Nat) (v : V) (H' : Hp), xs[i]? = some v → Rng H' a → Keep a H H' → Q v H'
def abc : Str := "abcdefghijklmnopqrstuvwxyz"
def abcL : List Str := signsOf abc
/-- different letters -/
def spLetters : Sp := fun vs H Q _ => ∃ (a : Addr) (n : Nat), vs = [.ref a, .int n] ∧ Rng H a ∧ n ≤ 26 ∧
  ∀ (H' : Hp) (L : Addr) (zs : List Str), Rng H' a → Keep a H H' → H L = none → H' L = some (.lst (zs.map V.str)) → zs.length = n → zs.Nodup → (∀ z ∈ zs, z ∈ abcL) → Q (.ref L) H'
def rLen (K : PySem.W.Frag) : List V → Hp → VK → Prop := fun xs H Q => ∃ p ys, xs = [V.ref p] ∧ (SqL K H p ys ∨ SqT K H p ys) ∧ Q (.int (ys.length : Nat)) H
theorem ix_nat {n j : Nat} (h : j < n) : ixN n (j : Int) = some j := by
  unfold ixN
  rw [if_pos (by omega), if_pos (by omega), Int.toNat_natCast]
theorem erase_map {α β : Type} (f : α → β) : ∀ (l : List α) (j : Nat), (l.map f).eraseIdx j = (l.eraseIdx j).map f
  | [], _ => rfl
  | _ :: _, 0 => rfl
  | x :: l, j + 1 => congrArg (f x :: ·) (erase_map f l j)
theorem pick_perm {α : Type} : ∀ (l : List α) (j : Nat) (h : j < l.length), (l[j] :: l.eraseIdx j).Perm l
  | [], _, h => by cases h
  | x :: l, 0, _ => List.Perm.refl _
  | x :: l, j + 1, h => (List.Perm.swap x _ _).trans ((pick_perm l j (Nat.lt_of_succ_lt_succ h)).cons x)
/-- list(a text): its signs -/
def rListStr : List V → Hp → VK → Prop := fun xs H Q => ∃ z : Str, xs = [.str z] ∧ z.length ≤ 10000 ∧ ∀ l, H l = none → Q (.ref l) (upd H l (.lst ((signsOf z).map V.str)))
theorem signs_vals {z : Str} {acc : Array Value} (h : ItemsOf (SignAt z) acc z.cps.size) : Vals ((signsOf z).map V.str) acc.toList := by
  have key : ∀ (cs : List Nat) (vs : List Value), vs.length = cs.length → (∀ (j : Nat) (v : Value), vs[j]? = some v → ∃ c u, cs[j]? = some c ∧ v = Value.str ⟨#[c]⟩ u) → Vals (cs.map fun c => V.str ⟨#[c]⟩) vs := by
    intro cs
    induction cs with
    | nil =>
      intro vs e _
      rw [List.eq_nil_of_length_eq_zero e]
      exact .nil
    | cons c cs ih =>
      intro vs e q
      cases vs with
      | nil => cases e
      | cons v vs =>
        obtain ⟨c', u, e1, e2⟩ := q 0 v rfl
        cases e1
        exact .cons ⟨u, e2⟩ (ih vs (by simpa using e) fun j v' hj => q (j + 1) v' hj)
  have k := key z.cps.toList acc.toList (by rw [Array.length_toList, Array.length_toList]; exact h.1) fun j v hj => by
    obtain ⟨c, u, e1, e2⟩ := h.2 j v (by rw [← Array.getElem?_toList]; exact hj)
    exact ⟨c, u, by rw [Array.getElem?_toList]; exact e1, e2⟩
  unfold signsOf
  rw [List.map_map]
  exact k
theorem cr_listStr {X : Cx} (hc : X.calm = true) : CallR X (.type "list") rListStr := by
  intro pins s σ H xs us Q I r h
  obtain ⟨z, rfl, hz, q⟩ := h
  obtain ⟨u, rfl, t, rfl⟩ := vals1 r
  have hz' : z.cps.size ≤ sizeLine := small_size hz
  refine PySem.call_list_str (I.ok.hd hc) z t (fun h' tk acc' c' k ho hi => ?_) hz'
  have hv := signs_vals hi
  have hl : ((signsOf z).map V.str).length ≤ sizeLine := by
    rw [Paired.length hv, Array.length_toList, hi.1]
    exact hz'
  exact ⟨.ref s.heap.objs.size, upd H s.heap.objs.size (.lst ((signsOf z).map V.str)), I.laid (t' := tk) k (Nat.le_refl _) ⟨hl, acc'.toList, c', hv, ho⟩, rfl, q _ (I.hok.fresh (Nat.le_refl _))⟩
section
variable {P : Program} {w : World} {K : PySem.W.Frag} {mg : Str → Option Value} {base : Heap}
theorem scChoice : FnScope ["_law_rng_here", "_law_some"] ["_law_rng_here", "_law_some"] (defScope sChoice) := ⟨rfl, rfl, rfl, by decide +kernel, rfl, by decide +kernel, by decide +kernel⟩
theorem ok_choice {f fD : Addr} {fd fdD : FuncData} (F : Fun K "_law_choice" "_law_choice" sChoice f fd) (aD : At K mg "_law_draw" fD fdD ["_law_rng_here", "_law_many"] []) (gD : FnOk P w K mg base CX0 1 fD fdD ["_law_rng_here", "_law_many"] spDraw) (zn : mg "len" = none) :
    FnOk P w K mg base CX0 2 f fd ["_law_rng_here", "_law_some"] spChoice := by
  refine F.ok scChoice (fun vs H Q E h => ?_) (fun cdv A0 outer s H vs Q E hr h => ?_)
  · obtain ⟨a, b, xs, rfl, _⟩ := h
    rfl
  · obtain ⟨a, b, xs, rfl, hR, hb, nab, h0, hl, k⟩ := h
    refine ⟨_, pss_one (ps_ret (pe_ix ix_list (pv 1) (pe_call gD hr (by rfl) aD.g aD.kp aD.b .nil pass0 (pa_cons (pv 0) (pa_cons (pe_callB call_len_seq (by rfl) zn PySem.boot_len (pa_cons (pv 1) pa_nil)) pa_nil))) (fun _ _ => rfl))), ?_⟩
    refine ⟨_, rfl, _, rfl, _, rfl, b, xs, rfl, .inl (SqL.of hb), a, _, rfl, hR, by omega, by omega, fun d H' d0 dn r' k' => ?_⟩
    obtain ⟨j, rfl⟩ : ∃ j : Nat, d = (j : Int) := ⟨d.toNat, by omega⟩
    have hj : j < xs.length := by omega
    exact ⟨b, xs, _, xs[j], rfl, rfl, SqL.of (k' _ _ hb nab), atI_nat (List.getElem?_eq_getElem hj), k j _ H' (List.getElem?_eq_getElem hj) r' k'⟩
theorem scLetters : FnScope ["_law_rng_here", "_law_many", "_law_left", "_law_k"] ["_law_rng_here", "_law_many"] (defScope sLetters) := ⟨rfl, rfl, rfl, by decide +kernel, rfl, by decide +kernel, by decide +kernel⟩
theorem ok_letters {f fD : Addr} {fd fdD : FuncData} (F : Fun K "_law_letters" "_law_letters" sLetters f fd) (aD : At K mg "_law_draw" fD fdD ["_law_rng_here", "_law_many"] []) (gD : FnOk P w K mg base CX0 1 fD fdD ["_law_rng_here", "_law_many"] spDraw) (zn : mg "len" = none) (zl : mg "list" = none) (zr : mg "range" = none) :
    FnOk P w K mg base CX0 2 f fd ["_law_rng_here", "_law_many"] spLetters := by
  refine F.ok scLetters (fun vs H Q E h => ?_) (fun cdv A0 outer s H vs Q E hr h => ?_)
  · obtain ⟨a, n, rfl, _⟩ := h
    rfl
  · obtain ⟨a, n, rfl, hR, hn, k⟩ := h
    refine ⟨_, pss_cons (ps_set (i := 2) scLetters.nd rfl (.inr rfl) (pe_callTy (cr_listStr rfl) (by rfl) zl (by decide +kernel) (pa_cons pe_str pa_nil)))
      (pss_one (ps_ret (pe_lc (own := [("_law_k", 3)]) (g := gName 3) (tt := tYes) (te := tBM K "list" rPopAt (tVar 2) (tCons (tCall spDraw [] (fun _ _ _ => False) (tCons (tVar 0) (tCons (tCB (rLen K) (tCons (tVar 2) tNil)) tNil))) tNil)) rfl scLetters.nd (pi_range1 rfl zr (pa_cons (pv 1) pa_nil)) (blkOk_by (N := ["_law_rng_here", "_law_many", "_law_left", "_law_k"]) (sc := defScope sLetters) (by decide +kernel))
          (fun _ _ _ _ _ => pg_name (i := 3) scLetters.nd rfl (Or.inl rfl)) (fun _ _ _ _ _ => pts_nil)
          (fun _ _ _ _ _ => by exact pe_bm PySem.F.plainAttrs_list PySem.F.slot_list_pop PySem.F.type_list_pop mt_popAt (pv 2) (pa_cons (pe_call gD hr (by rfl) aD.g aD.kp aD.b .nil pass0 (pa_cons (pv 0) (pa_cons (pe_callB call_len_seq (by rfl) zn PySem.boot_len (pa_cons (pv 2) pa_nil)) pa_nil))) pa_nil))))), ?_⟩
    have e26 : abcL.length = 26 := by decide +kernel
    have nd26 : abcL.Nodup := by decide +kernel
    refine ⟨abc, rfl, by decide, fun Lf nLf => ?_⟩
    have aLf : Lf ≠ a := fun e => by
      obtain ⟨o, h⟩ := hR.there
      rw [e, h] at nLf
      cases nLf
    refine ⟨_, rfl, n, rfl, by omega, by omega, fun D nD => ?_⟩
    have nLD : Lf ≠ D := ne_of_none upd_same nD
    have nD0 : H D = none := (Ext.new nLf).free nD
    have aD' : D ≠ a := fun e => by
      obtain ⟨o, h⟩ := hR.there
      rw [e, h] at nD0
      cases nD0
    refine lc_range (n := n) (fun i H' => ∃ left picked : List Str, H' Lf = some (.lst (left.map V.str)) ∧ H' D = some (.lst (picked.map V.str)) ∧ (picked ++ left).Perm abcL ∧ picked.length = i ∧ Rng H' a ∧ Keep a H H') ⟨abcL, [], by rw [upd_ne nLD]; exact upd_same, upd_same, List.Perm.refl _, rfl, hR.ext ((Ext.new nLf).trans (Ext.new nD)), Keep.of ((Ext.new nLf).trans (Ext.new nD))⟩ ?_ ?_
    · rintro i H1 hi ⟨left, picked, l1, l2, pm, lp, r1, k1⟩
      have ll : picked.length + left.length = 26 := by rw [← List.length_append, pm.length_eq, e26]
      refine ⟨rfl, _, rfl, .inl ⟨rfl, _, SqL.of l1⟩, _, rfl, _, rfl, Lf, _, rfl, .inl (SqL.of l1), a, _, rfl, r1, by rw [List.length_map]; omega, by rw [List.length_map]; omega, fun d H2 d0 dn r2 k2 => ?_⟩
      rw [List.length_map] at dn
      obtain ⟨j, rfl⟩ : ∃ j : Nat, d = (j : Int) := ⟨d.toNat, by omega⟩
      have hj : j < left.length := by omega
      have l1' := k2 _ _ l1 aLf
      refine ⟨Lf, _, _, j, .str left[j], rfl, rfl, l1', by omega, by omega, (ixN_seq (ix_nat (by rw [List.length_map]; exact hj))).1, by rw [List.getElem?_map, List.getElem?_eq_getElem hj]; rfl, ?_⟩
      have l2' : (upd H2 Lf (.lst ((left.map V.str).eraseIdx j))) D = some (.lst (picked.map V.str)) := by
        rw [upd_ne nLD.symm]
        exact k2 _ _ l2 aD'
      refine ⟨_, l2', by rw [List.length_map]; exact small_list (by omega), left.eraseIdx j, picked ++ [left[j]], ?_, ?_, ?_, ?_, ?_, ?_⟩
      · rw [upd_ne nLD, upd_same, erase_map]
      · rw [upd_same, List.map_append]
        rfl
      · refine List.Perm.trans ?_ pm
        rw [List.append_assoc]
        exact List.Perm.append_left _ (pick_perm left j hj)
      · rw [List.length_append, lp]
        rfl
      · obtain ⟨x, y, h, q⟩ := r2.ex
        exact ⟨x, y, by rw [upd_ne aD'.symm, upd_ne aLf.symm]; exact h, q⟩
      · intro b o e nb
        rw [upd_ne (ne_of_none e nD0), upd_ne (ne_of_none e nLf)]
        exact k2 _ _ (k1 b o e nb) nb
    · rintro H' ⟨left, picked, l1, l2, pm, lp, r1, k1⟩
      have ndp := (List.nodup_append.mp (pm.nodup_iff.mpr nd26)).1
      exact k H' D picked r1 k1 nD0 l2 lp ndp fun z hz => pm.mem_iff.mp (List.mem_append_left _ hz)
end
end Sl
/-! ## P16 -/
set_option Elab.async false
set_option linter.all false
set_option maxRecDepth 100000
set_option maxHeartbeats 4000000
namespace Sl
open PySem PySem.Spec PyProof.Rows L2 TxS
/-- marks that differ -/
def spMarks : Sp := fun vs H Q _ => ∃ (a : Addr) (n : Nat), vs = [.ref a, .int n] ∧ Rng H a ∧ n ≤ 6 ∧
  ∀ (H' : Hp) (L : Addr) (zs : List Str), Rng H' a → Keep a H H' → H L = none → H' L = some (.lst (zs.map V.str)) → zs.length = n → zs.Nodup → (∀ z ∈ zs, markS z = true ∧ z.length ≤ 8) → Q (.ref L) H'
theorem abc_at {j : Nat} (h : j < 26) : ∃ c, abc.cps.toList[j]? = some c ∧ lowC c = true := by
  have k : ∀ j : Fin 26, ∃ c, abc.cps.toList[j.val]? = some c ∧ lowC c = true := by
    intro j
    have q : (abc.cps.toList[j.val]?).all (fun c => lowC c) = true ∧ (abc.cps.toList[j.val]?).isSome = true := by
      revert j
      decide +kernel
    obtain ⟨q1, q2⟩ := q
    obtain ⟨c, hc⟩ := Option.isSome_iff_exists.mp q2
    rw [hc] at q1
    exact ⟨c, hc, q1⟩
  exact k ⟨j, h⟩
theorem word_of_all {z : Str} (h : ∀ c ∈ z.cps.toList, lowC c = true) : isWordS z = true := by
  unfold isWordS
  rw [List.all_eq_true]
  exact h
open TL in
/-- letters joined -/
theorem join_word : ∀ {ys : List Str}, (∀ y ∈ ys, ∃ c, y = ⟨#[c]⟩ ∧ lowC c = true) → isWordS (Txt.join "" ys) = true ∧ (Txt.join "" ys).length = ys.length := fun {ys} h => by
  refine ⟨?_, join_len fun y hy => by obtain ⟨c, rfl, _⟩ := h y hy; rfl⟩
  have e : ∀ l : List (List Nat), (joinL [] l) = l.flatten := by
    intro l
    induction l with
    | nil => rfl
    | cons x l ih =>
      cases l with
      | nil =>
        show x = (x :: []).flatten
        simp
      | cons y r =>
        show x ++ ([] ++ joinL [] (y :: r)) = _
        rw [List.nil_append, ih]
        rfl
  have k : tl (Str.join ("" : Str) ys) = joinL (tl ("" : Str)) (ys.map tl) := tl_join "" ys
  have z : tl ("" : Str) = [] := rfl
  rw [join_eq]
  refine word_of_all fun c hc => ?_
  have hc : c ∈ tl (Str.join ("" : Str) ys) := hc
  rw [k, z, e] at hc
  obtain ⟨l, hl, hcl⟩ := List.mem_flatten.mp hc
  obtain ⟨y, hy, rfl⟩ := List.mem_map.mp hl
  obtain ⟨c', rfl, hl'⟩ := h y hy
  have : c = c' := List.mem_singleton.mp hcl
  rw [this]
  exact hl'
def spare : List Str := abcL.map fun z => ("m" : Str) ++ z
theorem spare_ok : spare.length = 26 ∧ spare.Nodup ∧ ∀ z ∈ spare, markS z = true ∧ z.length ≤ 8 := by
  refine ⟨by decide +kernel, by decide +kernel, ?_⟩
  have h : (spare.all fun z => markS z && decide (z.length ≤ 8)) = true := by decide +kernel
  intro z hz
  have q := List.all_eq_true.mp h z hz
  rw [Bool.and_eq_true, decide_eq_true_eq] at q
  exact q
theorem mark_of {z : Str} (h : isWordS z = true) (h2 : 2 ≤ z.length) (h8 : z.length ≤ 8) : markS z = true := by
  unfold markS nameS
  rw [h, decide_eq_true (by omega : 1 ≤ z.length), decide_eq_true h8, decide_eq_true (by omega : 1 < z.length)]
  rfl
theorem inV_strs {z : Str} : ∀ {l : List Str}, inV (.str z) (l.map V.str) = decide (z ∈ l)
  | [] => rfl
  | y :: l => by
    have ih := inV_strs (z := z) (l := l)
    unfold inV at ih ⊢
    rw [List.map_cons, List.any_cons, ih]
    have e : eqV (.str y) (.str z) = decide (z = y) := by
      show (y == z) = _
      by_cases c : y = z
      · rw [c]
        simp
      · rw [decide_eq_false (fun k => c k.symm)]
        exact beq_eq_false_iff_ne.mpr c
    rw [e]
    by_cases c : z = y
    · subst c
      simp
    · rw [decide_eq_false c, Bool.false_or]
      exact decide_eq_decide.mpr ⟨fun h => List.mem_cons_of_mem _ h, fun h => (List.mem_cons.mp h).resolve_left c⟩
theorem flat_strs : ∀ (l : List Str), (l.map V.str).all flatV = true
  | [] => rfl
  | _ :: l => flat_strs l
section
variable {P : Program} {w : World} {K : PySem.W.Frag} {mg : Str → Option Value} {base : Heap}
theorem scMarks : FnScope ["_law_rng_here", "_law_many", "_law_found", "_law_k", "_law_size", "_law_mark", "_law_spare", "_law_turn", "_law_letter", "_law_one"] ["_law_rng_here", "_law_many"] (defScope sMarks) := ⟨rfl, rfl, rfl, by decide +kernel, rfl, by decide +kernel, by decide +kernel⟩
theorem ok_marks {f fD : Addr} {fd fdD : FuncData} (F : Fun K "_law_marks" "_law_marks" sMarks f fd) (aD : At K mg "_law_draw" fD fdD ["_law_rng_here", "_law_many"] []) (gD : FnOk P w K mg base CX0 1 fD fdD ["_law_rng_here", "_law_many"] spDraw) (zr : mg "range" = none) :
    FnOk P w K mg base CX0 2 f fd ["_law_rng_here", "_law_many"] spMarks := by
  refine F.ok scMarks (fun vs H Q E h => ?_) (fun cdv A0 outer s H vs Q E hr h => ?_)
  · obtain ⟨a, n, rfl, _⟩ := h
    rfl
  · obtain ⟨a, n, rfl, hR, hn, k⟩ := h
    refine ⟨_, pss_cons (ps_set (i := 2) scMarks.nd rfl (.inr rfl) (pe_lst pa_nil))
      (pss_cons (ps_for PassesOwn.never rfl (pi_range1 rfl zr (pa_cons (pv 1) pa_nil)) (pg_name (i := 3) scMarks.nd rfl (.inl rfl))
        (pss_cons (ps_set (i := 4) scMarks.nd rfl (.inl rfl) (pe_op op_add pe_int (pe_ix ix_list (pe_lst (pa_cons pe_int (pa_cons pe_int (pa_cons pe_int (pa_cons pe_int pa_nil))))) (pe_call gD hr (by rfl) aD.g aD.kp aD.b .nil pass0 (pa_cons (pv 0) (pa_cons pe_int pa_nil))) (fun _ _ => rfl))))
        (pss_cons (ps_set (i := 5) scMarks.nd rfl (.inl rfl) (pe_join pe_str (pe_lc (own := [("_law_turn", 7)]) (g := gName 7) (tt := tYes) (te := tOp rIxS (tC (.str abc)) (tCall spDraw [] (fun _ _ _ => False) (tCons (tVar 0) (tCons (tC (.int 26)) tNil)))) rfl scMarks.nd (pi_range1 rfl zr (pa_cons (pv 4) pa_nil)) (blkOk_by (N := ["_law_rng_here", "_law_many", "_law_found", "_law_k", "_law_size", "_law_mark", "_law_spare", "_law_turn", "_law_letter", "_law_one"]) (sc := defScope sMarks) (by decide +kernel))
            (fun _ _ _ _ _ => pg_name (i := 7) scMarks.nd rfl (Or.inl rfl)) (fun _ _ _ _ _ => pts_nil) (fun _ _ _ _ _ => pe_ix ix_str pe_str (pe_call gD hr (by rfl) aD.g aD.kp aD.b .nil pass0 (pa_cons (pv 0) (pa_cons pe_int pa_nil))) (fun _ _ => rfl)))))
        (pss_cons (ps_setLc (i := 6) (own := [("_law_letter", 8)]) (g := gName 8) (tt := tYes) (te := tOp (fun x y H Q => ∃ i j, x = .str i ∧ y = .str j ∧ i.length + j.length ≤ sizeLine ∧ Q (.str (i ++ j)) H) (tC (.str "m")) (tVar 8)) rfl scMarks.nd rfl rfl (sw_true rfl rfl rfl (by decide +kernel)) (pi_str pe_str) (blkOk_by (N := ["_law_rng_here", "_law_many", "_law_found", "_law_k", "_law_size", "_law_mark", "_law_spare", "_law_turn", "_law_letter", "_law_one"]) (sc := defScope sMarks) (by decide +kernel))
            (fun _ _ _ _ _ => pg_name (i := 8) scMarks.nd rfl (Or.inl rfl)) (fun _ _ _ _ _ => pts_nil) (fun _ _ _ _ _ => pe_op op_add_str pe_str (pv 8)))
        (pss_one (ps_expr (pe_bm PySem.F.plainAttrs_list PySem.F.slot_list_append PySem.F.type_list_append mt_append (pv 2) (pa_cons (pe_ix ix_list (pe_lc (own := [("_law_one", 9)]) (g := gName 9) (tt := tTest (tOp (rIn K true) (tVar 9) (tVar 2))) rfl scMarks.nd (pi_list (pe_op op_cat (pe_lst (pa_cons (pv 5) pa_nil)) (pv 6))) (blkOk_by (N := ["_law_rng_here", "_law_many", "_law_found", "_law_k", "_law_size", "_law_mark", "_law_spare", "_law_turn", "_law_letter", "_law_one"]) (sc := defScope sMarks) (by decide +kernel))
            (fun _ _ _ _ _ => pg_name (i := 9) scMarks.nd rfl (Or.inl rfl)) (fun _ _ _ _ _ => pts_one (pt_cmpR op_notIn_seq (pv 9) (pv 2) (by rfl))) (fun _ _ _ _ _ => pv 9)) pe_int (fun _ _ => rfl)) pa_nil))))))))
      (pss_one (ps_ret (pv 2)))), ?_⟩
    refine ⟨Nat.zero_le _, fun Lf nLf => ?_⟩
    have na : ∀ {H' : Hp} {p : Addr}, Rng H' a → H' p = none → p ≠ a := fun r n e => by
      obtain ⟨o, h⟩ := r.there
      rw [e, h] at n
      cases n
    have aLf := na hR nLf
    refine ⟨_, rfl, n, rfl, by omega, by omega, ?_⟩
    refine for_it (walk_range (lo := 0) (n := n)) (fun i σ H' => ∃ (found : List Str) (v3 v4 v5 v6 v7 v8 v9 : Option V), σ = [some (.ref a), some (.int n), some (.ref Lf), v3, v4, v5, v6, v7, v8, v9] ∧ H' Lf = some (.lst (found.map V.str)) ∧ found.length = i ∧ found.Nodup ∧ (∀ z ∈ found, markS z = true ∧ z.length ≤ 8) ∧ Rng H' a ∧ Keep a H H')
      ⟨[], none, none, none, none, none, none, none, rfl, upd_same, rfl, List.nodup_nil, fun z h => (nomatch h), hR.ext (Ext.new nLf), Keep.of (Ext.new nLf)⟩ (fun _ _ _ _ _ => trivial) ?_ ?_
    · rintro i x σ H1 H1' hi ⟨found, v3, v4, v5, v6, v7, v8, v9, rfl, l1, li, nd1, ok1, r1, k1⟩ ⟨rfl, rfl⟩
      -- _law_size
      refine ⟨by show 4 ≤ sizeLine; decide, fun l nl => ⟨_, rfl, a, 4, rfl, r1.ext (Ext.new nl), by decide, by decide, fun d H2 d0 dn r2 k2 => ?_⟩⟩
      obtain ⟨j, rfl⟩ : ∃ j : Nat, d = (j : Int) := ⟨d.toNat, by omega⟩
      obtain ⟨sz, hsz, hs1, hs2⟩ : ∃ sz : Nat, ([V.int 1, V.int 1, V.int 2, V.int 7])[j]? = some (V.int (sz : Nat)) ∧ 1 ≤ sz ∧ sz ≤ 7 := by
        have : j = 0 ∨ j = 1 ∨ j = 2 ∨ j = 3 := by omega
        rcases this with rfl | rfl | rfl | rfl
        · exact ⟨1, rfl, by decide, by decide⟩
        · exact ⟨1, rfl, by decide, by decide⟩
        · exact ⟨2, rfl, by decide, by decide⟩
        · exact ⟨7, rfl, by decide, by decide⟩
      have nla := na r1 nl
      refine ⟨l, _, _, .int (sz : Nat), rfl, rfl, SqL.of (k2 _ _ upd_same nla), atI_nat hsz, _, _, rfl, rfl, ?_⟩
      have l2 : H2 Lf = some (.lst (found.map V.str)) := k2 _ _ ((Ext.new nl) _ _ l1) aLf
      have k2' : Keep a H H2 := k1.trans ((Keep.of (Ext.new nl)).trans k2)
      clear k2
      -- _law_mark
      refine ⟨⟨_, rfl⟩, _, rfl, (1 + (sz : Int)), rfl, by omega, by omega, fun D nD => ?_⟩
      have nDa := na r2 nD
      refine lc_range (n := 1 + sz) (fun i H' => ∃ ys : List Str, H' D = some (.lst (ys.map V.str)) ∧ ys.length = i ∧ (∀ y ∈ ys, ∃ c, y = ⟨#[c]⟩ ∧ lowC c = true) ∧ Rng H' a ∧ Keep a H2 H') ⟨[], upd_same, rfl, fun y h => (nomatch h), r2.ext (Ext.new nD), Keep.of (Ext.new nD)⟩ ?_ ?_
      · rintro j' H3 hj' ⟨ys, d3, ly, oy, r3, k3⟩
        refine ⟨rfl, _, rfl, a, 26, rfl, r3, by decide, by decide, fun d' H4 e0 en r4 k4 => ?_⟩
        obtain ⟨m, rfl⟩ : ∃ m : Nat, d' = (m : Int) := ⟨d'.toNat, by omega⟩
        obtain ⟨c, hc, lc⟩ := abc_at (j := m) (by omega)
        refine ⟨abc, _, c, rfl, rfl, by decide, atI_nat hc, _, k4 _ _ d3 nDa, by rw [List.length_map]; exact small_list (by omega), ys ++ [⟨#[c]⟩], by rw [upd_same, List.map_append]; rfl, by rw [List.length_append, ly]; rfl, fun y hy => ?_, ?_, ?_⟩
        · rcases List.mem_append.mp hy with q | q
          · exact oy y q
          · exact ⟨c, List.mem_singleton.mp q, lc⟩
        · obtain ⟨x, y, h, q⟩ := r4.ex
          exact ⟨x, y, by rw [upd_ne nDa.symm]; exact h, q⟩
        · intro b o e nb
          rw [upd_ne (ne_of_none e nD)]
          exact k4 _ _ (k3 b o e nb) nb
      · rintro H3 ⟨ys, d3, ly, oy, r3, k3⟩
        obtain ⟨wd, wl⟩ := join_word oy
        have hj3 : (ys.map (·.length)).sum + ys.length * ("" : Str).length ≤ 16777216 := join_le (fun y hy => by obtain ⟨c, rfl, _⟩ := oy y hy; show 1 ≤ 8; decide) (by omega)
        refine ⟨_, D, ys, rfl, rfl, .inl (SqL.of d3), hj3, ?_⟩
        generalize Txt.join "" ys = mark at wd wl ⊢
        have l3 := k3 _ _ l2 aLf
        have k3' := k2'.trans k3
        -- _law_spare
        refine ⟨abc, rfl, fun D2 nD2 => ?_⟩
        have nD2a := na r3 nD2
        refine lc_it (walk_str (z := abc)) (fun i H' => H' D2 = some (.lst ((spare.take i).map V.str)) ∧ Ext H3 H') ⟨upd_same, Ext.new nD2⟩ (fun _ _ _ _ => trivial) ?_ ?_
        · rintro j' x H4 H4' hj' ⟨d4, x4⟩ ⟨rfl, c, hc, rfl⟩
          refine ⟨rfl, _, rfl, _, _, rfl, rfl, by show 1 + 1 ≤ sizeLine; decide, _, d4, ?_, ?_, fun b o e => ?_⟩
          · rw [List.length_map, List.length_take]
            exact small_list (by have := spare_ok.1; omega)
          · have e1 : spare[j']? = some (("m" : Str) ++ ⟨#[c]⟩) := by
              unfold spare abcL signsOf
              rw [List.getElem?_map, List.getElem?_map, Array.getElem?_toList, hc]
              rfl
            rw [upd_same, take_more e1, List.map_append]
            rfl
          · rw [upd_ne (ne_of_none e nD2)]
            exact x4 _ _ e
        · rintro H4 ⟨d4, x4⟩
          have e26 : spare.take abc.cps.size = spare := List.take_of_length_le (by rw [spare_ok.1]; decide)
          rw [e26] at d4
          have l4 := x4 _ _ l3
          have r4 := r3.ext x4
          -- the first that is new
          refine ⟨_, rfl, .inl ⟨rfl, _, SqL.of l4⟩, _, rfl, by show 1 ≤ sizeLine; decide, fun L1 nL1 => ?_⟩
          have d5 := (Ext.new nL1 (o := .lst [V.str mark])) _ _ d4
          refine ⟨_, rfl, _, _, _, _, rfl, rfl, upd_same, d5, by rw [List.length_map, spare_ok.1]; show 1 + 26 ≤ sizeLine; decide, fun L2' nL2 => ?_⟩
          have x5 : Ext H4 (upd (upd H4 L1 (.lst [V.str mark])) L2' (.lst ([V.str mark] ++ spare.map V.str))) := (Ext.new nL1).trans (Ext.new nL2)
          have d6 : (upd (upd H4 L1 (.lst [V.str mark])) L2' (.lst ([V.str mark] ++ spare.map V.str))) L2' = some (.lst ((mark :: spare).map V.str)) := upd_same
          generalize upd (upd H4 L1 (.lst [V.str mark])) L2' (.lst ([V.str mark] ++ spare.map V.str)) = H5 at x5 d6 ⊢
          refine ⟨L2', rfl, ⟨_, SqL.of d6⟩, fun D3 nD3 => ?_⟩
          have l5 := x5 _ _ l4
          refine lc_it (walk_list (xs := (mark :: spare).map V.str)) (fun i H' => H' D3 = some (.lst ((((mark :: spare).take i).filter fun z => !decide (z ∈ found)).map V.str)) ∧ Ext H5 H') ⟨upd_same, Ext.new nD3⟩ (fun i H' _ h => SqL.of (h.2 _ _ d6)) ?_ ?_
          · rintro j' x H6 H6' hj' ⟨d7, x7⟩ ⟨rfl, hx⟩
            obtain ⟨z, hz, rfl⟩ := at_map hx
            refine ⟨rfl, _, rfl, _, rfl, Lf, _, rfl, .inl (SqL.of (x7 _ _ l5)), rfl, flat_strs found, ?_⟩
            rw [inV_strs]
            refine ⟨_, rfl, ?_⟩
            rw [take_more hz, List.filter_append]
            have lt : (((mark :: spare).take j').filter fun z => !decide (z ∈ found)).length ≤ 27 := Nat.le_trans (List.length_filter_le _ _) (by rw [List.length_take, List.length_cons, spare_ok.1]; omega)
            by_cases c : z ∈ found
            · have e1 : List.filter (fun z => !decide (z ∈ found)) [z] = [] := by simp [c]
              rw [e1, List.append_nil, decide_eq_true c]
              exact ⟨d7, x7⟩
            · have e1 : List.filter (fun z => !decide (z ∈ found)) [z] = [z] := by simp [c]
              rw [e1, List.map_append, decide_eq_false c]
              refine ⟨_, rfl, _, d7, by rw [List.length_map]; exact small_list (by omega), upd_same, fun b o e => ?_⟩
              rw [upd_ne (ne_of_none e nD3)]
              exact x7 _ _ e
          · rintro H6 ⟨d7, x7⟩
            rw [List.length_map, List.take_length] at d7
            obtain ⟨one, rest, ef⟩ : ∃ one rest, ((mark :: spare).filter fun z => !decide (z ∈ found)) = one :: rest := by
              cases e : ((mark :: spare).filter fun z => !decide (z ∈ found)) with
              | cons one rest => exact ⟨one, rest, rfl⟩
              | nil =>
                have sub : ∀ z ∈ spare, z ∈ found := fun z hz => by
                  by_cases c : z ∈ found
                  · exact c
                  · have m : z ∈ (mark :: spare).filter fun z => !decide (z ∈ found) := List.mem_filter.mpr ⟨List.mem_cons_of_mem _ hz, by simp [c]⟩
                    rw [e] at m
                    cases m
                have := len_le spare_ok.2.1 sub
                have := spare_ok.1
                omega
            rw [ef] at d7
            have hm : one ∈ (mark :: spare).filter fun z => !decide (z ∈ found) := by rw [ef]; exact List.mem_cons_self
            obtain ⟨hm1, hm2⟩ := List.mem_filter.mp hm
            have hnew : one ∉ found := fun c => by
              rw [decide_eq_true c] at hm2
              cases hm2
            have okm : markS one = true ∧ one.length ≤ 8 := by
              rcases List.mem_cons.mp hm1 with rfl | c
              · exact ⟨mark_of wd (by omega) (by omega), by omega⟩
              · exact spare_ok.2.2 one c
            have l6 := x7 _ _ l5
            refine ⟨D3, _, 0, .str one, rfl, rfl, SqL.of d7, atI_nat (j := 0) rfl, Lf, _, _, rfl, rfl, l6, by rw [List.length_map]; exact small_list (by omega), ?_⟩
            have x8 : Ext H3 H6 := x4.trans (x5.trans x7)
            have r6 := r3.ext x8
            refine ⟨found ++ [one], _, _, _, _, _, _, _, rfl, by rw [upd_same, List.map_append]; rfl, by rw [List.length_append, li]; rfl, ?_, fun z hz => ?_, ?_, fun b o e nb => ?_⟩
            · exact List.nodup_append.mpr ⟨nd1, by simp, fun p hp q hq e => hnew (by rw [← List.mem_singleton.mp hq, ← e]; exact hp)⟩
            · rcases List.mem_append.mp hz with c | c
              · exact ok1 z c
              · rw [List.mem_singleton.mp c]
                exact okm
            · obtain ⟨x, y, h, q⟩ := r6.ex
              exact ⟨x, y, by rw [upd_ne aLf.symm]; exact h, q⟩
            · rw [upd_ne (ne_of_none e nLf)]
              exact x8 _ _ (k3' b o e nb)
    · rintro σ H1 ⟨found, v3, v4, v5, v6, v7, v8, v9, rfl, l1, li, nd1, ok1, r1, k1⟩
      exact ⟨_, rfl, k H1 Lf found r1 k1 nLf l1 li nd1 ok1⟩
end
end Sl
/-! ## P17 -/
set_option Elab.async false
set_option linter.all false
set_option maxRecDepth 100000
set_option maxHeartbeats 4000000
namespace Sl
open PySem PySem.Spec PyProof.Rows L2 TxS
abbrev sAnyFormat : Stmt := top 29
theorem RowsAt.keepN {H H' : Hp} {a : Addr} (k : Keep a H H') (n2 : ∀ xs, H a ≠ some (.tup xs)) : ∀ {ds : List Addr} {rows : List Rw}, a ∉ ds → RowsAt H ds rows → RowsAt H' ds rows
  | _, _, _, .nil => .nil
  | _, _, n1, .cons ⟨es, e, b⟩ h => .cons ⟨es, k _ _ e (fun z => n1 (by rw [← z]; exact List.mem_cons_self)), b.ext fun t xs e => k _ _ e (fun z => n2 _ (by rw [← z]; exact e))⟩ (h.keepN k n2 fun m => n1 (List.mem_cons_of_mem _ m))
theorem Rng.notup {H : Hp} {a : Addr} (r : Rng H a) : ∀ xs, H a ≠ some (.tup xs) := fun xs e => by
  obtain ⟨x, y, h, q⟩ := r.ex
  rw [h] at e
  cases e
theorem Rng.nodict {H : Hp} {a : Addr} (r : Rng H a) : ∀ kvs, H a ≠ some (.dK kvs) := fun kvs e => by
  obtain ⟨x, y, h, q⟩ := r.ex
  rw [h] at e
  cases e
theorem Rng.new {H : Hp} {a p : Addr} (r : Rng H a) (n : H p = none) : p ≠ a := fun e => by
  obtain ⟨o, h⟩ := r.there
  rw [e, h] at n
  cases n
theorem Rng.upd {H : Hp} {a p : Addr} {o : HO} (r : Rng H a) (n : p ≠ a) : Rng (upd H p o) a := by
  obtain ⟨x, y, h, q⟩ := r.ex
  exact ⟨x, y, by rw [upd_ne n.symm]; exact h, q⟩
/-- a row over these letters, its goals below n, its told names among these -/
def rowOver (paper names : List Str) (n : Int) (r : Rw) : Prop := (r.map (·.1)).Nodup ∧ ∀ e ∈ r, e.1 ∈ paper ∧ (0 ≤ e.2.1 ∧ e.2.1 < n) ∧ ∀ z, e.2.2 = some z → z ∈ names
structure okModel (cap : Nat) (paper names : List Str) (rows : List Rw) (ns : List Int) (b : Int) : Prop where
  lo : 1 ≤ rows.length
  hi : rows.length ≤ cap
  rw_ : ∀ r ∈ rows, rowOver paper names rows.length r
  nd : ns.Nodup
  len : ns.length ≤ cap
  inn : ∀ i ∈ ns, 0 ≤ i ∧ i < rows.length
  b0 : 0 ≤ b
  b1 : b < rows.length
structure ModelAt (H : Hp) (M L E : Addr) (ds : List Addr) (rows : List Rw) (ns : List Int) (b : Int) : Prop where
  h1 : H M = some (.tup [.ref L, .ref E, .int b])
  h2 : H L = some (.lst (ds.map V.ref))
  h3 : RowsAt H ds rows
  h4 : ds.Nodup
  h5 : H E = some (.lst (ns.map V.int))
theorem ModelAt.keep {H H' : Hp} {a M L E : Addr} {ds : List Addr} {rows : List Rw} {ns : List Int} {b : Int} (m : ModelAt H M L E ds rows ns b) (k : Keep a H H') (r : Rng H a) (n1 : L ≠ a) (n2 : E ≠ a) : ModelAt H' M L E ds rows ns b := by
  refine ⟨k _ _ m.h1 (fun e => r.notup _ (by rw [← e]; exact m.h1)), k _ _ m.h2 n1, m.h3.keepN k r.notup ?_, m.h4, k _ _ m.h5 n2⟩
  intro hm
  obtain ⟨kvs, e⟩ := m.h3.mem hm
  exact r.nodict _ e
/-- what a maker of models hands back -/
def spModelOut (cap : Nat) (a : Addr) (paper names : List Str) (H : Hp) (Q : VK) : Prop := ∀ (H' : Hp) (M L E : Addr) (ds : List Addr) (rows : List Rw) (ns : List Int) (b : Int), Rng H' a → Keep a H H' → H M = none → H L = none → H E = none → (∀ d ∈ ds, H d = none) →
  ModelAt H' M L E ds rows ns b → okModel cap paper names rows ns b → Q (.ref M) H'
/-- the lists of letters, told letters and marks that a maker gets -/
structure Lsts (H : Hp) (a Pa Te Ma : Addr) (paper tells marks : List Str) : Prop where
  p : H Pa = some (.lst (paper.map V.str))
  t : H Te = some (.lst (tells.map V.str))
  m : H Ma = some (.lst (marks.map V.str))
  pa : Pa ≠ a
  ta : Te ≠ a
  ma : Ma ≠ a
  nd : paper.Nodup
  lp : 3 ≤ paper.length
  lp2 : paper.length ≤ 6
  lt : 2 ≤ tells.length
  lt2 : tells.length ≤ 4
  lm : 2 ≤ marks.length
  lm2 : marks.length ≤ 6
theorem Lsts.keep {H H' : Hp} {a Pa Te Ma : Addr} {paper tells marks : List Str} (l : Lsts H a Pa Te Ma paper tells marks) (k : Keep a H H') : Lsts H' a Pa Te Ma paper tells marks :=
  ⟨k _ _ l.p l.pa, k _ _ l.t l.ta, k _ _ l.m l.ma, l.pa, l.ta, l.ma, l.nd, l.lp, l.lp2, l.lt, l.lt2, l.lm, l.lm2⟩
def spAnyFormat : Sp := fun vs H Q _ => ∃ (a Pa Te Ma : Addr) (cap : Nat) (paper tells marks : List Str), vs = [.ref a, .int cap, .ref Pa, .ref Te, .ref Ma] ∧ Rng H a ∧ 1 ≤ cap ∧ cap ≤ 12 ∧ Lsts H a Pa Te Ma paper tells marks ∧ spModelOut cap a paper (tells ++ marks) H Q
section
variable {P : Program} {w : World} {K : PySem.W.Frag} {mg : Str → Option Value} {base : Heap}
theorem scAnyFormat : FnScope ["_law_rng_here", "_law_cap", "_law_paper", "_law_tells_here", "_law_marks_here", "_law_many", "_law_rows", "_law_spot", "_law_line", "_law_letter", "_law_told", "_law_stops"] ["_law_rng_here", "_law_cap", "_law_paper", "_law_tells_here", "_law_marks_here"] (defScope sAnyFormat) := ⟨rfl, rfl, rfl, by decide +kernel, rfl, by decide +kernel, by decide +kernel⟩
theorem ok_anyformat {f fD fC : Addr} {fd fdD fdC : FuncData} (F : Fun K "_law_any_format" "_law_any_format" sAnyFormat f fd) (aD : At K mg "_law_draw" fD fdD ["_law_rng_here", "_law_many"] []) (gD : FnOk P w K mg base CX0 1 fD fdD ["_law_rng_here", "_law_many"] spDraw)
    (aC : At K mg "_law_choice" fC fdC ["_law_rng_here", "_law_some"] []) (gC : FnOk P w K mg base CX0 2 fC fdC ["_law_rng_here", "_law_some"] spChoice) (zr : mg "range" = none) :
    FnOk P w K mg base CX0 3 f fd ["_law_rng_here", "_law_cap", "_law_paper", "_law_tells_here", "_law_marks_here"] spAnyFormat := by
  refine F.ok scAnyFormat (fun vs H Q E h => ?_) (fun cdv A0 outer s H vs Q E hr h => ?_)
  · obtain ⟨a, Pa, Te, Ma, cap, paper, tells, marks, rfl, _⟩ := h
    rfl
  · obtain ⟨a, Pa, Te, Ma, cap, paper, tells, marks, rfl, hR, c1, c12, hl, k⟩ := h
    have hr1 : Room 1 _ := hr.mono (by decide)
    refine ⟨_, pss_cons (ps_set (i := 5) scAnyFormat.nd rfl (.inl rfl) (pe_op op_add pe_int (pe_call gD hr1 (by rfl) aD.g aD.kp aD.b .nil pass0 (pa_cons (pv 0) (pa_cons (pv 1) pa_nil)))))
      (pss_cons (ps_set (i := 6) scAnyFormat.nd rfl (.inl rfl) (pe_lst pa_nil))
      (pss_cons (ps_for PassesOwn.never rfl (pi_range1 rfl zr (pa_cons (pv 5) pa_nil)) (pg_name (i := 7) scAnyFormat.nd rfl (.inl rfl))
        (pss_cons (ps_set (i := 8) scAnyFormat.nd rfl (.inl rfl) pe_dnewK)
        (pss_cons (ps_for PassesOwn.never rfl (pi_list (pv 2)) (pg_name (i := 9) scAnyFormat.nd rfl (.inl rfl))
          (pss_one (ps_if (pt_cmpR op_gt (pe_call gD hr1 (by rfl) aD.g aD.kp aD.b .nil pass0 (pa_cons (pv 0) (pa_cons pe_int pa_nil))) pe_int (nomark _))
            (pss_cons (ps_set (i := 10) scAnyFormat.nd rfl (.inl rfl) (pe_call gC hr (by rfl) aC.g aC.kp aC.b .nil pass0 (pa_cons (pv 0) (pa_cons (pe_op op_cat (pe_op op_cat (pe_lst (pa_cons pe_non pa_nil)) (pe_op op_rep (pv 3) pe_int)) (pv 4)) pa_nil))))
            (pss_one (ps_dput (hu_of hr) (pv 8) (pv 9) (pe_tup (pa_cons (pe_call gD hr1 (by rfl) aD.g aD.kp aD.b .nil pass0 (pa_cons (pv 0) (pa_cons (pv 5) pa_nil))) (pa_cons (pv 10) pa_nil))) rfl))) pss_nil)))
        (pss_one (ps_expr (pe_bm PySem.F.plainAttrs_list PySem.F.slot_list_append PySem.F.type_list_append mt_append (pv 6) (pa_cons (pv 8) pa_nil)))))))
      (pss_cons (ps_setLc (i := 11) (own := [("_law_spot", 7)]) (g := gName 7) (tt := tTest (tOp rEq (tCall spDraw [] (fun _ _ _ => False) (tCons (tVar 0) (tCons (tC (.int 2)) tNil))) (tC (.int 0)))) (te := tVar 7) rfl scAnyFormat.nd rfl rfl (sw_true rfl rfl rfl (by decide +kernel)) (pi_range1 rfl zr (pa_cons (pv 5) pa_nil)) (blkOk_by (N := ["_law_rng_here", "_law_cap", "_law_paper", "_law_tells_here", "_law_marks_here", "_law_many", "_law_rows", "_law_spot", "_law_line", "_law_letter", "_law_told", "_law_stops"]) (sc := defScope sAnyFormat) (by decide +kernel))
            (fun _ _ _ _ _ => pg_name (i := 7) scAnyFormat.nd rfl (Or.inl rfl)) (fun _ _ _ _ _ => pts_one (pt_cmpR op_eq (pe_call gD hr1 (by rfl) aD.g aD.kp aD.b .nil pass0 (pa_cons (pv 0) (pa_cons pe_int pa_nil))) pe_int (nomark _))) (fun _ _ _ _ _ => pv 7))
      (pss_one (ps_ret (pe_tup (pa_cons (pv 6) (pa_cons (pv 11) (pa_cons (pe_call gD hr1 (by rfl) aD.g aD.kp aD.b .nil pass0 (pa_cons (pv 0) (pa_cons (pv 5) pa_nil))) pa_nil))))))))), ?_⟩
    -- _law_many
    refine ⟨_, rfl, _, rfl, a, cap, rfl, hR, by omega, by omega, fun d0 H1 e0 e1 r1 k1 => ⟨_, _, rfl, rfl, ?_⟩⟩
    obtain ⟨m0, rfl⟩ : ∃ m0 : Nat, d0 = (m0 : Int) := ⟨d0.toNat, by omega⟩
    have n1 : 1 ≤ 1 + m0 := by omega
    have n2 : 1 + m0 ≤ cap := by omega
    show gName 5 (V.int ((1 + m0 : Nat) : Int)) _ H1 _
    generalize 1 + m0 = n at n1 n2 ⊢
    -- _law_rows
    refine ⟨Nat.zero_le _, fun L nL => ?_⟩
    have nLa := r1.new nL
    have nL0 : H L = none := k1.free r1.there.choose_spec nL
    refine ⟨_, rfl, n, rfl, by omega, by omega, ?_⟩
    refine for_it (walk_range (lo := 0) (n := n)) (fun i σ H' => ∃ (ds : List Addr) (rows : List Rw) (v7 v8 v9 v10 : Option V), σ = [some (.ref a), some (.int cap), some (.ref Pa), some (.ref Te), some (.ref Ma), some (.int n), some (.ref L), v7, v8, v9, v10, none] ∧
        H' L = some (.lst (ds.map V.ref)) ∧ RowsAt H' ds rows ∧ ds.Nodup ∧ (∀ d ∈ ds, H d = none) ∧ rows.length = i ∧ (∀ r ∈ rows, rowOver paper (tells ++ marks) n r) ∧ Rng H' a ∧ Keep a H H')
      ⟨[], [], none, none, none, none, rfl, upd_same, .nil, List.nodup_nil, fun d h => (nomatch h), rfl, fun r h => (nomatch h), r1.upd nLa, k1.trans (Keep.of (Ext.new nL))⟩ (fun _ _ _ _ _ => trivial) ?_ ?_
    · rintro i x σ H2' H2 hi ⟨ds, rows, v7, v8, v9, v10, rfl, l2, w2, nd2, f2, li, ok2, r2, k2⟩ ⟨rfl, rfl⟩
      -- _law_line
      intro D nD
      have nDa := r2.new nD
      have nD0 : H D = none := k2.free r2.there.choose_spec nD
      have nDL : D ≠ L := fun e => by rw [e, l2] at nD; cases nD
      have lsD := hl.keep (k2.trans (Keep.of (Ext.new nD (o := .dK []))))
      refine ⟨_, rfl, Pa, rfl, ⟨_, SqL.of lsD.p⟩, ?_⟩
      refine for_it (walk_list (xs := paper.map V.str)) (fun j σ H' => ∃ (es : List (Str × Addr)) (r : Rw) (v9 v10 : Option V), σ = [some (.ref a), some (.int cap), some (.ref Pa), some (.ref Te), some (.ref Ma), some (.int n), some (.ref L), some (.int (0 + (i : Nat))), some (.ref D), v9, v10, none] ∧
          H' D = some (.dK (kvsOf es)) ∧ Ents H' es r ∧ (∀ z ∈ r.map (·.1), z ∈ paper.take j) ∧ rowOver paper (tells ++ marks) n r ∧ r.length ≤ j ∧ Rng H' a ∧ Keep a H2 H')
        ⟨[], [], v9, v10, rfl, upd_same, .nil, fun z h => (nomatch h), ⟨List.nodup_nil, fun e h => (nomatch h)⟩, Nat.le_refl _, r2.upd nDa, Keep.of (Ext.new nD)⟩ (fun j σ H' _ ⟨_, _, _, _, _, _, _, _, _, _, _, kk⟩ => SqL.of ((hl.keep (k2.trans kk)).p)) ?_ ?_
      · rintro j x σ H3' H3 hj ⟨es, r, v9, v10, rfl, d3, e3, s3, ok3, lr3, r3, k3⟩ ⟨rfl, hx⟩
        obtain ⟨z, hz, rfl⟩ := at_map hx
        have hjl : j < paper.length := (List.getElem?_eq_some_iff.mp hz).1
        have lp2 := hl.lp2
        refine ⟨_, rfl, a, 4, rfl, r3, by decide, by decide, fun d4 H4 _ _ r4 k4 => ⟨_, _, rfl, rfl, _, rfl, ?_⟩⟩
        have d4' := k4 _ _ d3 nDa
        have e4 : Ents H4 es r := e3.ext fun t xs e => k4 _ _ e (fun q => r3.notup _ (by rw [← q]; exact e))
        have kk4 := k3.trans k4
        have more : ∀ y ∈ r.map (·.1), y ∈ paper.take (j + 1) := fun y hy => by
          rw [take_more hz]
          exact List.mem_append_left _ (s3 y hy)
        refine ite2 (fun _ => ?_) (fun _ => ?_)
        · -- a move by this letter
          have ls4 := hl.keep (k2.trans kk4)
          have lt2 := hl.lt2
          have lm2 := hl.lm2
          refine ⟨_, rfl, by show 1 ≤ sizeLine; decide, fun p1 np1 => ⟨_, rfl, Te, 2, _, rfl, rfl, (Ext.new np1) _ _ ls4.t, by decide, by decide, ?_, fun p2 np2 => ?_⟩⟩
          · rw [List.length_map]
            exact small_size (by show tells.length * 2 ≤ 10000; omega)
          have b1 := (Ext.new np2 (o := .lst (List.replicate (2 : Int).toNat (tells.map V.str)).flatten)) _ _ (upd_same (H := H4) (a := p1) (o := .lst [V.non]))
          refine ⟨p1, p2, _, _, rfl, rfl, b1, upd_same, ?_, fun p3 np3 => ?_⟩
          · rw [List.length_flatten]
            refine small_size ?_
            show 1 + (List.map List.length [tells.map V.str, tells.map V.str]).sum ≤ 10000
            simp only [List.map_cons, List.map_nil, List.sum_cons, List.sum_nil, List.length_map]
            omega
          have x5 : Ext H4 (upd (upd (upd H4 p1 (.lst [V.non])) p2 (.lst (List.replicate (2 : Int).toNat (tells.map V.str)).flatten)) p3 (.lst ([V.non] ++ (List.replicate (2 : Int).toNat (tells.map V.str)).flatten))) := ((Ext.new np1).trans (Ext.new np2)).trans (Ext.new np3)
          refine ⟨_, rfl, p3, Ma, _, _, rfl, rfl, upd_same, x5 _ _ ls4.m, ?_, fun p4 np4 => ?_⟩
          · rw [List.length_map, List.length_append, List.length_flatten]
            refine small_size ?_
            show 1 + (List.map List.length [tells.map V.str, tells.map V.str]).sum + marks.length ≤ 10000
            simp only [List.map_cons, List.map_nil, List.sum_cons, List.sum_nil, List.length_map]
            omega
          have x6 := x5.trans (Ext.new np4 (o := .lst ([V.non] ++ (List.replicate (2 : Int).toNat (tells.map V.str)).flatten ++ marks.map V.str)))
          have c6 : (upd (upd (upd (upd H4 p1 (.lst [V.non])) p2 (.lst (List.replicate (2 : Int).toNat (tells.map V.str)).flatten)) p3 (.lst ([V.non] ++ (List.replicate (2 : Int).toNat (tells.map V.str)).flatten))) p4 (.lst ([V.non] ++ (List.replicate (2 : Int).toNat (tells.map V.str)).flatten ++ marks.map V.str))) p4 = some (.lst ([V.non] ++ (List.replicate (2 : Int).toNat (tells.map V.str)).flatten ++ marks.map V.str)) := upd_same
          generalize upd (upd (upd (upd H4 p1 (.lst [V.non])) p2 (.lst (List.replicate (2 : Int).toNat (tells.map V.str)).flatten)) p3 (.lst ([V.non] ++ (List.replicate (2 : Int).toNat (tells.map V.str)).flatten))) p4 (.lst ([V.non] ++ (List.replicate (2 : Int).toNat (tells.map V.str)).flatten ++ marks.map V.str)) = H6 at x6 c6 ⊢
          have r6 := r4.ext x6
          have el : ([V.non] ++ (List.replicate (2 : Int).toNat (tells.map V.str)).flatten ++ marks.map V.str) = V.non :: ((tells ++ (tells ++ marks)).map V.str) := by
            show [V.non] ++ (tells.map V.str ++ (tells.map V.str ++ [])) ++ marks.map V.str = _
            rw [List.append_nil, List.map_append, List.map_append, List.append_assoc, List.append_assoc]
            rfl
          rw [el] at c6
          refine ⟨a, p4, _, rfl, r6, c6, r6.lst c6 (fun x y e => by injection e with e1 e2; cases e1), Nat.succ_pos _, ?_, fun t told H7 ht r7 k7 => ?_⟩
          · rw [List.length_cons, List.length_map, List.length_append, List.length_append]
            omega
          obtain ⟨o, rfl, ho⟩ : ∃ o : Option Str, told = toldV o ∧ ∀ y, o = some y → y ∈ tells ++ marks := by
            cases t with
            | zero =>
              cases ht
              exact ⟨none, rfl, fun y e => by cases e⟩
            | succ t =>
              obtain ⟨y, hy, rfl⟩ := at_map (show ((tells ++ (tells ++ marks)).map V.str)[t]? = some told from ht)
              refine ⟨some y, rfl, fun y' e => ?_⟩
              cases e
              rcases List.mem_append.mp (List.mem_of_getElem? hy) with q | q
              · exact List.mem_append_left _ q
              · exact q
          -- _law_line[_law_letter] = ..
          have kk7 : Keep a H4 H7 := (Keep.of x6).trans k7
          refine ⟨_, rfl, _, rfl, a, n, rfl, r7, by omega, by omega, fun g H8 g0 g1 r8 k8 => ⟨_, rfl, by show 2 ≤ sizeLine; decide, fun T nT => ?_⟩⟩
          have kk8 : Keep a H4 (upd H8 T (.tup [.int g, toldV o])) := (kk7.trans k8).trans (Keep.of (Ext.new nT))
          have d8 := kk8 _ _ d4' nDa
          have e8 : Ents (upd H8 T (.tup [.int g, toldV o])) es r := e4.ext fun t xs e => kk8 _ _ e (fun q => r4.notup _ (by rw [← q]; exact e))
          have hT : (upd H8 T (.tup [.int g, toldV o])) T = some (.tup [.int g, toldV o]) := upd_same
          have r8' := r8.upd (o := .tup [.int g, toldV o]) (r8.new nT)
          generalize upd H8 T (.tup [.int g, toldV o]) = H9 at kk8 d8 e8 hT r8' ⊢
          have znew : z ∉ es.map (·.1) := by
            rw [e8.keys]
            intro c
            have c := s3 z c
            obtain ⟨q, hq, e⟩ := List.mem_iff_getElem.mp c
            rw [List.length_take] at hq
            rw [List.getElem_take] at e
            have e2 : paper[j]'hjl = z := (List.getElem?_eq_some_iff.mp hz).2
            have := (List.getElem_inj hl.nd).mp (e.trans e2.symm)
            omega
          have les : es.length ≤ j := by rw [e8.len]; exact lr3
          refine ⟨_, rfl, _, rfl, D, _, rfl, DPut.k (k := Sum.inr z) d8 (by unfold kvsOf; rw [List.length_map]; exact small_list (by omega)), ?_⟩
          rw [putK_new _ (val_no znew)]
          have nTD : T ≠ D := ne_of hT d8 (by intro q; cases q)
          refine ⟨es ++ [(z, T)], r ++ [(z, (g, o))], _, _, rfl, ?_, (e8.ext fun t xs e => ?_).snoc ?_, fun y hy => ?_, ⟨?_, fun e he => ?_⟩, ?_, r8'.upd nDa, fun b o' e nb => ?_⟩
          · rw [upd_same]
            unfold kvsOf
            rw [List.map_append]
            rfl
          · rw [upd_ne (ne_of e d8 (by intro q; cases q))]
            exact e
          · show upd _ D _ T = _
            rw [upd_ne nTD]
            exact hT
          · rw [List.map_append] at hy
            rcases List.mem_append.mp hy with q | q
            · exact more y q
            · have q := List.mem_singleton.mp q
              rw [take_more hz, q]
              exact List.mem_append_right _ List.mem_cons_self
          · rw [List.map_append]
            refine List.nodup_append.mpr ⟨ok3.1, by simp, fun p hp q hq e => znew ?_⟩
            have e0 : q = z := List.mem_singleton.mp hq
            rw [e8.keys, ← e0, ← e]
            exact hp
          · rcases List.mem_append.mp he with q | q
            · exact ok3.2 e q
            · rw [List.mem_singleton.mp q]
              exact ⟨List.mem_of_getElem? hz, ⟨g0, g1⟩, ho⟩
          · rw [List.length_append]
            show r.length + 1 ≤ j + 1
            omega
          · rw [upd_ne (ne_of_none e nD)]
            exact kk8 _ _ (kk4 b o' e nb) nb
        · exact ⟨es, r, _, _, rfl, d4', e4, more, ok3, by omega, r4, kk4⟩
      · rintro σ H3 ⟨es, r, v9', v10', rfl, d3, e3, s3, ok3, lr3, r3, k3⟩
        have l3 := k3 _ _ l2 nLa
        have lds : ds.length = i := by rw [w2.len, li]
        refine ⟨_, rfl, .inl ⟨rfl, _, SqL.of l3⟩, _, rfl, L, _, _, rfl, rfl, l3, by rw [List.length_map]; exact small_list (by omega), ?_⟩
        have w3 : RowsAt H3 ds rows := w2.keepN k3 r2.notup fun hm => by
          obtain ⟨kvs, e⟩ := w2.mem hm
          exact r2.nodict _ e
        refine ⟨ds ++ [D], rows ++ [r], _, _, _, _, rfl, ?_, RowsAt.snoc ?_ (w3.keepN Keep.at_ (fun xs e => by rw [l3] at e; cases e) fun hm => ?_), ?_, fun d hd => ?_, by rw [List.length_append, li]; rfl, fun r' hr' => ?_, r3.upd nLa, fun b o e nb => ?_⟩
        · rw [upd_same, List.map_append]
          rfl
        · refine RowAt.same ⟨es, d3, e3⟩ (upd_ne nDL) fun t xs e => ?_
          rw [upd_ne (ne_of e l3 (by intro q; cases q))]
          exact e
        · obtain ⟨kvs, e⟩ := w3.mem hm
          rw [l3] at e
          cases e
        · refine List.nodup_append.mpr ⟨nd2, by simp, fun p hp q hq e => ?_⟩
          obtain ⟨kvs, e'⟩ := w2.mem hp
          rw [e, List.mem_singleton.mp hq, nD] at e'
          cases e'
        · rcases List.mem_append.mp hd with q | q
          · exact f2 d q
          · rw [List.mem_singleton.mp q]
            exact nD0
        · rcases List.mem_append.mp hr' with q | q
          · exact ok2 r' q
          · rw [List.mem_singleton.mp q]
            exact ok3
        · rw [upd_ne (ne_of_none e nL0)]
          exact k3 _ _ (k2 b o e nb) nb
    rintro σ H2 ⟨ds, rows, v7, v8, v9, v10, rfl, l2, w2, nd2, f2, li, ok2, r2, k2⟩
    -- _law_stops
    refine ⟨_, rfl, n, rfl, by omega, by omega, fun En nE => ?_⟩
    have nEa := r2.new nE
    have nE0 : H En = none := k2.free r2.there.choose_spec nE
    refine lc_range (n := n) (fun i H' => ∃ ns : List Int, H' En = some (.lst (ns.map V.int)) ∧ ns.Nodup ∧ ns.length ≤ i ∧ (∀ q ∈ ns, 0 ≤ q ∧ q < i) ∧ Rng H' a ∧ Keep a H2 H') ⟨[], upd_same, List.nodup_nil, Nat.le_refl _, fun q h => (nomatch h), r2.upd nEa, Keep.of (Ext.new nE)⟩ ?_ ?_
    · rintro i H3 hi ⟨ns, d3, nd3, l3, in3, r3, k3⟩
      refine ⟨rfl, _, rfl, a, 2, rfl, r3, by decide, by decide, fun d4 H4 _ _ r4 k4 => ⟨rfl, _, rfl, ?_⟩⟩
      have d4' := k4 _ _ d3 nEa
      have kk4 := k3.trans k4
      refine ite2 (fun _ => ?_) (fun _ => ?_)
      · refine ⟨_, rfl, _, d4', by rw [List.length_map]; exact small_list (by omega), ns ++ [(0 + (i : Nat) : Int)], by rw [upd_same, List.map_append]; rfl, ?_, by rw [List.length_append]; show ns.length + 1 ≤ i + 1; omega, fun q hq => ?_, r4.upd nEa, fun b o e nb => ?_⟩
        · refine List.nodup_append.mpr ⟨nd3, by simp, fun p hp q hq e => ?_⟩
          have := in3 p hp
          rw [e, List.mem_singleton.mp hq] at this
          omega
        · rcases List.mem_append.mp hq with c | c
          · have := in3 q c
            omega
          · rw [List.mem_singleton.mp c]
            omega
        · rw [upd_ne (ne_of_none e nE)]
          exact kk4 b o e nb
      · exact ⟨ns, d4', nd3, by omega, fun q hq => by have := in3 q hq; omega, r4, kk4⟩
    · rintro H3 ⟨ns, d3, nd3, l3, in3, r3, k3⟩
      have m3 := k3 _ _ l2 nLa
      refine ⟨_, rfl, _, rfl, _, rfl, _, rfl, a, n, rfl, r3, by omega, by omega, fun g H4 g0 g1 r4 k4 => ⟨by show 3 ≤ sizeLine; decide, fun M nM => ?_⟩⟩
      have kk : Keep a H2 (upd H4 M (.tup [.ref L, .ref En, .int g])) := (k3.trans k4).trans (Keep.of (Ext.new nM))
      have kE : Keep a H3 (upd H4 M (.tup [.ref L, .ref En, .int g])) := k4.trans (Keep.of (Ext.new nM))
      have w4 : RowsAt (upd H4 M (.tup [.ref L, .ref En, .int g])) ds rows := w2.keepN kk r2.notup fun hm => by
        obtain ⟨kvs, e⟩ := w2.mem hm
        exact r2.nodict _ e
      refine k _ M L En ds rows ns g (r4.upd (r4.new nM)) (k2.trans kk) ((k2.trans (k3.trans k4)).free r4.there.choose_spec nM) nL0 nE0 f2 ⟨upd_same, kk _ _ l2 nLa, w4, nd2, kE _ _ d3 nEa⟩ ⟨by omega, by omega, fun r hr => by rw [li]; exact ok2 r hr, nd3, by omega, fun q hq => by have := in3 q hq; omega, g0, by omega⟩
end
end Sl
/-! ## P18 -/
set_option Elab.async false
set_option linter.all false
set_option maxRecDepth 100000
set_option maxHeartbeats 4000000
namespace Sl
open PySem PySem.Spec PyProof.Rows L2 TxS
abbrev sFamily : Stmt := top 30
theorem cut_take {xs : List V} {k : Nat} (h : k ≤ xs.length) : cutV xs none (some (k : Int)) = xs.take k := by
  have e0 : HT.sIx xs.length 0 (none : Option Int) = 0 := rfl
  have e1 : HT.sIx xs.length xs.length (some (k : Int)) = min k xs.length := HT.sIx_nat _ _ _
  unfold cutV
  rw [e0, e1, List.drop_zero, Nat.sub_zero, Nat.min_eq_left h]
/-- a written entry of a row: its key, its tuple -/
def EntOk (σ : L2.St) (t : TE × TE) (e : Str × Mv) : Prop := (∀ H (Q : VK), Q (.str e.1) H → t.1 σ H Q) ∧ (∀ H (Q : VK), (∀ p, H p = none → Q (.ref p) (upd H p (.tup [.int e.2.1, toldV e.2.2]))) → t.2 σ H Q)
inductive EntsOk (σ : L2.St) : List (TE × TE) → Rw → Prop
  | nil : EntsOk σ [] []
  | cons {t : TE × TE} {e : Str × Mv} {ts : List (TE × TE)} {r : Rw} : EntOk σ t e → EntsOk σ ts r → EntsOk σ (t :: ts) (e :: r)
theorem pairs_read {σ : L2.St} : ∀ {trs : List (TE × TE)} {r : Rw}, EntsOk σ trs r → ∀ (H : Hp) (Q : List (V × V) → Hp → Prop), (∀ (H' : Hp) (es : List (Str × Addr)), Ext H H' → Ents H' es r → Q (es.map fun e => (.str e.1, .ref e.2)) H') → tPairs trs σ H Q
  | _, _, .nil, H, Q, q => q H [] (Ext.refl H) .nil
  | _, _, .cons (e := e) h hs, H, Q, q => by
    refine h.1 H _ (h.2 H _ fun p np => pairs_read hs _ _ fun H' es x he => ?_)
    refine q H' ((e.1, p) :: es) ((Ext.new np).trans x) (.cons (x _ _ upd_same) he)
theorem merge_new : ∀ {es : List (Str × Addr)} {acc : List (Key × V)}, (es.map (·.1)).Nodup → (∀ z ∈ es.map (·.1), valV acc (Sum.inr z : Key) = none) → mergeK acc (kvsOf es) = acc ++ kvsOf es
  | [], acc, _, _ => (List.append_nil acc).symm
  | e :: es, acc, nd, h => by
    obtain ⟨n1, n2⟩ := List.nodup_cons.mp nd
    show mergeK (putK acc (Sum.inr e.1) (.ref e.2)) (kvsOf es) = acc ++ ((Sum.inr e.1, V.ref e.2) :: kvsOf es)
    have ha := h e.1 List.mem_cons_self
    rw [putK_new _ ha, merge_new n2 fun z hz => ?_, List.append_assoc]
    · rfl
    · rw [valV_snoc _ _ _ _ ha]
      have ne : ¬ (Sum.inr z : Key) = Sum.inr e.1 := fun k => n1 (by injection k with k; show e.1 ∈ _; rw [← k]; exact hz)
      rw [if_neg ne]
      exact h z (List.mem_cons_of_mem _ hz)
/-- a written dict of moves -/
theorem disp_row {σ : L2.St} {trs : List (TE × TE)} {r : Rw} (h : EntsOk σ trs r) (nd : (r.map (·.1)).Nodup) (h15 : r.length ≤ 15) (H : Hp) (Q : VK) (q : ∀ (H' : Hp) (d : Addr), Ext H H' → H d = none → RowAt H' d r → Q (.ref d) H') : tDisp trs σ H Q := by
  intro d nd0
  refine pairs_read h _ _ fun H' es x he => ⟨x _ _ upd_same, kvsOf es, ?_, ?_, ?_⟩
  · unfold kvsOf
    rw [List.map_map]
    rfl
  · unfold kvsOf
    rw [List.length_map, he.len]
    exact h15
  have e : mergeK [] (kvsOf es) = kvsOf es := by
    rw [merge_new (by rw [he.keys]; exact nd) fun z _ => rfl]
    rfl
  rw [e]
  have hd := x _ _ upd_same
  refine q _ d (fun b o eb => ?_) nd0 ⟨es, upd_same, he.ext fun t xs et => ?_⟩
  · rw [upd_ne (ne_of_none eb nd0)]
    exact x _ _ ((Ext.new nd0) _ _ eb)
  · rw [upd_ne (ne_of et hd (by intro z; cases z))]
    exact et
theorem ent_told {σ : L2.St} {i j : Nat} {z y : Str} {g : Int} (hi : σ[i]? = some (some (.str z))) (hj : σ[j]? = some (some (.str y))) : EntOk σ (tVar i, tTup (tCons (tC (.int g)) (tCons (tVar j) tNil))) (z, (g, some y)) :=
  ⟨fun H Q q => ⟨_, hi, q⟩, fun H Q q => ⟨_, hj, by show 2 ≤ sizeLine; decide, fun p np => q p np⟩⟩
theorem ent_none {σ : L2.St} {i : Nat} {z : Str} {g : Int} (hi : σ[i]? = some (some (.str z))) : EntOk σ (tVar i, tTup (tCons (tC (.int g)) (tCons (tC .non) tNil))) (z, (g, none)) :=
  ⟨fun H Q q => ⟨_, hi, q⟩, fun H Q q => ⟨by show 2 ≤ sizeLine; decide, fun p np => q p np⟩⟩
theorem rowOver_nil {paper names : List Str} {n : Int} : rowOver paper names n [] := ⟨List.nodup_nil, fun e h => (nomatch h)⟩
theorem rowOver_cons {paper names : List Str} {n : Int} {z : Str} {g : Int} {o : Option Str} {r : Rw} (h1 : z ∉ r.map (·.1)) (h2 : z ∈ paper) (h3 : 0 ≤ g ∧ g < n) (h4 : ∀ y, o = some y → y ∈ names) (h : rowOver paper names n r) : rowOver paper names n ((z, (g, o)) :: r) :=
  ⟨List.nodup_cons.mpr ⟨h1, h.1⟩, fun e he => (List.mem_cons.mp he).elim (fun k => by rw [k]; exact ⟨h2, h3, h4⟩) (h.2 e)⟩
def spFamily : Sp := fun vs H Q _ => ∃ (a Pa Te Ma : Addr) (way : Nat) (paper tells marks : List Str), vs = [.int way, .ref Pa, .ref Te, .ref Ma] ∧ Rng H a ∧ Lsts H a Pa Te Ma paper tells marks ∧ (∀ (H' : Hp) (M L E : Addr) (ds : List Addr) (rows : List Rw) (ns : List Int) (b : Int), Ext H H' → H M = none → H L = none → H E = none → (∀ d ∈ ds, H d = none) →
  ModelAt H' M L E ds rows ns b → okModel 4 paper (tells ++ marks) rows ns b → Q (.ref M) H')
theorem RowAt.ext {H H' : Hp} {d : Addr} {r : Rw} (x : Ext H H') (h : RowAt H d r) : RowAt H' d r := by
  obtain ⟨es, a, b⟩ := h
  exact ⟨es, x _ _ a, b.ext fun t xs e => x _ _ e⟩
/-- an expression that makes a new dict of moves -/
def DictOk (σ : L2.St) (te : TE) (r : Rw) : Prop := ∀ (H : Hp) (Q : VK), (∀ (H' : Hp) (d : Addr), Ext H H' → H d = none → RowAt H' d r → Q (.ref d) H') → te σ H Q
theorem dict_new (σ : L2.St) : DictOk σ tDNewK [] := fun H Q q d nd => q _ d (Ext.new nd) nd ⟨[], upd_same, .nil⟩
theorem dict_disp {σ : L2.St} {trs : List (TE × TE)} {r : Rw} (h : EntsOk σ trs r) (nd : (r.map (·.1)).Nodup) (h15 : r.length ≤ 15) : DictOk σ (tDisp trs) r := fun H Q q => disp_row h nd h15 H Q q
inductive DictsOk (σ : L2.St) : List TE → List Rw → Prop
  | nil : DictsOk σ [] []
  | cons {t : TE} {r : Rw} {ts : List TE} {rs : List Rw} : DictOk σ t r → DictsOk σ ts rs → DictsOk σ (t :: ts) (r :: rs)
def chainT : List TE → TA
  | [] => tNil
  | t :: ts => tCons t (chainT ts)
theorem rows_read {σ : L2.St} : ∀ {ts : List TE} {rows : List Rw}, DictsOk σ ts rows → ∀ (H : Hp) (Q : List V → Hp → Prop), (∀ (H' : Hp) (ds : List Addr), Ext H H' → (∀ d ∈ ds, H d = none) → ds.Nodup → RowsAt H' ds rows → Q (ds.map V.ref) H') → chainT ts σ H Q
  | _, _, .nil, H, Q, q => q H [] (Ext.refl H) (fun d h => nomatch h) List.nodup_nil .nil
  | _, _, .cons h hs, H, Q, q => h H _ fun H1 d x1 n1 r1 => rows_read hs H1 _ fun H2 ds x2 f2 nd2 w2 => by
    refine q H2 (d :: ds) (x1.trans x2) (fun e he => (List.mem_cons.mp he).elim (fun k => by rw [k]; exact n1) fun k => x1.free (f2 e k)) (List.nodup_cons.mpr ⟨fun m => ?_, nd2⟩) (.cons (r1.ext x2) w2)
    obtain ⟨es, a, _⟩ := r1
    rw [f2 d m] at a
    cases a
theorem fam_end {H Hx : Hp} {Q : VK} {ds : List Addr} {rows : List Rw} {ns : List Int} {b : Int} {L En M : Addr} {paper names : List Str} (x : Ext H Hx) (w : RowsAt Hx ds rows) (nd : ds.Nodup) (fr : ∀ d ∈ ds, H d = none) (nL : Hx L = none) (nE : upd Hx L (.lst (ds.map V.ref)) En = none)
    (nM : upd (upd Hx L (.lst (ds.map V.ref))) En (.lst (ns.map V.int)) M = none) (ok : okModel 4 paper names rows ns b)
    (k : ∀ (H' : Hp) (M L E : Addr) (ds : List Addr) (rows : List Rw) (ns : List Int) (b : Int), Ext H H' → H M = none → H L = none → H E = none → (∀ d ∈ ds, H d = none) → ModelAt H' M L E ds rows ns b → okModel 4 paper names rows ns b → Q (.ref M) H') :
    Q (.ref M) (upd (upd (upd Hx L (.lst (ds.map V.ref))) En (.lst (ns.map V.int))) M (.tup [.ref L, .ref En, .int b])) := by
  have x1 : Ext Hx (upd Hx L (.lst (ds.map V.ref))) := Ext.new nL
  have x2 := x1.trans (Ext.new nE (o := .lst (ns.map V.int)))
  have x3 := x2.trans (Ext.new nM (o := .tup [.ref L, .ref En, .int b]))
  refine k _ M L En ds rows ns b (x.trans x3) ((x.trans x2).free nM) (x.free nL) ((x.trans x1).free nE) fr ⟨upd_same, ?_, w.ext x3, nd, ?_⟩ ok
  · exact ((Ext.new nE).trans (Ext.new nM)) _ _ upd_same
  · exact (Ext.new nM) _ _ upd_same
section
variable {P : Program} {w : World} {K : PySem.W.Frag} {mg : Str → Option Value} {base : Heap}
theorem scFamily : FnScope ["_law_way", "_law_paper", "_law_tells_here", "_law_marks_here", "_law_p", "_law_q", "_law_r", "_law_a", "_law_b", "_law_m", "_law_n", "_law_core"] ["_law_way", "_law_paper", "_law_tells_here", "_law_marks_here"] (defScope sFamily) := ⟨rfl, rfl, rfl, by decide +kernel, rfl, by decide +kernel, by decide +kernel⟩
theorem ok_family {f : Addr} {fd : FuncData} (F : Fun K "_law_family" "_law_family" sFamily f fd) : FnOk P w K mg base CX0 1 f fd ["_law_way", "_law_paper", "_law_tells_here", "_law_marks_here"] spFamily := by
  refine F.ok scFamily (fun vs H Q E h => ?_) (fun cdv A0 outer s H vs Q E hr h => ?_)
  · obtain ⟨a, Pa, Te, Ma, way, paper, tells, marks, rfl, _⟩ := h
    rfl
  · obtain ⟨a, Pa, Te, Ma, way, paper, tells, marks, rfl, hR, hl, k⟩ := h
    refine ⟨_, pss_cons (ps_asg (pe_slice sl_list (pv 1) po_none (po_some pe_int)) (pg_unl rfl (pgs_cons (pg_name (i := 4) scFamily.nd rfl (.inl rfl)) (pgs_cons (pg_name (i := 5) scFamily.nd rfl (.inl rfl)) (pgs_cons (pg_name (i := 6) scFamily.nd rfl (.inl rfl)) pgs_nil)))))
      (pss_cons (ps_asg (pe_slice sl_list (pv 2) po_none (po_some pe_int)) (pg_unl rfl (pgs_cons (pg_name (i := 7) scFamily.nd rfl (.inl rfl)) (pgs_cons (pg_name (i := 8) scFamily.nd rfl (.inl rfl)) pgs_nil))))
      (pss_cons (ps_asg (pe_slice sl_list (pv 3) po_none (po_some pe_int)) (pg_unl rfl (pgs_cons (pg_name (i := 9) scFamily.nd rfl (.inl rfl)) (pgs_cons (pg_name (i := 10) scFamily.nd rfl (.inl rfl)) pgs_nil))))
      (pss_cons (ps_if (pt_cmpR op_eq (pv 0) pe_int (nomark _)) (pss_cons (ps_set (i := 11) scFamily.nd rfl (.inl rfl) (pe_disp (pps_cons (pv 4) (pe_tup (pa_cons pe_int (pa_cons (pv 7) pa_nil))) (pps_cons (pv 5) (pe_tup (pa_cons pe_int (pa_cons (pv 10) pa_nil))) (pps_cons (pv 6) (pe_tup (pa_cons pe_int (pa_cons pe_non pa_nil))) pps_nil))) (by rfl) (by rfl) (fun z => by cases z) (by decide))) (pss_one (ps_ret (pe_tup (pa_cons (pe_lst (pa_cons (pe_disp (pps_cons (pv 5) (pe_tup (pa_cons pe_int (pa_cons (pv 9) pa_nil))) pps_nil) (by rfl) (by rfl) (fun z => by cases z) (by decide)) (pa_cons (pv 11) (pa_cons pe_dnewK (pa_cons (pe_disp (pps_cons (pv 5) (pe_tup (pa_cons pe_int (pa_cons (pv 8) pa_nil))) (pps_cons (pv 6) (pe_tup (pa_cons pe_int (pa_cons (pv 7) pa_nil))) pps_nil)) (by rfl) (by rfl) (fun z => by cases z) (by decide)) pa_nil))))) (pa_cons (pe_lst (pa_cons pe_int pa_nil)) (pa_cons pe_int pa_nil))))))) pss_nil)
      (pss_cons (ps_if (pt_cmpR op_eq (pv 0) pe_int (nomark _)) (pss_one (ps_ret (pe_tup (pa_cons (pe_lst (pa_cons (pe_disp (pps_cons (pv 5) (pe_tup (pa_cons pe_int (pa_cons (pv 9) pa_nil))) pps_nil) (by rfl) (by rfl) (fun z => by cases z) (by decide)) (pa_cons (pe_disp (pps_cons (pv 4) (pe_tup (pa_cons pe_int (pa_cons (pv 7) pa_nil))) (pps_cons (pv 5) (pe_tup (pa_cons pe_int (pa_cons pe_non pa_nil))) pps_nil)) (by rfl) (by rfl) (fun z => by cases z) (by decide)) (pa_cons (pe_disp (pps_cons (pv 5) (pe_tup (pa_cons pe_int (pa_cons (pv 8) pa_nil))) (pps_cons (pv 6) (pe_tup (pa_cons pe_int (pa_cons (pv 10) pa_nil))) pps_nil)) (by rfl) (by rfl) (fun z => by cases z) (by decide)) (pa_cons pe_dnewK pa_nil))))) (pa_cons (pe_lst (pa_cons pe_int pa_nil)) (pa_cons pe_int pa_nil)))))) pss_nil)
      (pss_cons (ps_if (pt_cmpR op_eq (pv 0) pe_int (nomark _)) (pss_one (ps_ret (pe_tup (pa_cons (pe_lst (pa_cons (pe_disp (pps_cons (pv 4) (pe_tup (pa_cons pe_int (pa_cons (pv 7) pa_nil))) (pps_cons (pv 5) (pe_tup (pa_cons pe_int (pa_cons (pv 7) pa_nil))) (pps_cons (pv 6) (pe_tup (pa_cons pe_int (pa_cons (pv 9) pa_nil))) pps_nil))) (by rfl) (by rfl) (fun z => by cases z) (by decide)) (pa_cons (pe_disp (pps_cons (pv 6) (pe_tup (pa_cons pe_int (pa_cons (pv 9) pa_nil))) pps_nil) (by rfl) (by rfl) (fun z => by cases z) (by decide)) (pa_cons (pe_disp (pps_cons (pv 4) (pe_tup (pa_cons pe_int (pa_cons (pv 8) pa_nil))) (pps_cons (pv 5) (pe_tup (pa_cons pe_int (pa_cons (pv 8) pa_nil))) (pps_cons (pv 6) (pe_tup (pa_cons pe_int (pa_cons (pv 10) pa_nil))) pps_nil))) (by rfl) (by rfl) (fun z => by cases z) (by decide)) (pa_cons pe_dnewK pa_nil))))) (pa_cons (pe_lst (pa_cons pe_int (pa_cons pe_int pa_nil))) (pa_cons pe_int pa_nil)))))) pss_nil)
      (pss_cons (ps_if (pt_cmpR op_eq (pv 0) pe_int (nomark _)) (pss_one (ps_ret (pe_tup (pa_cons (pe_lst (pa_cons (pe_disp (pps_cons (pv 4) (pe_tup (pa_cons pe_int (pa_cons (pv 7) pa_nil))) (pps_cons (pv 5) (pe_tup (pa_cons pe_int (pa_cons (pv 7) pa_nil))) pps_nil)) (by rfl) (by rfl) (fun z => by cases z) (by decide)) (pa_cons (pe_disp (pps_cons (pv 4) (pe_tup (pa_cons pe_int (pa_cons (pv 7) pa_nil))) (pps_cons (pv 6) (pe_tup (pa_cons pe_int (pa_cons (pv 9) pa_nil))) pps_nil)) (by rfl) (by rfl) (fun z => by cases z) (by decide)) (pa_cons (pe_disp (pps_cons (pv 4) (pe_tup (pa_cons pe_int (pa_cons (pv 7) pa_nil))) (pps_cons (pv 5) (pe_tup (pa_cons pe_int (pa_cons (pv 8) pa_nil))) pps_nil)) (by rfl) (by rfl) (fun z => by cases z) (by decide)) pa_nil)))) (pa_cons (pe_lst (pa_cons pe_int (pa_cons pe_int pa_nil))) (pa_cons pe_int pa_nil)))))) pss_nil)
      (pss_one (ps_ret (pe_tup (pa_cons (pe_lst (pa_cons (pe_disp (pps_cons (pv 4) (pe_tup (pa_cons pe_int (pa_cons pe_non pa_nil))) (pps_cons (pv 5) (pe_tup (pa_cons pe_int (pa_cons (pv 9) pa_nil))) pps_nil)) (by rfl) (by rfl) (fun z => by cases z) (by decide)) (pa_cons (pe_disp (pps_cons (pv 4) (pe_tup (pa_cons pe_int (pa_cons (pv 7) pa_nil))) (pps_cons (pv 5) (pe_tup (pa_cons pe_int (pa_cons (pv 8) pa_nil))) pps_nil)) (by rfl) (by rfl) (fun z => by cases z) (by decide)) (pa_cons (pe_disp (pps_cons (pv 4) (pe_tup (pa_cons pe_int (pa_cons pe_non pa_nil))) (pps_cons (pv 6) (pe_tup (pa_cons pe_int (pa_cons (pv 10) pa_nil))) pps_nil)) (by rfl) (by rfl) (fun z => by cases z) (by decide)) pa_nil)))) (pa_cons (pe_lst (pa_cons pe_int (pa_cons pe_int pa_nil))) (pa_cons pe_int pa_nil)))))))))))), ?_⟩
    obtain ⟨p, q, r, rest, rfl⟩ : ∃ p q r rest, paper = p :: q :: r :: rest := by
      have := hl.lp
      match paper, this with
      | p :: q :: r :: rest, _ => exact ⟨p, q, r, rest, rfl⟩
    obtain ⟨ta, tb, trest, rfl⟩ : ∃ p q rest, tells = p :: q :: rest := by
      have := hl.lt
      match tells, this with
      | p :: q :: rest, _ => exact ⟨p, q, rest, rfl⟩
    obtain ⟨ma, mb, mrest, rfl⟩ : ∃ p q rest, marks = p :: q :: rest := by
      have := hl.lm
      match marks, this with
      | p :: q :: rest, _ => exact ⟨p, q, rest, rfl⟩
    have nd := hl.nd
    obtain ⟨nd1, nd2⟩ := List.nodup_cons.mp nd
    obtain ⟨nd3, nd4⟩ := List.nodup_cons.mp nd2
    have npq : ¬ p = q := fun e => nd1 (by rw [e]; exact List.mem_cons_self)
    have npr : ¬ p = r := fun e => nd1 (by rw [e]; exact List.mem_cons_of_mem _ List.mem_cons_self)
    have nqr : ¬ q = r := fun e => nd3 (by rw [e]; exact List.mem_cons_self)
    have ip : p ∈ p :: q :: r :: rest := List.mem_cons_self
    have iq : q ∈ p :: q :: r :: rest := List.mem_cons_of_mem _ List.mem_cons_self
    have ir : r ∈ p :: q :: r :: rest := List.mem_cons_of_mem _ (List.mem_cons_of_mem _ List.mem_cons_self)
    have ia : ta ∈ (ta :: tb :: trest) ++ (ma :: mb :: mrest) := List.mem_append_left _ List.mem_cons_self
    have ib : tb ∈ (ta :: tb :: trest) ++ (ma :: mb :: mrest) := List.mem_append_left _ (List.mem_cons_of_mem _ List.mem_cons_self)
    have im : ma ∈ (ta :: tb :: trest) ++ (ma :: mb :: mrest) := List.mem_append_right _ List.mem_cons_self
    have i_n : mb ∈ (ta :: tb :: trest) ++ (ma :: mb :: mrest) := List.mem_append_right _ (List.mem_cons_of_mem _ List.mem_cons_self)
    -- the three unpackings
    refine ⟨_, rfl, _, rfl, Pa, _, rfl, SqL.of hl.p, fun p1 np1 => ?_⟩
    have c1 : cutV ((p :: q :: r :: rest).map V.str) none (some ((3 : Nat) : Int)) = [.str p, .str q, .str r] := cut_take (by rw [List.length_map]; exact hl.lp)
    refine ⟨p1, [.str p, .str q, .str r], rfl, SqL.of (by rw [upd_same, ← c1]; rfl), rfl, _, _, rfl, _, _, rfl, _, _, rfl, rfl, ?_⟩
    have x1 : Ext H (upd H p1 (.lst (cutV ((p :: q :: r :: rest).map V.str) none (some ((3 : Nat) : Int))))) := Ext.new np1
    refine ⟨_, rfl, _, rfl, Te, _, rfl, SqL.of (x1 _ _ hl.t), fun p2 np2 => ?_⟩
    have c2 : cutV ((ta :: tb :: trest).map V.str) none (some ((2 : Nat) : Int)) = [.str ta, .str tb] := cut_take (by rw [List.length_map]; exact hl.lt)
    refine ⟨p2, [.str ta, .str tb], rfl, SqL.of (by rw [upd_same, ← c2]; rfl), rfl, _, _, rfl, _, _, rfl, rfl, ?_⟩
    have x2 := x1.trans (Ext.new np2 (o := .lst (cutV ((ta :: tb :: trest).map V.str) none (some ((2 : Nat) : Int)))))
    refine ⟨_, rfl, _, rfl, Ma, _, rfl, SqL.of (x2 _ _ hl.m), fun p3 np3 => ?_⟩
    have c3 : cutV ((ma :: mb :: mrest).map V.str) none (some ((2 : Nat) : Int)) = [.str ma, .str mb] := cut_take (by rw [List.length_map]; exact hl.lm)
    refine ⟨p3, [.str ma, .str mb], rfl, SqL.of (by rw [upd_same, ← c3]; rfl), rfl, _, _, rfl, _, _, rfl, rfl, ?_⟩
    have x3 := x2.trans (Ext.new np3 (o := .lst (cutV ((ma :: mb :: mrest).map V.str) none (some ((2 : Nat) : Int)))))
    refine ⟨_, rfl, rfl, _, rfl, ?_⟩
    refine ite2 (fun _ => ?_) (fun _ => ?_)
    · try dsimp only [tNext, tSeq, tAsg, gName, tRet, tTup, tLst, tCons, tNil]
      refine disp_row (r := [(p, ((1 : Int), some ta)), (q, ((2 : Int), some mb)), (r, ((3 : Int), none))]) (by refine .cons ?_ (.cons ?_ (.cons ?_ .nil)) <;> first | exact ent_none rfl | exact ent_told rfl rfl) (by simp [npq, npr, nqr]) (by show 3 ≤ 15; decide) _ _ fun G1 d0 y0 n0 r0 => ?_
      try dsimp only [tNext, tSeq, tAsg, gName, tRet, tTup, tLst, tCons, tNil]
      refine disp_row (r := [(q, ((1 : Int), some ma))]) (by refine .cons ?_ .nil <;> first | exact ent_none rfl | exact ent_told rfl rfl) (by simp [npq, npr, nqr]) (by show 1 ≤ 15; decide) _ _ fun G2 d1 y1 n1 r1 => ?_
      refine ⟨_, rfl, ?_⟩
      refine fun d2 n2 => ?_
      have y2 := Ext.new n2 (o := .dK [])
      have r2 : RowAt (upd G2 d2 (.dK [])) d2 [] := ⟨[], upd_same, .nil⟩
      try dsimp only [tNext, tSeq, tAsg, gName, tRet, tTup, tLst, tCons, tNil]
      refine disp_row (r := [(q, ((1 : Int), some tb)), (r, ((1 : Int), some ta))]) (by refine .cons ?_ (.cons ?_ .nil) <;> first | exact ent_none rfl | exact ent_told rfl rfl) (by simp [npq, npr, nqr]) (by show 2 ≤ 15; decide) _ _ fun G4 d3 y3 n3 r3 => ?_
      refine ⟨by show 4 ≤ sizeLine; decide, fun L nL => ⟨by show 1 ≤ sizeLine; decide, fun En nE => ⟨by show 3 ≤ sizeLine; decide, fun M nM => ?_⟩⟩⟩
      obtain ⟨_, k0, _⟩ := id r0
      obtain ⟨_, k1, _⟩ := id r1
      obtain ⟨_, k2, _⟩ := id r2
      obtain ⟨_, k3, _⟩ := id r3
      have a01 : ¬ d0 = d1 := fun e => by rw [← e, k0] at n1; cases n1
      have a02 : ¬ d0 = d2 := fun e => by rw [← e, y1 _ _ k0] at n2; cases n2
      have a12 : ¬ d1 = d2 := fun e => by rw [← e, k1] at n2; cases n2
      have a03 : ¬ d0 = d3 := fun e => by rw [← e, (y1.trans y2) _ _ k0] at n3; cases n3
      have a13 : ¬ d1 = d3 := fun e => by rw [← e, y2 _ _ k1] at n3; cases n3
      have a23 : ¬ d2 = d3 := fun e => by rw [← e, k2] at n3; cases n3
      refine fam_end (ds := [d1, d0, d2, d3]) (rows := [[(q, ((1 : Int), some ma))], [(p, ((1 : Int), some ta)), (q, ((2 : Int), some mb)), (r, ((3 : Int), none))], [], [(q, ((1 : Int), some tb)), (r, ((1 : Int), some ta))]]) (ns := [2]) (b := 0) (x3.trans (((y0.trans y1).trans y2).trans y3)) (.cons (r1.ext (y2.trans y3)) (.cons (r0.ext ((y1.trans y2).trans y3)) (.cons (r2.ext y3) (.cons r3 .nil)))) (by simp [a01, (show ¬ d1 = d0 from fun e => a01 e.symm), a02, (show ¬ d2 = d0 from fun e => a02 e.symm), a12, (show ¬ d2 = d1 from fun e => a12 e.symm), a03, (show ¬ d3 = d0 from fun e => a03 e.symm), a13, (show ¬ d3 = d1 from fun e => a13 e.symm), a23, (show ¬ d3 = d2 from fun e => a23 e.symm)]) (fun d hd => ?_) nL nE nM ⟨by show 1 ≤ 4; decide, by show 4 ≤ 4; decide, (fun r hr => by
        simp only [List.mem_cons, List.not_mem_nil, or_false] at hr
        rcases hr with rfl | rfl | rfl | rfl
        · exact (rowOver_cons (fun h => nomatch h) iq ⟨by decide, by show (1 : Int) < 4; decide⟩ (fun y e => by cases e; exact im) rowOver_nil)
        · exact (rowOver_cons (fun h => (List.mem_cons.mp h).elim npq fun h => npr (List.mem_singleton.mp h)) ip ⟨by decide, by show (1 : Int) < 4; decide⟩ (fun y e => by cases e; exact ia) (rowOver_cons (fun h => nqr (List.mem_singleton.mp h)) iq ⟨by decide, by show (2 : Int) < 4; decide⟩ (fun y e => by cases e; exact i_n) (rowOver_cons (fun h => nomatch h) ir ⟨by decide, by show (3 : Int) < 4; decide⟩ (fun y e => by cases e) rowOver_nil)))
        · exact rowOver_nil
        · exact (rowOver_cons (fun h => nqr (List.mem_singleton.mp h)) iq ⟨by decide, by show (1 : Int) < 4; decide⟩ (fun y e => by cases e; exact ib) (rowOver_cons (fun h => nomatch h) ir ⟨by decide, by show (1 : Int) < 4; decide⟩ (fun y e => by cases e; exact ia) rowOver_nil))), by decide, by show 1 ≤ 4; decide, (by show ∀ i ∈ ([2] : List Int), 0 ≤ i ∧ i < 4; decide), by decide, by show (0 : Int) < 4; decide⟩ k
      simp only [List.mem_cons, List.not_mem_nil, or_false] at hd
      rcases hd with rfl | rfl | rfl | rfl
      · exact (x3.trans y0).free n1
      · exact x3.free n0
      · exact (x3.trans (y0.trans y1)).free n2
      · exact (x3.trans ((y0.trans y1).trans y2)).free n3
    refine ⟨_, rfl, rfl, _, rfl, ?_⟩
    refine ite2 (fun _ => ?_) (fun _ => ?_)
    · try dsimp only [tNext, tSeq, tAsg, gName, tRet, tTup, tLst, tCons, tNil]
      refine disp_row (r := [(q, ((1 : Int), some ma))]) (by refine .cons ?_ .nil <;> first | exact ent_none rfl | exact ent_told rfl rfl) (by simp [npq, npr, nqr]) (by show 1 ≤ 15; decide) _ _ fun G1 d0 y0 n0 r0 => ?_
      try dsimp only [tNext, tSeq, tAsg, gName, tRet, tTup, tLst, tCons, tNil]
      refine disp_row (r := [(p, ((1 : Int), some ta)), (q, ((2 : Int), none))]) (by refine .cons ?_ (.cons ?_ .nil) <;> first | exact ent_none rfl | exact ent_told rfl rfl) (by simp [npq, npr, nqr]) (by show 2 ≤ 15; decide) _ _ fun G2 d1 y1 n1 r1 => ?_
      try dsimp only [tNext, tSeq, tAsg, gName, tRet, tTup, tLst, tCons, tNil]
      refine disp_row (r := [(q, ((1 : Int), some tb)), (r, ((3 : Int), some mb))]) (by refine .cons ?_ (.cons ?_ .nil) <;> first | exact ent_none rfl | exact ent_told rfl rfl) (by simp [npq, npr, nqr]) (by show 2 ≤ 15; decide) _ _ fun G3 d2 y2 n2 r2 => ?_
      refine fun d3 n3 => ?_
      have y3 := Ext.new n3 (o := .dK [])
      have r3 : RowAt (upd G3 d3 (.dK [])) d3 [] := ⟨[], upd_same, .nil⟩
      refine ⟨by show 4 ≤ sizeLine; decide, fun L nL => ⟨by show 1 ≤ sizeLine; decide, fun En nE => ⟨by show 3 ≤ sizeLine; decide, fun M nM => ?_⟩⟩⟩
      obtain ⟨_, k0, _⟩ := id r0
      obtain ⟨_, k1, _⟩ := id r1
      obtain ⟨_, k2, _⟩ := id r2
      obtain ⟨_, k3, _⟩ := id r3
      have a01 : ¬ d0 = d1 := fun e => by rw [← e, k0] at n1; cases n1
      have a02 : ¬ d0 = d2 := fun e => by rw [← e, y1 _ _ k0] at n2; cases n2
      have a12 : ¬ d1 = d2 := fun e => by rw [← e, k1] at n2; cases n2
      have a03 : ¬ d0 = d3 := fun e => by rw [← e, (y1.trans y2) _ _ k0] at n3; cases n3
      have a13 : ¬ d1 = d3 := fun e => by rw [← e, y2 _ _ k1] at n3; cases n3
      have a23 : ¬ d2 = d3 := fun e => by rw [← e, k2] at n3; cases n3
      refine fam_end (ds := [d0, d1, d2, d3]) (rows := [[(q, ((1 : Int), some ma))], [(p, ((1 : Int), some ta)), (q, ((2 : Int), none))], [(q, ((1 : Int), some tb)), (r, ((3 : Int), some mb))], []]) (ns := [3]) (b := 0) (x3.trans (((y0.trans y1).trans y2).trans y3)) (.cons (r0.ext ((y1.trans y2).trans y3)) (.cons (r1.ext (y2.trans y3)) (.cons (r2.ext y3) (.cons r3 .nil)))) (by simp [a01, (show ¬ d1 = d0 from fun e => a01 e.symm), a02, (show ¬ d2 = d0 from fun e => a02 e.symm), a12, (show ¬ d2 = d1 from fun e => a12 e.symm), a03, (show ¬ d3 = d0 from fun e => a03 e.symm), a13, (show ¬ d3 = d1 from fun e => a13 e.symm), a23, (show ¬ d3 = d2 from fun e => a23 e.symm)]) (fun d hd => ?_) nL nE nM ⟨by show 1 ≤ 4; decide, by show 4 ≤ 4; decide, (fun r hr => by
        simp only [List.mem_cons, List.not_mem_nil, or_false] at hr
        rcases hr with rfl | rfl | rfl | rfl
        · exact (rowOver_cons (fun h => nomatch h) iq ⟨by decide, by show (1 : Int) < 4; decide⟩ (fun y e => by cases e; exact im) rowOver_nil)
        · exact (rowOver_cons (fun h => npq (List.mem_singleton.mp h)) ip ⟨by decide, by show (1 : Int) < 4; decide⟩ (fun y e => by cases e; exact ia) (rowOver_cons (fun h => nomatch h) iq ⟨by decide, by show (2 : Int) < 4; decide⟩ (fun y e => by cases e) rowOver_nil))
        · exact (rowOver_cons (fun h => nqr (List.mem_singleton.mp h)) iq ⟨by decide, by show (1 : Int) < 4; decide⟩ (fun y e => by cases e; exact ib) (rowOver_cons (fun h => nomatch h) ir ⟨by decide, by show (3 : Int) < 4; decide⟩ (fun y e => by cases e; exact i_n) rowOver_nil))
        · exact rowOver_nil), by decide, by show 1 ≤ 4; decide, (by show ∀ i ∈ ([3] : List Int), 0 ≤ i ∧ i < 4; decide), by decide, by show (0 : Int) < 4; decide⟩ k
      simp only [List.mem_cons, List.not_mem_nil, or_false] at hd
      rcases hd with rfl | rfl | rfl | rfl
      · exact x3.free n0
      · exact (x3.trans y0).free n1
      · exact (x3.trans (y0.trans y1)).free n2
      · exact (x3.trans ((y0.trans y1).trans y2)).free n3
    refine ⟨_, rfl, rfl, _, rfl, ?_⟩
    refine ite2 (fun _ => ?_) (fun _ => ?_)
    · try dsimp only [tNext, tSeq, tAsg, gName, tRet, tTup, tLst, tCons, tNil]
      refine disp_row (r := [(p, ((0 : Int), some ta)), (q, ((1 : Int), some ta)), (r, ((2 : Int), some ma))]) (by refine .cons ?_ (.cons ?_ (.cons ?_ .nil)) <;> first | exact ent_none rfl | exact ent_told rfl rfl) (by simp [npq, npr, nqr]) (by show 3 ≤ 15; decide) _ _ fun G1 d0 y0 n0 r0 => ?_
      try dsimp only [tNext, tSeq, tAsg, gName, tRet, tTup, tLst, tCons, tNil]
      refine disp_row (r := [(r, ((2 : Int), some ma))]) (by refine .cons ?_ .nil <;> first | exact ent_none rfl | exact ent_told rfl rfl) (by simp [npq, npr, nqr]) (by show 1 ≤ 15; decide) _ _ fun G2 d1 y1 n1 r1 => ?_
      try dsimp only [tNext, tSeq, tAsg, gName, tRet, tTup, tLst, tCons, tNil]
      refine disp_row (r := [(p, ((2 : Int), some tb)), (q, ((3 : Int), some tb)), (r, ((3 : Int), some mb))]) (by refine .cons ?_ (.cons ?_ (.cons ?_ .nil)) <;> first | exact ent_none rfl | exact ent_told rfl rfl) (by simp [npq, npr, nqr]) (by show 3 ≤ 15; decide) _ _ fun G3 d2 y2 n2 r2 => ?_
      refine fun d3 n3 => ?_
      have y3 := Ext.new n3 (o := .dK [])
      have r3 : RowAt (upd G3 d3 (.dK [])) d3 [] := ⟨[], upd_same, .nil⟩
      refine ⟨by show 4 ≤ sizeLine; decide, fun L nL => ⟨by show 2 ≤ sizeLine; decide, fun En nE => ⟨by show 3 ≤ sizeLine; decide, fun M nM => ?_⟩⟩⟩
      obtain ⟨_, k0, _⟩ := id r0
      obtain ⟨_, k1, _⟩ := id r1
      obtain ⟨_, k2, _⟩ := id r2
      obtain ⟨_, k3, _⟩ := id r3
      have a01 : ¬ d0 = d1 := fun e => by rw [← e, k0] at n1; cases n1
      have a02 : ¬ d0 = d2 := fun e => by rw [← e, y1 _ _ k0] at n2; cases n2
      have a12 : ¬ d1 = d2 := fun e => by rw [← e, k1] at n2; cases n2
      have a03 : ¬ d0 = d3 := fun e => by rw [← e, (y1.trans y2) _ _ k0] at n3; cases n3
      have a13 : ¬ d1 = d3 := fun e => by rw [← e, y2 _ _ k1] at n3; cases n3
      have a23 : ¬ d2 = d3 := fun e => by rw [← e, k2] at n3; cases n3
      refine fam_end (ds := [d0, d1, d2, d3]) (rows := [[(p, ((0 : Int), some ta)), (q, ((1 : Int), some ta)), (r, ((2 : Int), some ma))], [(r, ((2 : Int), some ma))], [(p, ((2 : Int), some tb)), (q, ((3 : Int), some tb)), (r, ((3 : Int), some mb))], []]) (ns := [2, 3]) (b := 0) (x3.trans (((y0.trans y1).trans y2).trans y3)) (.cons (r0.ext ((y1.trans y2).trans y3)) (.cons (r1.ext (y2.trans y3)) (.cons (r2.ext y3) (.cons r3 .nil)))) (by simp [a01, (show ¬ d1 = d0 from fun e => a01 e.symm), a02, (show ¬ d2 = d0 from fun e => a02 e.symm), a12, (show ¬ d2 = d1 from fun e => a12 e.symm), a03, (show ¬ d3 = d0 from fun e => a03 e.symm), a13, (show ¬ d3 = d1 from fun e => a13 e.symm), a23, (show ¬ d3 = d2 from fun e => a23 e.symm)]) (fun d hd => ?_) nL nE nM ⟨by show 1 ≤ 4; decide, by show 4 ≤ 4; decide, (fun r hr => by
        simp only [List.mem_cons, List.not_mem_nil, or_false] at hr
        rcases hr with rfl | rfl | rfl | rfl
        · exact (rowOver_cons (fun h => (List.mem_cons.mp h).elim npq fun h => npr (List.mem_singleton.mp h)) ip ⟨by decide, by show (0 : Int) < 4; decide⟩ (fun y e => by cases e; exact ia) (rowOver_cons (fun h => nqr (List.mem_singleton.mp h)) iq ⟨by decide, by show (1 : Int) < 4; decide⟩ (fun y e => by cases e; exact ia) (rowOver_cons (fun h => nomatch h) ir ⟨by decide, by show (2 : Int) < 4; decide⟩ (fun y e => by cases e; exact im) rowOver_nil)))
        · exact (rowOver_cons (fun h => nomatch h) ir ⟨by decide, by show (2 : Int) < 4; decide⟩ (fun y e => by cases e; exact im) rowOver_nil)
        · exact (rowOver_cons (fun h => (List.mem_cons.mp h).elim npq fun h => npr (List.mem_singleton.mp h)) ip ⟨by decide, by show (2 : Int) < 4; decide⟩ (fun y e => by cases e; exact ib) (rowOver_cons (fun h => nqr (List.mem_singleton.mp h)) iq ⟨by decide, by show (3 : Int) < 4; decide⟩ (fun y e => by cases e; exact ib) (rowOver_cons (fun h => nomatch h) ir ⟨by decide, by show (3 : Int) < 4; decide⟩ (fun y e => by cases e; exact i_n) rowOver_nil)))
        · exact rowOver_nil), by decide, by show 2 ≤ 4; decide, (by show ∀ i ∈ ([2, 3] : List Int), 0 ≤ i ∧ i < 4; decide), by decide, by show (0 : Int) < 4; decide⟩ k
      simp only [List.mem_cons, List.not_mem_nil, or_false] at hd
      rcases hd with rfl | rfl | rfl | rfl
      · exact x3.free n0
      · exact (x3.trans y0).free n1
      · exact (x3.trans (y0.trans y1)).free n2
      · exact (x3.trans ((y0.trans y1).trans y2)).free n3
    refine ⟨_, rfl, rfl, _, rfl, ?_⟩
    refine ite2 (fun _ => ?_) (fun _ => ?_)
    · try dsimp only [tNext, tSeq, tAsg, gName, tRet, tTup, tLst, tCons, tNil]
      refine disp_row (r := [(p, ((1 : Int), some ta)), (q, ((2 : Int), some ta))]) (by refine .cons ?_ (.cons ?_ .nil) <;> first | exact ent_none rfl | exact ent_told rfl rfl) (by simp [npq, npr, nqr]) (by show 2 ≤ 15; decide) _ _ fun G1 d0 y0 n0 r0 => ?_
      try dsimp only [tNext, tSeq, tAsg, gName, tRet, tTup, tLst, tCons, tNil]
      refine disp_row (r := [(p, ((2 : Int), some ta)), (r, ((0 : Int), some ma))]) (by refine .cons ?_ (.cons ?_ .nil) <;> first | exact ent_none rfl | exact ent_told rfl rfl) (by simp [npq, npr, nqr]) (by show 2 ≤ 15; decide) _ _ fun G2 d1 y1 n1 r1 => ?_
      try dsimp only [tNext, tSeq, tAsg, gName, tRet, tTup, tLst, tCons, tNil]
      refine disp_row (r := [(p, ((1 : Int), some ta)), (q, ((1 : Int), some tb))]) (by refine .cons ?_ (.cons ?_ .nil) <;> first | exact ent_none rfl | exact ent_told rfl rfl) (by simp [npq, npr, nqr]) (by show 2 ≤ 15; decide) _ _ fun G3 d2 y2 n2 r2 => ?_
      refine ⟨by show 3 ≤ sizeLine; decide, fun L nL => ⟨by show 2 ≤ sizeLine; decide, fun En nE => ⟨by show 3 ≤ sizeLine; decide, fun M nM => ?_⟩⟩⟩
      obtain ⟨_, k0, _⟩ := id r0
      obtain ⟨_, k1, _⟩ := id r1
      obtain ⟨_, k2, _⟩ := id r2
      have a01 : ¬ d0 = d1 := fun e => by rw [← e, k0] at n1; cases n1
      have a02 : ¬ d0 = d2 := fun e => by rw [← e, y1 _ _ k0] at n2; cases n2
      have a12 : ¬ d1 = d2 := fun e => by rw [← e, k1] at n2; cases n2
      refine fam_end (ds := [d0, d1, d2]) (rows := [[(p, ((1 : Int), some ta)), (q, ((2 : Int), some ta))], [(p, ((2 : Int), some ta)), (r, ((0 : Int), some ma))], [(p, ((1 : Int), some ta)), (q, ((1 : Int), some tb))]]) (ns := [0, 1]) (b := 0) (x3.trans ((y0.trans y1).trans y2)) (.cons (r0.ext (y1.trans y2)) (.cons (r1.ext y2) (.cons r2 .nil))) (by simp [a01, (show ¬ d1 = d0 from fun e => a01 e.symm), a02, (show ¬ d2 = d0 from fun e => a02 e.symm), a12, (show ¬ d2 = d1 from fun e => a12 e.symm)]) (fun d hd => ?_) nL nE nM ⟨by show 1 ≤ 3; decide, by show 3 ≤ 4; decide, (fun r hr => by
        simp only [List.mem_cons, List.not_mem_nil, or_false] at hr
        rcases hr with rfl | rfl | rfl
        · exact (rowOver_cons (fun h => npq (List.mem_singleton.mp h)) ip ⟨by decide, by show (1 : Int) < 3; decide⟩ (fun y e => by cases e; exact ia) (rowOver_cons (fun h => nomatch h) iq ⟨by decide, by show (2 : Int) < 3; decide⟩ (fun y e => by cases e; exact ia) rowOver_nil))
        · exact (rowOver_cons (fun h => npr (List.mem_singleton.mp h)) ip ⟨by decide, by show (2 : Int) < 3; decide⟩ (fun y e => by cases e; exact ia) (rowOver_cons (fun h => nomatch h) ir ⟨by decide, by show (0 : Int) < 3; decide⟩ (fun y e => by cases e; exact im) rowOver_nil))
        · exact (rowOver_cons (fun h => npq (List.mem_singleton.mp h)) ip ⟨by decide, by show (1 : Int) < 3; decide⟩ (fun y e => by cases e; exact ia) (rowOver_cons (fun h => nomatch h) iq ⟨by decide, by show (1 : Int) < 3; decide⟩ (fun y e => by cases e; exact ib) rowOver_nil))), by decide, by show 2 ≤ 4; decide, (by show ∀ i ∈ ([0, 1] : List Int), 0 ≤ i ∧ i < 3; decide), by decide, by show (0 : Int) < 3; decide⟩ k
      simp only [List.mem_cons, List.not_mem_nil, or_false] at hd
      rcases hd with rfl | rfl | rfl
      · exact x3.free n0
      · exact (x3.trans y0).free n1
      · exact (x3.trans (y0.trans y1)).free n2
    try dsimp only [tNext, tSeq, tAsg, gName, tRet, tTup, tLst, tCons, tNil]
    refine disp_row (r := [(p, ((1 : Int), none)), (q, ((2 : Int), some ma))]) (by refine .cons ?_ (.cons ?_ .nil) <;> first | exact ent_none rfl | exact ent_told rfl rfl) (by simp [npq, npr, nqr]) (by show 2 ≤ 15; decide) _ _ fun G1 d0 y0 n0 r0 => ?_
    try dsimp only [tNext, tSeq, tAsg, gName, tRet, tTup, tLst, tCons, tNil]
    refine disp_row (r := [(p, ((0 : Int), some ta)), (q, ((0 : Int), some tb))]) (by refine .cons ?_ (.cons ?_ .nil) <;> first | exact ent_none rfl | exact ent_told rfl rfl) (by simp [npq, npr, nqr]) (by show 2 ≤ 15; decide) _ _ fun G2 d1 y1 n1 r1 => ?_
    try dsimp only [tNext, tSeq, tAsg, gName, tRet, tTup, tLst, tCons, tNil]
    refine disp_row (r := [(p, ((2 : Int), none)), (r, ((0 : Int), some mb))]) (by refine .cons ?_ (.cons ?_ .nil) <;> first | exact ent_none rfl | exact ent_told rfl rfl) (by simp [npq, npr, nqr]) (by show 2 ≤ 15; decide) _ _ fun G3 d2 y2 n2 r2 => ?_
    refine ⟨by show 3 ≤ sizeLine; decide, fun L nL => ⟨by show 2 ≤ sizeLine; decide, fun En nE => ⟨by show 3 ≤ sizeLine; decide, fun M nM => ?_⟩⟩⟩
    obtain ⟨_, k0, _⟩ := id r0
    obtain ⟨_, k1, _⟩ := id r1
    obtain ⟨_, k2, _⟩ := id r2
    have a01 : ¬ d0 = d1 := fun e => by rw [← e, k0] at n1; cases n1
    have a02 : ¬ d0 = d2 := fun e => by rw [← e, y1 _ _ k0] at n2; cases n2
    have a12 : ¬ d1 = d2 := fun e => by rw [← e, k1] at n2; cases n2
    refine fam_end (ds := [d0, d1, d2]) (rows := [[(p, ((1 : Int), none)), (q, ((2 : Int), some ma))], [(p, ((0 : Int), some ta)), (q, ((0 : Int), some tb))], [(p, ((2 : Int), none)), (r, ((0 : Int), some mb))]]) (ns := [0, 2]) (b := 0) (x3.trans ((y0.trans y1).trans y2)) (.cons (r0.ext (y1.trans y2)) (.cons (r1.ext y2) (.cons r2 .nil))) (by simp [a01, (show ¬ d1 = d0 from fun e => a01 e.symm), a02, (show ¬ d2 = d0 from fun e => a02 e.symm), a12, (show ¬ d2 = d1 from fun e => a12 e.symm)]) (fun d hd => ?_) nL nE nM ⟨by show 1 ≤ 3; decide, by show 3 ≤ 4; decide, (fun r hr => by
        simp only [List.mem_cons, List.not_mem_nil, or_false] at hr
        rcases hr with rfl | rfl | rfl
        · exact (rowOver_cons (fun h => npq (List.mem_singleton.mp h)) ip ⟨by decide, by show (1 : Int) < 3; decide⟩ (fun y e => by cases e) (rowOver_cons (fun h => nomatch h) iq ⟨by decide, by show (2 : Int) < 3; decide⟩ (fun y e => by cases e; exact im) rowOver_nil))
        · exact (rowOver_cons (fun h => npq (List.mem_singleton.mp h)) ip ⟨by decide, by show (0 : Int) < 3; decide⟩ (fun y e => by cases e; exact ia) (rowOver_cons (fun h => nomatch h) iq ⟨by decide, by show (0 : Int) < 3; decide⟩ (fun y e => by cases e; exact ib) rowOver_nil))
        · exact (rowOver_cons (fun h => npr (List.mem_singleton.mp h)) ip ⟨by decide, by show (2 : Int) < 3; decide⟩ (fun y e => by cases e) (rowOver_cons (fun h => nomatch h) ir ⟨by decide, by show (0 : Int) < 3; decide⟩ (fun y e => by cases e; exact i_n) rowOver_nil))), by decide, by show 2 ≤ 4; decide, (by show ∀ i ∈ ([0, 2] : List Int), 0 ≤ i ∧ i < 3; decide), by decide, by show (0 : Int) < 3; decide⟩ k
    simp only [List.mem_cons, List.not_mem_nil, or_false] at hd
    rcases hd with rfl | rfl | rfl
    · exact x3.free n0
    · exact (x3.trans y0).free n1
    · exact (x3.trans (y0.trans y1)).free n2
end
end Sl
/-! ## P19 -/
set_option Elab.async false
set_option linter.all false
set_option maxRecDepth 100000
set_option maxHeartbeats 4000000
namespace Sl
open PySem PySem.Spec PyProof.Rows L2 TxS
abbrev sBent : Stmt := top 31
def putE {α : Type} (l : List (Str × α)) (z : Str) (x : α) : List (Str × α) := if z ∈ l.map (·.1) then l.map (fun e => if e.1 = z then (e.1, x) else e) else l ++ [(z, x)]
theorem any_keys (es : List (Str × Addr)) (z : Str) : ((kvsOf es).any fun kv => decide (kv.1 = (Sum.inr z : Key))) = decide (z ∈ es.map (·.1)) := by
  induction es with
  | nil => rfl
  | cons e es ih =>
    show (decide ((Sum.inr e.1 : Key) = Sum.inr z) || (kvsOf es).any _) = _
    rw [ih, Bool.eq_iff_iff, Bool.or_eq_true, decide_eq_true_eq, decide_eq_true_eq, decide_eq_true_eq, List.map_cons, List.mem_cons]
    exact or_congr ⟨fun k => by injection k with k; exact k.symm, fun k => by rw [k]⟩ Iff.rfl
theorem put_kvs (es : List (Str × Addr)) (z : Str) (T : Addr) : putK (kvsOf es) (Sum.inr z : Key) (.ref T) = kvsOf (putE es z T) := by
  unfold putK putE
  rw [any_keys]
  by_cases c : z ∈ es.map (·.1)
  · rw [decide_eq_true c, if_pos rfl, if_pos c]
    unfold kvsOf
    rw [List.map_map, List.map_map]
    refine List.map_congr_left fun e _ => ?_
    show (if (Sum.inr e.1 : Key) = Sum.inr z then _ else _) = _
    by_cases k : e.1 = z
    · rw [if_pos (by rw [k])]
      show _ = (Sum.inr (if e.1 = z then (e.1, T) else e).1, V.ref (if e.1 = z then (e.1, T) else e).2)
      rw [if_pos k]
    · rw [if_neg (fun q => k (by injection q))]
      show _ = (Sum.inr (if e.1 = z then (e.1, T) else e).1, V.ref (if e.1 = z then (e.1, T) else e).2)
      rw [if_neg k]
  · rw [decide_eq_false c, if_neg Bool.false_ne_true, if_neg c]
    unfold kvsOf
    rw [List.map_append]
    rfl
theorem Ents.put {H : Hp} {es : List (Str × Addr)} {r : Rw} {z : Str} {T : Addr} {m : Mv} (h : Ents H es r) (hT : MvAt H T m) : Ents H (putE es z T) (putE r z m) := by
  unfold putE
  rw [h.keys]
  by_cases c : z ∈ r.map (·.1)
  · rw [if_pos c, if_pos c]
    clear c
    induction h with
    | nil => exact .nil
    | cons a b ih =>
      rename_i z' t' m' es' r'
      by_cases k : z' = z
      · rw [List.map_cons, List.map_cons, if_pos k, if_pos k]
        exact .cons hT ih
      · rw [List.map_cons, List.map_cons, if_neg k, if_neg k]
        exact .cons a ih
  · rw [if_neg c, if_neg c]
    exact h.snoc hT
theorem Ents.drop {H : Hp} {z : Str} : ∀ {es : List (Str × Addr)} {r : Rw}, Ents H es r → Ents H (es.filter fun e => decide (e.1 ≠ z)) (r.filter fun e => decide (e.1 ≠ z))
  | _, _, .nil => .nil
  | _, _, .cons (z := y) a b => by
    by_cases k : y = z
    · rw [List.filter_cons_of_neg (by simp [k]), List.filter_cons_of_neg (by simp [k])]
      exact b.drop
    · rw [List.filter_cons_of_pos (by simp [k]), List.filter_cons_of_pos (by simp [k])]
      exact .cons a b.drop
theorem drop_kvs (es : List (Str × Addr)) (z : Str) : dropK (kvsOf es) (Sum.inr z : Key) = kvsOf (es.filter fun e => decide (e.1 ≠ z)) := by
  unfold dropK kvsOf
  rw [List.filter_map]
  congr 1
  refine List.filter_congr fun e _ => ?_
  show decide ((Sum.inr e.1 : Key) ≠ Sum.inr z) = decide (e.1 ≠ z)
  exact decide_eq_decide.mpr ⟨fun h k => h (by rw [k]), fun h k => h (by injection k)⟩
theorem rowOver.put {paper names : List Str} {n : Int} {r : Rw} {z : Str} {m : Mv} (h : rowOver paper names n r) (hz : z ∈ paper) (hm : (0 ≤ m.1 ∧ m.1 < n) ∧ ∀ y, m.2 = some y → y ∈ names) : rowOver paper names n (putE r z m) := by
  unfold putE
  by_cases c : z ∈ r.map (·.1)
  · rw [if_pos c]
    refine ⟨?_, fun e he => ?_⟩
    · rw [List.map_map]
      have e : (r.map ((·.1) ∘ fun e => if e.1 = z then (e.1, m) else e)) = r.map (·.1) := List.map_congr_left fun e _ => by
        show (if e.1 = z then (e.1, m) else e).1 = e.1
        by_cases k : e.1 = z
        · rw [if_pos k]
        · rw [if_neg k]
      rw [e]
      exact h.1
    · obtain ⟨e0, h0, rfl⟩ := List.mem_map.mp he
      by_cases k : e0.1 = z
      · rw [if_pos k]
        exact ⟨(h.2 e0 h0).1, hm⟩
      · rw [if_neg k]
        exact h.2 e0 h0
  · rw [if_neg c]
    refine ⟨?_, fun e he => ?_⟩
    · rw [List.map_append]
      exact List.nodup_append.mpr ⟨h.1, by simp, fun p hp q hq e => c (by
        have e0 : q = z := List.mem_singleton.mp hq
        rw [← e0, ← e]
        exact hp)⟩
    · rcases List.mem_append.mp he with q | q
      · exact h.2 e q
      · rw [List.mem_singleton.mp q]
        exact ⟨hz, hm⟩
theorem rowOver.drop {paper names : List Str} {n : Int} {r : Rw} {z : Str} (h : rowOver paper names n r) : rowOver paper names n (r.filter fun e => decide (e.1 ≠ z)) :=
  ⟨(List.filter_sublist.map _).nodup h.1, fun e he => h.2 e (List.mem_filter.mp he).1⟩
theorem put_len (r : Rw) (z : Str) (m : Mv) : (putE r z m).length ≤ r.length + 1 := by
  unfold putE
  split
  · rw [List.length_map]
    omega
  · rw [List.length_append]
    exact Nat.le_refl _
theorem RowsAt.others {H H' : Hp} {d : Addr} (ht : ∀ t xs, H t = some (.tup xs) → H' t = some (.tup xs)) (he : ∀ b, b ≠ d → ∀ kvs, H b = some (.dK kvs) → H' b = some (.dK kvs)) : ∀ {ds : List Addr} {rows : List Rw}, RowsAt H ds rows → d ∉ ds → RowsAt H' ds rows
  | _, _, .nil, _ => .nil
  | _, _, .cons (d := d0) ⟨es, a1, a2⟩ b, n => .cons ⟨es, he d0 (fun e => n (by rw [e]; exact List.mem_cons_self)) _ a1, a2.ext ht⟩ (RowsAt.others ht he b fun m => n (List.mem_cons_of_mem _ m))
/-- one row changed -/
theorem RowsAt.set {H H' : Hp} {d : Addr} {r' : Rw} (ht : ∀ t xs, H t = some (.tup xs) → H' t = some (.tup xs)) (he : ∀ b, b ≠ d → ∀ kvs, H b = some (.dK kvs) → H' b = some (.dK kvs)) (hd : RowAt H' d r') : ∀ {ds : List Addr} {rows : List Rw} {j : Nat}, RowsAt H ds rows → ds.Nodup → ds[j]? = some d → RowsAt H' ds (rows.set j r')
  | _, _, _, .nil, _, q => by cases q
  | _, _, 0, .cons a b, nd, q => by
    cases q
    obtain ⟨n1, n2⟩ := List.nodup_cons.mp nd
    refine .cons hd ?_
    exact b.others ht he n1
  | _, _, j + 1, .cons (d := d0) (ds := ds0) ⟨es, a1, a2⟩ b, nd, q => by
    obtain ⟨n1, n2⟩ := List.nodup_cons.mp nd
    have hm := List.mem_of_getElem? (show ds0[j]? = some d from q)
    exact .cons ⟨es, he d0 (fun e => n1 (by rw [e]; exact hm)) _ a1, a2.ext ht⟩ (RowsAt.set ht he hd b n2 q)
def rDictD : List V → Hp → VK → Prop := fun xs H Q => ∃ (a : Addr) (kvs : List (Key × V)), xs = [V.ref a] ∧ Rd H a (.dK kvs) ∧ ∀ p, H p = none → Q (.ref p) (upd H p (.dK kvs))
def spBent : Sp := fun vs H Q _ => ∃ (a M L E Pa Te Ma : Addr) (ds : List Addr) (rows : List Rw) (ns : List Int) (b : Int) (paper tells marks : List Str), vs = [.ref a, .ref M, .ref Pa, .ref Te, .ref Ma] ∧ Rng H a ∧ ModelAt H M L E ds rows ns b ∧ L ≠ a ∧ E ≠ a ∧ okModel 4 paper (tells ++ marks) rows ns b ∧
  Lsts H a Pa Te Ma paper tells marks ∧ spModelOut 4 a paper (tells ++ marks) H Q
theorem row_len {paper names : List Str} {n : Int} {r : Rw} (h : rowOver paper names n r) (hp : paper.length ≤ 6) : r.length ≤ 6 := by
  have q := len_le h.1 (A := paper) fun z hz => by
    obtain ⟨e, he, rfl⟩ := List.mem_map.mp hz
    exact (h.2 e he).1
  rw [List.length_map] at q
  omega
section
variable {P : Program} {w : World} {K : PySem.W.Frag} {mg : Str → Option Value} {base : Heap}
theorem scBent : FnScope ["_law_rng_here", "_law_model", "_law_paper", "_law_tells_here", "_law_marks_here", "_law_rows", "_law_at", "_law_letter", "_law_line"] ["_law_rng_here", "_law_model", "_law_paper", "_law_tells_here", "_law_marks_here"] (defScope sBent) := ⟨rfl, rfl, rfl, by decide +kernel, rfl, by decide +kernel, by decide +kernel⟩
theorem ok_bent {f fD fC : Addr} {fd fdD fdC : FuncData} (F : Fun K "_law_bent" "_law_bent" sBent f fd) (aD : At K mg "_law_draw" fD fdD ["_law_rng_here", "_law_many"] []) (gD : FnOk P w K mg base CX0 1 fD fdD ["_law_rng_here", "_law_many"] spDraw)
    (aC : At K mg "_law_choice" fC fdC ["_law_rng_here", "_law_some"] []) (gC : FnOk P w K mg base CX0 2 fC fdC ["_law_rng_here", "_law_some"] spChoice) (zd : mg "dict" = none) (zn : mg "len" = none) (zl : mg "list" = none) :
    FnOk P w K mg base CX0 3 f fd ["_law_rng_here", "_law_model", "_law_paper", "_law_tells_here", "_law_marks_here"] spBent := by
  refine F.ok scBent (fun vs H Q E h => ?_) (fun cdv A0 outer s H vs Q E0 hr h => ?_)
  · obtain ⟨a, M, L, E', Pa, Te, Ma, ds, rows, ns, b, paper, tells, marks, rfl, _⟩ := h
    rfl
  · obtain ⟨a, M, L, En, Pa, Te, Ma, ds, rows, ns, b, paper, tells, marks, rfl, hR, hM, nLa, nEa, ok, hl, k⟩ := h
    have hr1 : Room 1 _ := hr.mono (by decide)
    have hu := hu_of hr
    refine ⟨_, pss_cons (ps_setLc (i := 5) (own := [("_law_line", 8)]) (g := gName 8) (tt := tYes) (te := tCB rDictD (tCons (tVar 8) tNil)) rfl scBent.nd rfl rfl (sw_true rfl rfl rfl (by decide +kernel)) (pi_list (pe_ix ix_tup (pv 1) pe_int (fun _ _ => rfl))) (blkOk_by (N := ["_law_rng_here", "_law_model", "_law_paper", "_law_tells_here", "_law_marks_here", "_law_rows", "_law_at", "_law_letter", "_law_line"]) (sc := defScope sBent) (by decide +kernel))
          (fun _ _ _ _ _ => pg_name (i := 8) scBent.nd rfl (Or.inl rfl)) (fun _ _ _ _ _ => pts_nil) (fun _ _ _ _ _ => pe_callTy (T := "dict") (r := rDictD) call_dictD (by rfl) zd (by decide +kernel) (pa_cons (pv 8) pa_nil)))
      (pss_cons (ps_par (i := 6) (j := 7) (by rfl) scBent.nd rfl rfl (by decide) rfl rfl (pa_cons (pe_call gD hr1 (by rfl) aD.g aD.kp aD.b .nil pass0 (pa_cons (pv 0) (pa_cons (pe_callB call_len_seq (by rfl) zn PySem.boot_len (pa_cons (pv 5) pa_nil)) pa_nil))) (pa_cons (pe_call gC hr (by rfl) aC.g aC.kp aC.b .nil pass0 (pa_cons (pv 0) (pa_cons (pv 2) pa_nil))) pa_nil)) (by rfl))
      (pss_cons (ps_dput hu (pe_ix ix_list (pv 5) (pv 6) (fun _ _ => rfl)) (pv 7) (pe_tup (pa_cons (pe_call gD hr1 (by rfl) aD.g aD.kp aD.b .nil pass0 (pa_cons (pv 0) (pa_cons (pe_callB call_len_seq (by rfl) zn PySem.boot_len (pa_cons (pv 5) pa_nil)) pa_nil)))
          (pa_cons (pe_call gC hr (by rfl) aC.g aC.kp aC.b .nil pass0 (pa_cons (pv 0) (pa_cons (pe_op op_cat (pe_op op_cat (pe_lst (pa_cons pe_non pa_nil)) (pv 3)) (pv 4)) pa_nil))) pa_nil))) rfl)
      (pss_cons (ps_if (pt_cmpR op_eq (pe_call gD hr1 (by rfl) aD.g aD.kp aD.b .nil pass0 (pa_cons (pv 0) (pa_cons pe_int pa_nil))) pe_int (nomark _)) (pss_one (ps_expr (pe_dpop1 (pe_ix ix_list (pv 5) (pv 6) (fun _ _ => rfl)) (pv 7) ⟨rfl, rfl, rfl, rfl⟩))) pss_nil)
      (pss_one (ps_ret (pe_tup (pa_cons (pv 5) (pa_cons (pe_callTy call_list_of (by rfl) zl (by decide +kernel) (pa_cons (pe_ix ix_tup (pv 1) pe_int (fun _ _ => rfl)) pa_nil)) (pa_cons (pe_ix ix_tup (pv 1) pe_int (fun _ _ => rfl)) pa_nil))))))))), ?_⟩
    have ph := hl.nd
    have plo := hl.lp
    have phi := hl.lp2
    have tl2 := hl.lt2
    have ml2 := hl.lm2
    have rhi := ok.hi
    have rlo := ok.lo
    -- the rows again
    refine ⟨_, rfl, M, _, _, .ref L, rfl, rfl, SqT.of hM.h1, atI_nat (j := 0) rfl, L, rfl, ⟨_, SqL.of hM.h2⟩, fun L2 nL2 => ?_⟩
    refine lc_it (walk_list (xs := ds.map V.ref)) (fun i H' => Ext H H' ∧ ∃ ds', H' L2 = some (.lst (ds'.map V.ref)) ∧ RowsAt H' ds' (rows.take i) ∧ ds'.Nodup ∧ (∀ d ∈ ds', H d = none)) ⟨Ext.new nL2, [], upd_same, .nil, List.nodup_nil, fun d h => nomatch h⟩ (fun i H' _ h => SqL.of (h.1 _ _ hM.h2)) ?_ ?_
    · rintro i x H1' H1 hi ⟨x1, ds', l1, w1, nd1, f1⟩ ⟨rfl, hx⟩
      obtain ⟨d, hd, rfl⟩ := at_map hx
      obtain ⟨r, hri, es, he1, he2⟩ := hM.h3.at_ hd
      have hil : i < rows.length := (List.getElem?_eq_some_iff.mp hri).1
      refine ⟨rfl, _, rfl, d, _, rfl, Rd.of (x1 _ _ he1), fun p np => ?_⟩
      have xp : Ext H1 (upd H1 p (.dK (kvsOf es))) := Ext.new np
      have lp1 := xp _ _ l1
      have w2 := w1.ext xp
      have ld : ds'.length = i := by
        rw [w1.len, List.length_take]
        omega
      refine ⟨_, lp1, by rw [List.length_map]; exact small_list (by omega), fun b' o e => by rw [upd_ne (ne_of_none e nL2)]; exact xp _ _ (x1 _ _ e), ds' ++ [p], by rw [upd_same, List.map_append]; rfl, ?_, ?_, fun d' hd' => ?_⟩
      · rw [take_more hri]
        refine RowsAt.snoc ?_ ?_
        · refine RowAt.same (H := upd H1 p (.dK (kvsOf es))) ⟨es, upd_same, he2.ext fun t xs e => xp _ _ (x1 _ _ e)⟩ (upd_ne (fun e => by rw [e, l1] at np; cases np)) fun t xs e => ?_
          rw [upd_ne (ne_of e lp1 (by intro q; cases q))]
          exact e
        · refine w2.keepN Keep.at_ (fun xs e => by rw [lp1] at e; cases e) fun hm => ?_
          obtain ⟨kvs, e⟩ := w2.mem hm
          rw [lp1] at e
          cases e
      · refine List.nodup_append.mpr ⟨nd1, by simp, fun p1 hp1 q hq e => ?_⟩
        obtain ⟨kvs, e'⟩ := w1.mem hp1
        rw [e, List.mem_singleton.mp hq, np] at e'
        cases e'
      · rcases List.mem_append.mp hd' with c | c
        · exact f1 d' c
        · rw [List.mem_singleton.mp c]
          exact x1.free np
    rintro H1 ⟨x1, ds', l1, w1, nd1, f1⟩
    rw [List.length_map, hM.h3.len, List.take_length] at w1
    have ld : ds'.length = rows.length := w1.len
    have r1 := hR.ext x1
    have nL2a : L2 ≠ a := hR.new nL2
    have nda : ∀ d ∈ ds', d ≠ a := fun d hd => hR.new (f1 d hd)
    -- _law_at, _law_letter
    refine ⟨_, rfl, _, rfl, L2, _, rfl, .inl (SqL.of l1), a, _, rfl, r1, by rw [List.length_map]; omega, by rw [List.length_map]; omega, fun d0 H2 e0 e1 r2 k2 => ?_⟩
    rw [List.length_map, ld] at e1
    obtain ⟨j, rfl⟩ : ∃ j : Nat, d0 = (j : Int) := ⟨d0.toNat, by omega⟩
    have k02 : Keep a H H2 := (Keep.of x1).trans k2
    have lsA := hl.keep k02
    refine ⟨_, rfl, _, rfl, a, Pa, _, rfl, r2, lsA.p, hl.pa, by rw [List.length_map]; omega, by rw [List.length_map]; omega, fun i v H3 hv r3 k3 => ?_⟩
    obtain ⟨z, hz, rfl⟩ := at_map hv
    have hzp := List.mem_of_getElem? hz
    refine ⟨_, _, rfl, ?_⟩
    have k03 := k02.trans k3
    have k13 := k2.trans k3
    have l3 := k13 _ _ l1 nL2a
    have lsB := hl.keep k03
    -- the move
    refine ⟨_, rfl, _, rfl, L2, _, rfl, .inl (SqL.of l3), a, _, rfl, r3, by rw [List.length_map]; omega, by rw [List.length_map]; omega, fun g H4 g0 g1 r4 k4 => ?_⟩
    rw [List.length_map, ld] at g1
    have ls4 := lsB.keep k4
    refine ⟨_, rfl, by show 1 ≤ sizeLine; decide, fun p1 np1 => ⟨_, rfl, p1, Te, _, _, rfl, rfl, upd_same, (Ext.new np1) _ _ ls4.t, by rw [List.length_map]; exact small_size (by show 1 + tells.length ≤ 10000; omega), fun p2 np2 => ⟨_, rfl, p2, Ma, _, _, rfl, rfl, upd_same, (Ext.new np2) _ _ ((Ext.new np1) _ _ ls4.m), ?_, fun p3 np3 => ?_⟩⟩⟩
    · rw [List.length_append, List.length_map, List.length_map]
      exact small_size (by show 1 + tells.length + marks.length ≤ 10000; omega)
    have x5 : Ext H4 (upd (upd (upd H4 p1 (.lst [V.non])) p2 (.lst ([V.non] ++ tells.map V.str))) p3 (.lst ([V.non] ++ tells.map V.str ++ marks.map V.str))) := ((Ext.new np1).trans (Ext.new np2)).trans (Ext.new np3)
    have c5 : (upd (upd (upd H4 p1 (.lst [V.non])) p2 (.lst ([V.non] ++ tells.map V.str))) p3 (.lst ([V.non] ++ tells.map V.str ++ marks.map V.str))) p3 = some (.lst ([V.non] ++ tells.map V.str ++ marks.map V.str)) := upd_same
    generalize upd (upd (upd H4 p1 (.lst [V.non])) p2 (.lst ([V.non] ++ tells.map V.str))) p3 (.lst ([V.non] ++ tells.map V.str ++ marks.map V.str)) = H5 at x5 c5 ⊢
    have el : ([V.non] ++ tells.map V.str ++ marks.map V.str) = V.non :: ((tells ++ marks).map V.str) := by
      rw [List.map_append, List.append_assoc]
      rfl
    rw [el] at c5
    have r5 := r4.ext x5
    refine ⟨a, p3, _, rfl, r5, c5, r5.lst c5 (fun x y e => by injection e with e1 e2; cases e1), Nat.succ_pos _, by rw [List.length_cons, List.length_map, List.length_append]; omega, fun t told H6 ht r6 k6 => ?_⟩
    obtain ⟨o, rfl, ho⟩ : ∃ o : Option Str, told = toldV o ∧ ∀ y, o = some y → y ∈ tells ++ marks := by
      cases t with
      | zero =>
        cases ht
        exact ⟨none, rfl, fun y e => by cases e⟩
      | succ t =>
        obtain ⟨y, hy, rfl⟩ := at_map (show ((tells ++ marks).map V.str)[t]? = some told from ht)
        exact ⟨some y, rfl, fun y' e => by cases e; exact List.mem_of_getElem? hy⟩
    refine ⟨by show 2 ≤ sizeLine; decide, fun T nT => ?_⟩
    have k16 : Keep a H1 (upd H6 T (.tup [.int g, toldV o])) := ((((k13.trans k4).trans (Keep.of x5)).trans k6)).trans (Keep.of (Ext.new nT))
    have l6 := k16 _ _ l1 nL2a
    have hT : (upd H6 T (.tup [.int g, toldV o])) T = some (.tup [.int g, toldV o]) := upd_same
    have r6' := r6.upd (o := .tup [.int g, toldV o]) (r6.new nT)
    have w6 : RowsAt (upd H6 T (.tup [.int g, toldV o])) ds' rows := w1.keepN k16 r1.notup fun hm => nda a hm rfl
    generalize upd H6 T (.tup [.int g, toldV o]) = H7 at k16 l6 hT r6' w6 ⊢
    have hj : j < ds'.length := by omega
    have hdj : ds'[j]? = some ds'[j] := List.getElem?_eq_getElem hj
    obtain ⟨r, hrj, es, hd, he⟩ := w6.at_ hdj
    have hrm := List.mem_of_getElem? hrj
    have okr := ok.rw_ r hrm
    have rl6 := row_len okr phi
    have hat : atI (ds'.map V.ref) (j : Int) = some (.ref ds'[j]) := atI_nat (by rw [List.getElem?_map, hdj]; rfl)
    refine ⟨_, rfl, _, rfl, L2, _, _, _, rfl, rfl, SqL.of l6, hat, _, rfl, ds'[j], _, rfl, DPut.k (k := Sum.inr z) hd (by unfold kvsOf; rw [List.length_map, he.len]; exact small_list (by omega)), ?_⟩
    rw [put_kvs]
    -- what follows from any row in its place
    have nLd : L2 ≠ ds'[j] := ne_of l6 hd (by intro q; cases q)
    have nTd : T ≠ ds'[j] := ne_of hT hd (by intro q; cases q)
    have ndj : ds'[j] ≠ a := nda _ (List.getElem_mem hj)
    have okp : rowOver paper (tells ++ marks) rows.length (putE r z (g, o)) := okr.put hzp ⟨⟨g0, g1⟩, ho⟩
    have fin : ∀ (H8 : Hp) (r' : Rw) (es' : List (Str × Addr)), (∀ b o, b ≠ ds'[j] → b ≠ a → H7 b = some o → H8 b = some o) → H8 ds'[j] = some (.dK (kvsOf es')) → Ents H8 es' r' → rowOver paper (tells ++ marks) rows.length r' → Rng H8 a →
        (∀ b, H8 b = none → H b = none) →
        tRet (tTup (tCons (tVar 5) (tCons (tCB (fun xs H Q => ∃ p ys, xs = [V.ref p] ∧ (SqL K H p ys ∨ SqT K H p ys) ∧ ∀ l, H l = none → Q (.ref l) (upd H l (.lst ys))) (tCons (tOp (rIxT K) (tVar 1) (tC (.int 1))) tNil)) (tCons (tOp (rIxT K) (tVar 1) (tC (.int 2))) tNil)))) { nx := fun _ H' => Q .non H', rt := Q }
          [some (.ref a), some (.ref M), some (.ref Pa), some (.ref Te), some (.ref Ma), some (.ref L2), some (.int (j : Nat)), some (.str z), none] H8 := by
      intro H8 r' es' keep hd8 he8 ok8 r8 fr8
      have k8 : ∀ b o, H b = some o → b ≠ a → H8 b = some o := fun b o e nb => keep b o (fun q => by have := f1 _ (List.getElem_mem hj); rw [← q, e] at this; cases this) nb (k16 _ _ (x1 _ _ e) nb)
      have M8 := k8 _ _ hM.h1 (fun e => hR.notup _ (by rw [← e]; exact hM.h1))
      have E8 := k8 _ _ hM.h5 nEa
      have L8 : H8 L2 = some (.lst (ds'.map V.ref)) := keep _ _ nLd nL2a l6
      have w8 : RowsAt H8 ds' (rows.set j r') := by
        refine RowsAt.set (H := H7) (d := ds'[j]) (fun t xs e => keep t _ (ne_of e hd (by intro q; cases q)) (fun q => r6'.notup _ (by rw [← q]; exact e)) e) (fun b' nb kvs e => keep b' _ nb (fun q => r6'.nodict _ (by rw [← q]; exact e)) e) ⟨es', hd8, he8⟩ w6 nd1 hdj
      refine ⟨_, rfl, _, rfl, M, _, _, _, rfl, rfl, SqT.of M8, atI_nat (j := 1) rfl, En, _, rfl, .inl (SqL.of E8), fun E2 nE2 => ?_⟩
      have M9 := (Ext.new nE2 (o := .lst (ns.map V.int))) _ _ M8
      refine ⟨_, rfl, M, _, _, _, rfl, rfl, SqT.of M9, atI_nat (j := 2) rfl, by show 3 ≤ sizeLine; decide, fun M2 nM2 => ?_⟩
      have x9 : Ext H8 (upd (upd H8 E2 (.lst (ns.map V.int))) M2 (.tup [.ref L2, .ref E2, .int b])) := (Ext.new nE2).trans (Ext.new nM2)
      refine k _ M2 L2 E2 ds' (rows.set j r') ns b (r8.ext x9) (fun b' o e nb => x9 _ _ (k8 b' o e nb)) (fr8 _ ((Ext.new nE2).free nM2)) nL2 (fr8 _ nE2) f1 ⟨upd_same, x9 _ _ L8, w8.ext x9, nd1, (Ext.new nM2) _ _ upd_same⟩ ⟨by rw [List.length_set]; exact rlo, by rw [List.length_set]; exact rhi, fun r0 hr0 => ?_, ok.nd, ok.len, by rw [List.length_set]; exact ok.inn, ok.b0, by rw [List.length_set]; exact ok.b1⟩
      rw [List.length_set]
      rcases List.mem_or_eq_of_mem_set hr0 with c | c
      · exact ok.rw_ r0 c
      · rw [c]
        exact ok8
    have fr7 : ∀ b, H7 b = none → H b = none := fun b hb => by
      cases e : H b with
      | none => rfl
      | some o' =>
        by_cases c : b = a
        · obtain ⟨o2, h2⟩ := r6'.there
          rw [c, h2] at hb
          cases hb
        · rw [k16 _ _ (x1 _ _ e) c] at hb
          cases hb
    have ents8 : Ents (upd H7 ds'[j] (.dK (kvsOf (putE es z T)))) (putE es z T) (putE r z (g, o)) := (he.put (m := (g, o)) (show MvAt H7 T (g, o) from hT)).ext fun t xs e => by
      rw [upd_ne (ne_of e hd (by intro q; cases q))]
      exact e
    have hd8 : (upd H7 ds'[j] (.dK (kvsOf (putE es z T)))) ds'[j] = some (.dK (kvsOf (putE es z T))) := upd_same
    have keep8 : ∀ b o', b ≠ ds'[j] → H7 b = some o' → (upd H7 ds'[j] (.dK (kvsOf (putE es z T)))) b = some o' := fun b o' nb e => by
      rw [upd_ne nb]
      exact e
    have r8 := r6'.upd (o := .dK (kvsOf (putE es z T))) ndj
    have fr8 : ∀ b, (upd H7 ds'[j] (.dK (kvsOf (putE es z T)))) b = none → H b = none := fun b hb => by
      by_cases c : b = ds'[j]
      · rw [c, upd_same] at hb
        cases hb
      · rw [upd_ne c] at hb
        exact fr7 b hb
    generalize upd H7 ds'[j] (.dK (kvsOf (putE es z T))) = H8 at ents8 hd8 keep8 r8 fr8 ⊢
    refine ⟨_, rfl, a, 3, rfl, r8, by decide, by decide, fun d9 H9 _ _ r9 k9 => ⟨rfl, _, rfl, ?_⟩⟩
    have hd9 := k9 _ _ hd8 ndj
    have ents9 : Ents H9 (putE es z T) (putE r z (g, o)) := ents8.ext fun t xs e => k9 _ _ e (fun q => r8.notup _ (by rw [← q]; exact e))
    have keep9 : ∀ b o', b ≠ ds'[j] → b ≠ a → H7 b = some o' → H9 b = some o' := fun b o' nb na e => k9 _ _ (keep8 b o' nb e) na
    have fr9 : ∀ b, H9 b = none → H b = none := fun b hb => fr8 b (k9.free r9.there.choose_spec hb)
    refine ite2 (fun _ => ?_) (fun _ => ?_)
    · have L9 : H9 L2 = some (.lst (ds'.map V.ref)) := keep9 _ _ nLd nL2a l6
      refine ⟨_, rfl, _, rfl, L2, _, _, _, rfl, rfl, SqL.of L9, hat, ds'[j], rfl, .inl ⟨_, Rd.of hd9⟩, _, rfl, kvsOf (putE es z T), Sum.inr z, .ref T, hd9, rfl, ?_, ?_⟩
      · rw [← put_kvs, valV_put, if_pos rfl]
      · rw [drop_kvs]
        refine fin _ _ _ (fun b o' nb na e => ?_) upd_same (ents9.drop.ext fun t xs e => ?_) okp.drop (r9.upd ndj) fun b hb => ?_
        · rw [upd_ne nb]
          exact keep9 b o' nb na e
        · rw [upd_ne (ne_of e hd9 (by intro q; cases q))]
          exact e
        · by_cases c : b = ds'[j]
          · rw [c, upd_same] at hb
            cases hb
          · rw [upd_ne c] at hb
            exact fr9 b hb
    · exact fin H9 _ _ keep9 hd9 ents9 okp r9 fr9
end
end Sl
/-! ## P20 -/
set_option Elab.async false
set_option linter.all false
set_option maxRecDepth 100000
set_option maxHeartbeats 4000000
namespace Sl
open PySem PySem.Spec PyProof.Rows L2 TxS
abbrev sFormat : Stmt := top 32
def spFormat : Sp := fun vs H Q _ => ∃ (a Pa Te Ma : Addr) (paper tells marks : List Str), vs = [.ref a, .int 4, .ref Pa, .ref Te, .ref Ma] ∧ Rng H a ∧ Lsts H a Pa Te Ma paper tells marks ∧ spModelOut 4 a paper (tells ++ marks) H Q
/-- a new drawing object -/
def spRng (K : PySem.W.Frag) : Sp := fun vs H Q _ => ∃ (S : Addr) (ns : List Int) (k : Nat), vs = [.ref S, .int k] ∧ SqL K H S (ns.map V.int) ∧ ns.length ≤ 63 ∧ k ≤ 100 ∧ ∀ (H' : Hp) (a : Addr), Ext H H' → H a = none → Rng H' a → Q (.ref a) H'
/-- a list of words -/
def wordsL (n : Nat) (l : List Str) : Prop := ∀ z ∈ l, isWordS z = true ∧ z.length ≤ n
theorem abc_word {z : Str} (h : z ∈ abcL) : isWordS z = true ∧ z.length = 1 := by
  have q : (abcL.all fun z => isWordS z && decide (z.length = 1)) = true := by decide +kernel
  have k := List.all_eq_true.mp q z h
  rw [Bool.and_eq_true, decide_eq_true_eq] at k
  exact k
theorem word_append {x y : Str} (hx : isWordS x = true) (hy : isWordS y = true) : isWordS (x ++ y) = true ∧ (x ++ y).length = x.length + y.length := by
  have e : (x ++ y).cps.toList = x.cps.toList ++ y.cps.toList := TL.tl_append x y
  refine ⟨?_, ?_⟩
  · unfold isWordS at hx hy ⊢
    rw [e, List.all_append, hx, hy]
    rfl
  · have k := congrArg List.length e
    rw [List.length_append, Array.length_toList, Array.length_toList, Array.length_toList] at k
    exact k
section
variable {P : Program} {w : World} {K : PySem.W.Frag} {mg : Str → Option Value} {base : Heap}
theorem scFormat : FnScope ["_law_rng_here", "_law_cap", "_law_paper", "_law_tells_here", "_law_marks_here", "_law_way", "_law_found"] ["_law_rng_here", "_law_cap", "_law_paper", "_law_tells_here", "_law_marks_here"] (defScope sFormat) := ⟨rfl, rfl, rfl, by decide +kernel, rfl, by decide +kernel, by decide +kernel⟩
theorem ok_format {f fD fA fF fB : Addr} {fd fdD fdA fdF fdB : FuncData} (F : Fun K "_law_format" "_law_format" sFormat f fd) (aD : At K mg "_law_draw" fD fdD ["_law_rng_here", "_law_many"] []) (gD : FnOk P w K mg base CX0 1 fD fdD ["_law_rng_here", "_law_many"] spDraw)
    (aA : At K mg "_law_any_format" fA fdA ["_law_rng_here", "_law_cap", "_law_paper", "_law_tells_here", "_law_marks_here"] []) (gA : FnOk P w K mg base CX0 3 fA fdA ["_law_rng_here", "_law_cap", "_law_paper", "_law_tells_here", "_law_marks_here"] spAnyFormat)
    (aF : At K mg "_law_family" fF fdF ["_law_way", "_law_paper", "_law_tells_here", "_law_marks_here"] []) (gF : FnOk P w K mg base CX0 1 fF fdF ["_law_way", "_law_paper", "_law_tells_here", "_law_marks_here"] spFamily)
    (aB : At K mg "_law_bent" fB fdB ["_law_rng_here", "_law_model", "_law_paper", "_law_tells_here", "_law_marks_here"] []) (gB : FnOk P w K mg base CX0 3 fB fdB ["_law_rng_here", "_law_model", "_law_paper", "_law_tells_here", "_law_marks_here"] spBent) :
    FnOk P w K mg base CX0 4 f fd ["_law_rng_here", "_law_cap", "_law_paper", "_law_tells_here", "_law_marks_here"] spFormat := by
  refine F.ok scFormat (fun vs H Q E h => ?_) (fun cdv A0 outer s H vs Q E0 hr h => ?_)
  · obtain ⟨a, Pa, Te, Ma, paper, tells, marks, rfl, _⟩ := h
    rfl
  · obtain ⟨a, Pa, Te, Ma, paper, tells, marks, rfl, hR, hl, k⟩ := h
    have hr1 : Room 1 _ := hr.mono (by decide)
    refine ⟨_, pss_cons (ps_set (i := 5) scFormat.nd rfl (.inl rfl) (pe_call gD hr1 (by rfl) aD.g aD.kp aD.b .nil pass0 (pa_cons (pv 0) (pa_cons pe_int pa_nil))))
      (pss_cons (ps_if (pt_cmpR op_lt (pv 5) pe_int (nomark _)) (pss_one (ps_ret (pe_call gA hr (by rfl) aA.g aA.kp aA.b .nil pass0 (pa_cons (pv 0) (pa_cons (pv 1) (pa_cons (pv 2) (pa_cons (pv 3) (pa_cons (pv 4) pa_nil)))))))) pss_nil)
      (pss_cons (ps_set (i := 6) scFormat.nd rfl (.inl rfl) (pe_call gF hr1 (by rfl) aF.g aF.kp aF.b .nil pass0 (pa_cons (pe_call gD hr1 (by rfl) aD.g aD.kp aD.b .nil pass0 (pa_cons (pv 0) (pa_cons pe_int pa_nil))) (pa_cons (pv 2) (pa_cons (pv 3) (pa_cons (pv 4) pa_nil))))))
      (pss_one (ps_ret (pe_ifExp (pt_cmpR op_lt (pv 5) pe_int (nomark _)) (pv 6) (pe_call gB hr (by rfl) aB.g aB.kp aB.b .nil pass0 (pa_cons (pv 0) (pa_cons (pv 6) (pa_cons (pv 2) (pa_cons (pv 3) (pa_cons (pv 4) pa_nil)))))))))))  , ?_⟩
    refine ⟨_, rfl, a, 9, rfl, hR, by decide, by decide, fun d H1 d0 dn r1 k1 => ?_⟩
    have l1 := hl.keep k1
    have M0 : ∀ {H' : Hp} {M : Addr}, Keep a H H' → Rng H' a → H' M = none → H M = none := fun kk rr n => kk.free rr.there.choose_spec n
    refine ⟨_, rfl, _, _, rfl, rfl, _, rfl, ?_⟩
    refine ite2 (fun _ => ?_) (fun _ => ?_)
    · refine ⟨_, rfl, _, rfl, _, rfl, _, rfl, _, rfl, a, Pa, Te, Ma, 4, paper, tells, marks, rfl, r1, by decide, by decide, l1, fun H' M L E ds rows ns b r' k' nM nL nE nd hM ok => ?_⟩
      exact k H' M L E ds rows ns b r' (k1.trans k') (M0 k1 r1 nM) (M0 k1 r1 nL) (M0 k1 r1 nE) (fun d hd => M0 k1 r1 (nd d hd)) hM ok
    · refine ⟨_, rfl, a, 5, rfl, r1, by decide, by decide, fun d2 H2 e0 e1 r2 k2 => ?_⟩
      obtain ⟨way, rfl⟩ : ∃ way : Nat, d2 = (way : Int) := ⟨d2.toNat, by omega⟩
      have kk2 := k1.trans k2
      have l2 := hl.keep kk2
      refine ⟨_, rfl, _, rfl, _, rfl, a, Pa, Te, Ma, way, paper, tells, marks, rfl, r2, l2, fun H3 M L E ds rows ns b x3 nM nL nE nd hM ok => ?_⟩
      have r3 := r2.ext x3
      have kk3 := kk2.trans (Keep.of x3)
      have l3 := hl.keep kk3
      refine ⟨_, rfl, _, _, rfl, rfl, _, rfl, ?_⟩
      refine ite2 (fun _ => ?_) (fun _ => ?_)
      · exact ⟨_, rfl, k H3 M L E ds rows ns b r3 kk3 (M0 kk2 r2 nM) (M0 kk2 r2 nL) (M0 kk2 r2 nE) (fun d hd => M0 kk2 r2 (nd d hd)) hM ok⟩
      · refine ⟨_, rfl, _, rfl, _, rfl, _, rfl, _, rfl, a, M, L, E, Pa, Te, Ma, ds, rows, ns, b, paper, tells, marks, rfl, r3, hM, r2.new nL, r2.new nE, ok, l3, fun H' M' L' E' ds' rows' ns' b' r' k' nM' nL' nE' nd' hM' ok' => ?_⟩
        exact k H' M' L' E' ds' rows' ns' b' r' (kk3.trans k') (M0 kk3 r3 nM') (M0 kk3 r3 nL') (M0 kk3 r3 nE') (fun d hd => M0 kk3 r3 (nd' d hd)) hM' ok'
theorem scRng : FnScope ["_law_script", "_law_k", "_law_cell"] ["_law_script", "_law_k"] (defScope sRng) := ⟨rfl, rfl, rfl, by decide +kernel, rfl, by decide +kernel, by decide +kernel⟩
theorem ok_rng {f : Addr} {fd : FuncData} (F : Fun K "_law_rng" "_law_rng" sRng f fd) (zn : mg "len" = none) (zm : mg "max" = none) (za : mg "abs" = none) (zi : mg "int" = none) : FnOk P w K mg base CX0 1 f fd ["_law_script", "_law_k"] (spRng K) := by
  refine F.ok scRng (fun vs H Q E h => ?_) (fun cdv A0 outer s H vs Q E0 hr h => ?_)
  · obtain ⟨S, ns, k, rfl, _⟩ := h
    rfl
  · obtain ⟨S, ns, kk, rfl, hS, h63, k100, k⟩ := h
    refine ⟨_, pss_cons (ps_set (i := 2) scRng.nd rfl (.inl rfl) (pe_op op_add (pe_op op_mul pe_int (pv 1)) pe_int))
      (pss_cons (ps_if (pt_cmpR op_lt (pv 1) (pe_callB call_len_seq (by rfl) zn PySem.boot_len (pa_cons (pv 0) pa_nil)) (nomark _)) (pss_one (ps_set (i := 2) scRng.nd rfl (.inl rfl) (pe_ix ix_list (pv 0) (pv 1) (fun _ _ => rfl)))) pss_nil)
      (pss_one (ps_ret (pe_lst (pa_cons (pe_callB (call_max2 rfl) (by rfl) zm (by decide +kernel) (pa_cons pe_int (pa_cons (pe_op op_sub (pe_callB call_abs (by rfl) za (by decide +kernel) (pa_cons (pv 2) pa_nil)) (pe_op op_pow pe_int pe_int)) pa_nil)))
        (pa_cons (pe_op op_add (pe_op op_mod (pe_op op_mul (pe_callTy call_int1 (by rfl) zi (by decide +kernel) (pa_cons (pe_op op_add (pe_op op_mod (pe_callTy call_int1 (by rfl) zi (by decide +kernel) (pa_cons (pe_callB call_abs (by rfl) za (by decide +kernel) (pa_cons (pv 2) pa_nil)) pa_nil)) pe_int) pe_int) pa_nil))
          (pe_op op_pow (pe_op op_add (pe_op op_mul pe_int (pv 1)) pe_int) pe_int)) pe_int) pe_int) pa_nil)))))), ?_⟩
    have fin : ∀ c : Int, ∃ x y : Int, (0 ≤ (if (if c < 0 then -c else c) - 10 ^ (18 : Int).toNat > 0 then (if c < 0 then -c else c) - 10 ^ (18 : Int).toNat else 0)) ∧ (0 ≤ ((if c < 0 then -c else c) % 2147483549 + 1) * (2 * (kk : Int) + 3) ^ (3 : Int).toNat % 2147483543 + 1 ∧ ((if c < 0 then -c else c) % 2147483549 + 1) * (2 * (kk : Int) + 3) ^ (3 : Int).toNat % 2147483543 + 1 < 2147483648) ∧
        (0 ≤ (if c < 0 then -c else c) % 2147483549 ∧ (if c < 0 then -c else c) % 2147483549 < 2147483549) := fun c => by
      refine ⟨0, 0, ?_, ?_, Int.emod_nonneg _ (by decide), Int.emod_lt_of_pos _ (by decide)⟩
      · split <;> omega
      · have h1 := Int.emod_nonneg (((if c < 0 then -c else c) % 2147483549 + 1) * (2 * (kk : Int) + 3) ^ (3 : Int).toNat) (show (2147483543 : Int) ≠ 0 by decide)
        have h2 := Int.emod_lt_of_pos (((if c < 0 then -c else c) % 2147483549 + 1) * (2 * (kk : Int) + 3) ^ (3 : Int).toNat) (show (0 : Int) < 2147483543 by decide)
        omega
    refine ⟨_, rfl, _, _, rfl, rfl, .inl ⟨by decide, by decide⟩, _, _, rfl, rfl, ?_⟩
    refine ⟨_, rfl, _, rfl, S, _, rfl, .inl hS, _, _, rfl, rfl, _, rfl, ?_⟩
    refine ite2 (fun c => ?_) (fun c => ?_)
    · have c := of_decide_eq_true c
      rw [List.length_map] at c
      have hk : kk < ns.length := by omega
      refine ⟨_, rfl, _, rfl, S, _, _, .int ns[kk], rfl, rfl, hS, atI_nat (by rw [List.getElem?_map, List.getElem?_eq_getElem hk]; rfl), ?_⟩
      obtain ⟨_, _, f1, f2, f3⟩ := fin ns[kk]
      refine ⟨_, rfl, _, rfl, _, _, rfl, rfl, ⟨by decide, by decide, by decide⟩, _, _, rfl, rfl, _, _, rfl, _, rfl, _, rfl, .inl ⟨_, rfl, _, _, rfl, rfl, (by show (0 : Int) < 2147483549; decide), _, _, rfl, rfl, .inl ⟨_, rfl, _, rfl, _, _, rfl, rfl, .inl ⟨by decide, by decide⟩, _, _, rfl, rfl, _, _, rfl, rfl, ⟨by decide, by decide, ?_⟩, _, _, rfl, rfl, .inl ⟨by omega, by omega⟩, _, _, rfl, rfl, (by show (0 : Int) < 2147483543; decide), _, _, rfl, rfl, by show 2 ≤ sizeLine; decide, fun p np => k _ p (Ext.new np) np ⟨_, _, upd_same, f1, f2.1, f2.2⟩⟩⟩⟩
      show (2 * (kk : Int) + 3).natAbs < 2 ^ 64
      omega
    · obtain ⟨_, _, f1, f2, f3⟩ := fin (11 * kk + 5)
      refine ⟨_, rfl, _, rfl, _, _, rfl, rfl, ⟨by decide, by decide, by decide⟩, _, _, rfl, rfl, _, _, rfl, _, rfl, _, rfl, .inl ⟨_, rfl, _, _, rfl, rfl, (by show (0 : Int) < 2147483549; decide), _, _, rfl, rfl, .inl ⟨_, rfl, _, rfl, _, _, rfl, rfl, .inl ⟨by decide, by decide⟩, _, _, rfl, rfl, _, _, rfl, rfl, ⟨by decide, by decide, ?_⟩, _, _, rfl, rfl, .inl ⟨by omega, by omega⟩, _, _, rfl, rfl, (by show (0 : Int) < 2147483543; decide), _, _, rfl, rfl, by show 2 ≤ sizeLine; decide, fun p np => k _ p (Ext.new np) np ⟨_, _, upd_same, f1, f2.1, f2.2⟩⟩⟩⟩
      show (2 * (kk : Int) + 3).natAbs < 2 ^ 64
      omega
end
end Sl
/-! ## Q1 -/
set_option Elab.async false
set_option linter.all false
set_option maxRecDepth 100000
set_option maxHeartbeats 4000000
namespace Sl
open PySem PySem.Spec PyProof.Rows L2
/-! ### each place and sign of a text, in new pairs -/
def Itn (z : Str) : It :=
  ⟨fun i _ => i < z.cps.size, fun i H v H' => ∃ T c, v = .ref T ∧ H T = none ∧ H' = upd H T (.tup [.int (i : Nat), .str ⟨#[c]⟩]) ∧ z.cps[i]? = some c, fun i _ => z.cps.size ≤ i⟩
theorem itn_turn {P : Program} {w : World} {K : PySem.W.Frag} {elts : List Expr} {kk : Nat} {tpos : Pos} (x : Str) (t : Tok) (e it : Addr) :
    Turn P w K (.Tuple elts kk tpos) (Itn x) [e, it] e (fun i h => (∃ old, IsEnum h e it ((i : Nat) : Int) old) ∧ h.IsStrIter it (strIterType x) x t i ∧ e ≠ it) where
  mem := by simp
  obj := fun i h st b hb => by
    obtain ⟨⟨old, he⟩, ⟨o, ho, hc, hd⟩, _⟩ := st
    have e' : b = e ∨ b = it := by simpa using hb
    rcases e' with z | z
    · rw [z]; exact ⟨_, he, fun v q => nomatch q⟩
    · rw [z]; exact ⟨o, ho, fun v q => by rw [hd] at q; cases q⟩
  keep := fun i h h' st k => by
    obtain ⟨⟨old, he⟩, ⟨o, ho, hr⟩, hne⟩ := st
    exact ⟨⟨old, k e (by simp) _ he⟩, ⟨o, k it (by simp) _ ho, hr⟩, hne⟩
  item := by
    intro X hP hw hK hc i pins s σ H E I hf st hg
    subst hP hw hK
    obtain ⟨⟨old, he⟩, hit, hne⟩ := st
    have hel : e < s.heap.objs.size := Heap.lt_size he
    have hil : it < s.heap.objs.size := by obtain ⟨_, q, _⟩ := hit; exact Heap.lt_size q
    have hh : X.A.in1.handled = none := I.ok.hd hc
    have D : Draws X.prog X.w X.A.in1 it [it] x.cps.size (fun i v => ∃ c u, x.cps[i]? = some c ∧ v = .str ⟨#[c]⟩ u) (fun i h => h.IsStrIter it (strIterType x) x t i) := by
      by_cases q : strIterType x = "str_ascii_iterator"
      · rw [q]; exact Draws.strAscii hh it x t
      · have q2 : strIterType x = "str_iterator" := by
          unfold strIterType at q ⊢
          split at q
          · exact absurd rfl q
          · rename_i h0; rw [if_neg h0]
        rw [q2]; exact Draws.strWide hh it x t
    refine wpAny_pyNext_enum_itemD D he hit hg hne (by simpa using hne) fun u h' tk hP ho hit' hT hsz hk => ?_
    obtain ⟨c, ut, hcx, rfl⟩ := hP
    refine ⟨_, rfl, wpAny_letOwnedTupleGo_enum (s := { s with heap := h', toks := tk + 1 }) ho fun h'' he' sb => ?_⟩
    have hT2 : h''.get? s.heap.objs.size = some { cls := .type "tuple", data := .seq #[.int i tk, .str ⟨#[c]⟩ ut] } := (sb.2 _ (Nat.ne_of_gt hel)).trans hT
    have new : ObjOk X.prog X.w (upd H s.heap.objs.size (.tup [.int (i : Nat), .str ⟨#[c]⟩])) h'' s.heap.objs.size (.tup [.int (i : Nat), .str ⟨#[c]⟩]) :=
      ⟨by show 2 ≤ sizeLine; decide, [.int i tk, .str ⟨#[c]⟩ ut], .cons ⟨_, rfl⟩ (.cons ⟨_, rfl⟩ .nil), ⟨_, hT2, rfl, _, rfl⟩⟩
    have I1 : Inv X pins σ (upd H s.heap.objs.size (.tup [.int (i : Nat), .str ⟨#[c]⟩])) { s with heap := h'', toks := tk + 1 } :=
      I.turnedNew (ch := [e, it]) (fun b ob hb q => (sb.2 b (fun z => hb (by simp [z]))).trans (hk b ob (fun z => hb (by simp [z])) (fun z => hb (by simp [z])) q)) hf (Nat.le_refl _) new
    refine ⟨.ref s.heap.objs.size, _, I1, rfl, ⟨_, c, rfl, I.hok.fresh (Nat.le_refl _), rfl, hcx⟩, ⟨⟨.str ⟨#[c]⟩ ut, ?_⟩, ?_, hne⟩, fun b hb => ?_⟩
    · have e1 : ((i + 1 : Nat) : Int) = (i : Int) + 1 := by omega
      rw [e1]; exact he'
    · obtain ⟨o, ho', hr⟩ := hit'
      exact ⟨o, (sb.2 it (Ne.symm hne)).trans ho', hr⟩
    · have hb' : b < s.heap.objs.size := by
        have e' : b = e ∨ b = it := by simpa using hb
        rcases e' with z | z
        · rw [z]; exact hel
        · rw [z]; exact hil
      rw [upd_ne (Nat.ne_of_lt hb')]
      exact (hf b hb).1
  done := by
    intro X hP hw hK hc i pins s σ H E I hf st hg
    subst hP hw hK
    obtain ⟨⟨old, he⟩, hit, hne⟩ := st
    obtain ⟨f0, f1, f2, f3, f4, f5⟩ := hf it (by simp)
    have hh : X.A.in1.in1.handled = none := I.ok.hd hc
    have hx : x.cps[i]? = none := Array.getElem?_eq_none hg
    have hT : s.TypeIs (.ref e) "enumerate" := ⟨_, he, rfl⟩
    have fin : ∀ h', Heap.ExtBut it s.heap h' → (none : Option Value) = none ∧ Inv X pins σ H { s with heap := h' } := fun h' eb => ⟨rfl, I.turned (t' := s.toks) (fun b o hb q => eb b o hb q) f0 f1 f3 f4 f5⟩
    unfold pyNext
    refine wpAny_bind (wpAny_attempt (wpAny_callSpecial?_slot (name := Str.ofString "__next__") hT F.slot_enumerate_next
      (wpAny_call_entry F.slot_enumerate_next hT F.entry_enumerate_next ?_ (F.args_enumerate_next_1 _))))
    show wpAny _ _ (field (.ref e) 2 >>= _) _ _ _
    refine wpAny_bind (wpAny_field he rfl (x := .ref it) rfl ?_)
    have nx : ∀ (E2 : Value → Shared → Prop) (Q2 : Value → Shared → Prop), (∀ h' e, Heap.ExtBut it s.heap h' → (∃ o, h'.get? e = some o ∧ o.cls = .type "StopIteration") → E2 (.ref e) { s with heap := h' }) →
        wpAny (model X.prog X.w) X.A.in1 (Builtin.SmallTypes.nextOf (.ref it)) Q2 E2 s := by
      intro E2 Q2 hE
      by_cases q : strIterType x = "str_ascii_iterator"
      · rw [q] at hit; exact wpAny_nextOf_ascii_end hh hit hx hE
      · have q2 : strIterType x = "str_iterator" := by
          unfold strIterType at q ⊢
          split at q
          · exact absurd rfl q
          · rename_i h0; rw [if_neg h0]
        rw [q2] at hit; exact wpAny_nextOf_wide_end hh hit hx hE
    refine wpAny_bind (nx _ _ fun h' x he' hx' => ?_)
    obtain ⟨o, ho, hc⟩ := hx'
    refine wpAny_bind (wpAny_isInstance (T := "StopIteration") (b := true) ⟨o, ho, hc⟩ isSubtype_stop ?_)
    exact wpAny_pure (fin _ he')
  self := fun A i s Q E st h => let ⟨⟨_, he⟩, _⟩ := st; wpAny_pyIter_enum he h
def iEnumS (ta : TA) : TI := fun σ H R => ta σ H fun vs H1 => ∃ z : Str, vs = [.str z] ∧ R (Itn z) H1
theorem pi_enumStr {X : Cx} {e : Expr} {ta : TA} {p pos tpos : Pos} {elts : List Expr} {kk : Nat} (hg : Gl X "enumerate") (hm : X.mg "enumerate" = none) (ha : PA X [e] ta) (hs : starEach [e] X.env = [(false, eval e X.env)] := by rfl) :
    PI X (.Tuple elts kk tpos) (.Call (.Name "enumerate" p) [e] [] pos) (iEnumS ta) := by
  refine ⟨fun pins s σ H R I h => ?_⟩
  refine Call_ (ld_blt I hg hm boot_enumerate (PyProof.Rows.callWith_type1 (thn (ha.run pos pins s σ H _ I h) fun us s1 ⟨vs, H1, I1, r1, q1⟩ => ?_) hs rfl))
  obtain ⟨z, ex, q⟩ := q1
  subst ex
  cases r1 with
  | cons r rr =>
    cases rr
    obtain ⟨t, rfl⟩ := r
    refine call_enumerate_str fun h' he hit hsz hk => wpAny_pyIter_enum he ?_
    have I2 : Inv X pins σ H1 { s1 with heap := h' } := I1.kept (t' := s1.toks) hk
    refine ⟨s1.heap.objs.size + 1, [s1.heap.objs.size + 1, s1.heap.objs.size], _, _, H1, rfl, I2, itn_turn z t (s1.heap.objs.size + 1) s1.heap.objs.size, ⟨⟨.none, he⟩, hit, Nat.succ_ne_self _⟩, fun b hb => ?_, q⟩
    have e' : b = s1.heap.objs.size + 1 ∨ b = s1.heap.objs.size := by simpa using hb
    have hle : s1.heap.objs.size ≤ b := by
      rcases e' with z | z
      · rw [z]; exact Nat.le_add_right _ _
      · rw [z]; exact Nat.le_refl _
    exact I1.fpOk hle (I1.hok.fresh hle)
theorem walk_enumStr {z : Str} : Walk (Itn z) z.cps.size (fun _ => True) (fun i H v H' => ∃ T c, v = .ref T ∧ H T = none ∧ H' = upd H T (.tup [.int (i : Nat), .str ⟨#[c]⟩]) ∧ z.cps[i]? = some c) :=
  ⟨fun _ _ hi _ => hi, fun _ _ => Nat.le_refl _, fun _ _ _ _ _ _ y => y⟩
end Sl
/-! ## Q2 -/
set_option Elab.async false
set_option linter.all false
set_option maxRecDepth 100000
set_option maxHeartbeats 4000000
/-! own error classes over any built-in error: their making, super().__init__(text) in it, the first field -/
namespace PySem
namespace Sx
open PySem.W PySem.Calls PyProof.Rows Builtin Builtin.ObjectAttr
/-- a built-in error with what stands above it -/
structure Tl (B newId initId : String) (tl : List Value) : Prop where
  base : ExcBaseFacts B newId initId tl
  pass : ∀ self : Value, refuseLoop self "__setattr__" tl = pure ()
  obj : tl.contains (.type "object") = true
  kf : KxsFacts B initId
abbrev over (rs : List Addr) (tl : List Value) : List Value := rs.map Value.ref ++ tl
theorem over_pass {B newId initId : String} {tl : List Value} (T : Tl B newId initId tl) (self : Value) : ∀ rs : List Addr, refuseLoop self "__setattr__" (over rs tl) = pure ()
  | [] => T.pass self
  | r :: rs => (refuseLoop_ref self "__setattr__" r (over rs tl)).trans (over_pass T self rs)
theorem over_has {tl : List Value} (Z : String) : ∀ rs : List Addr, (over rs tl).contains (.type Z) = tl.contains (.type Z)
  | [] => rfl
  | r :: rs => by
    have ih := over_has (tl := tl) Z rs
    show ((Value.type Z == Value.ref r) || (over rs tl).contains (.type Z)) = _
    rw [ih]
    rfl
section
variable {prog : Program} {w : World} {A : Around} {E : Value → Shared → Prop} {R : Result → Shared → Prop} {hp : Heap} {g : Array GenState} {d : Drawn} {t : Nat} {os : OsState} {B newId initId : String} {tl : List Value}
/-- the first field of such an error: it gets its dict -/
theorem osa_first {K : W.Frag} {name : Str} {tk : Tok} {v : Value} {x C : Addr} {fv : Array Value} {cd : ClassData} {rs : List Addr} (T : Tl B newId initId tl) (X : K.In hp) (hx : hp.get? x = some { cls := .ref C, data := .fields fv })
    (hcd : W.clsIn K C = some cd) (hm : cd.mro = over rs tl) (hh : cd.hasDict = true) (ha : W.findIn K (.ref C) name = some none)
    (hq : ∀ h' tk' dx, (∀ b o, b ≠ x → hp.get? b = some o → h'.get? b = some o) → hp.objs.size ≤ dx → dx ≠ x → h'.get? x = some { cls := .ref C, dict := some dx, data := .fields fv } →
      h'.Ns1 dx (fun y => if y = name then some v else none) → R (.ok (.ret .none)) ⟨h', g, d, tk', os⟩) :
    codeAny (model prog w) A (.call (.builtin "object.__setattr__") ⟨[.ref x, .str name tk, v], []⟩) R ⟨hp, g, d, t, os⟩ := by
  have inst : W.InstAt hp x { cls := .ref C, data := .fields fv } C none := ⟨hx, rfl, rfl, trivial⟩
  have mroC : W.mroIn K C (.type "object") = some true := by
    have ho : (over rs tl).contains (.type "object") = true := (over_has "object" rs).trans T.obj
    unfold W.mroIn
    rw [hcd, Option.bind_some, hm, ho]
    cases e : (over rs tl) with
    | nil => rw [e] at ho; cases ho
    | cons _ _ => rfl
  have st := F.store_object
  refine codeAny_call_builtin st.slot.plain st.entry (@W.check_slot (model prog w) _ _ ⟨hp, g, d, t, os⟩ "object.__setattr__" "object" "__setattr__" (.ref x) [.str name tk, v] [] _ st.kind st.split (inst.type.andThen (W.looks_mroIn X mroC)) (st.args (.ref x) (.str name tk) v) ?_)
  have lm : W.Looks (model prog w) hp (mroOf (.ref C)) cd.mro := (W.looks_clsIn X hcd).andThen .now
  have lt : W.Looks (model prog w) hp (storeTaker? none) none := .now
  have lc : W.Looks (model prog w) hp (classData C) cd := W.looks_clsIn X hcd
  rw [W.osa_eq, refuse_eq]
  refine wpAny_bind (wpAny_bind (inst.type.at (wpAny_bind (lm.at ?_))))
  rw [hm, over_pass T]
  refine wpAny_pure (wpAny_bind (inst.type.at (wpAny_bind ((W.looks_findIn X ha).at (wpAny_bind (lt.at ?_))))))
  show wpAny _ _ (storeInOwnDict (.ref x) (.ref C) (.str name tk) name v false) _ _ _
  have apart : hp.objs.size ≠ x := Nat.ne_of_gt (Heap.lt_size hx)
  obtain ⟨nm, bs, mro, ns, qn, hd, sn, sb, ab, col, del⟩ := cd
  dsimp only at hh
  subst hh
  unfold storeInOwnDict ownDictForStores
  repeat (first | with_reducible refine HandSPX.store_in_new ?_ ?_ | with_reducible refine wpAny_loadPart_at hx ?_ | with_reducible refine lc.at ?_ | wp_step)
  · exact ⟨_, #[], _, (Heap.get?_update_ne _ _ _ _ apart).trans (Heap.get?_push_at rfl rfl), rfl, fun e he => absurd he (by simp), fun _ => rfl⟩
  · intro h' tk' hn same
    have there : (hp.push { cls := .type "dict", data := .dict #[] }).get? x = some { cls := .ref C, data := .fields fv } := Heap.get?_push_of_some _ hx
    refine hq h' tk' hp.objs.size (fun b o nb ob => ?_) (Nat.le_refl _) apart ?_ hn
    · rw [same.2 b (Nat.ne_of_lt (Heap.lt_size ob)), Heap.get?_update_ne _ _ _ _ nb]
      exact Heap.get?_push_of_some _ ob
    · rw [same.2 x apart.symm]
      exact Heap.get?_update_self _ there rfl
end
end Sx
end PySem
/-! ## Q3 -/
set_option Elab.async false
set_option linter.all false
set_option maxRecDepth 100000
set_option maxHeartbeats 4000000
namespace Sl
open PySem PySem.Spec PyProof.Rows L2
/-- what the written part must say of an own error class over a built-in one -/
structure OneC (K : PySem.W.Frag) (C : Addr) (newId : String) (tl : List Value) : Prop where
  cls : ∃ nm q N bs rs sn sub ab col dd k0 k1 k2 k3 k5, K.lookup C = some (excClassObj nm q C N bs (PySem.Sx.over rs tl) true sn sub ab col dd k0 k1 k2 k3 k5 newId)
  sa : PySem.W.findIn K (.ref C) "__setattr__" = some (some (.builtin "object.__setattr__"))
  exC : PySem.W.subIn K (.ref C) (.type "BaseException") = some true
  tyC : PySem.W.typeIn K (.ref C) = some (.type "type")
  kC : PySem.W.keepIn K (.ref C) = true
theorem cls_of {K : PySem.W.Frag} {nm q : Str} {C N : Addr} {bs bm : List Value} {hd : Bool} {sn : List Str} {sub : List Value} {ab : Bool} {col : Option Bool} {dd : Option Addr} {k0 k1 k2 k3 k5 : Option Value} {newId : String}
    (h : K.lookup C = some (excClassObj nm q C N bs bm hd sn sub ab col dd k0 k1 k2 k3 k5 newId)) :
    PySem.W.clsIn K C = some { name := nm, bases := bs, mro := .ref C :: bm, ns := N, qualname := q, hasDict := hd, slotNames := sn, subclasses := sub, abstract := ab, collection := col, hasDel := false } := by
  unfold PySem.W.clsIn
  rw [h] <;> rfl
section
variable {X : Cx} {pins : List (Addr × Obj)} {σ : L2.St} {H : Hp} {s : Shared} {a C : Addr} {f : Str} {y : V} {u : Value} {Q : Unit → Shared → Prop} {E : Value → Shared → Prop} {A : Around} {B newId initId : String} {tl : List Value}
/-- self.f = y, the first one -/
theorem first_field (T : PySem.Sx.Tl B newId initId tl) (O : OneC X.K C newId tl) (I : L2.Inv X pins σ H s) (e : H a = some (exo a C none)) (hno : PySem.W.findIn X.K (.ref C) f = some none) (ry : L2.RelV y u)
    (h : ∀ dx s', H dx = none → dx ≠ a → L2.Inv X pins σ (upd (upd H dx (exd dx [(f, y)])) a (exo a C (some dx))) s' → Q () s') : wpAny (model X.prog X.w) A (setAttr (.ref a) f u) Q E s := by
  obtain ⟨nm, q, N, bs, rs, sn, sub, ab, col, dd, k0, k1, k2, k3, k5, hC⟩ := O.cls
  obtain ⟨t1, ho⟩ := exo_at I.hok e
  obtain ⟨hp, g, d, t, os⟩ := s
  refine PySem.W.set_plain I.kIn (ox := { cls := .ref C, dict := none, data := .fields #[.ref t1, .none, .none, .none, .bool false, .none] }) (od := none) ⟨ho, rfl, rfl, trivial⟩ O.sa ?_
  refine PySem.Sx.osa_first (rs := C :: rs) T I.kIn ho (cls_of hC) rfl rfl hno (fun h' tk' dx same new ne hx hn => ?_)
  have free : H dx = none := I.hok.fresh new
  have old : ∀ {b : Addr} {o : Obj}, hp.get? b = some o → b ≠ dx := fun {b o} z => Nat.ne_of_lt (Nat.lt_of_lt_of_le (Heap.lt_size z) new)
  have bare : ∀ {b : Addr}, H b = none → b ≠ a := fun {b} n z => by
    rw [z, e] at n
    cases n
  have else_ : ∀ {b : Addr} {o : HO}, H b = some o → (b = a → exo a C none = o) → (exo a C none ≠ o) → (upd (upd H dx (exd dx [(f, y)])) a (exo a C (some dx))) b = some o := fun {b o} z w n => by
    rw [upd_ne (fun k => n (w k)), upd_ne (ne_of_none z free)]
    exact z
  have same_a : ∀ {b : Addr} {o : HO}, H b = some o → b = a → exo a C none = o := fun {b o} z k => by
    rw [k, e] at z
    exact Option.some.inj z
  have un : Un X.fs [] H (upd (upd H dx (exd dx [(f, y)])) a (exo a C (some dx))) hp h' := by
    constructor
    · exact fun b o z n _ _ => same b o (bare n) z
    · exact fun b o z n _ _ => ⟨o.slots, same b o (bare n) z⟩
    · intro b o z n _
      rw [upd_ne (bare n), upd_ne (old z)]
      exact n
    · intro b o z _
      by_cases c : b = a
      · exact ⟨_, by rw [c]; exact hx⟩
      · exact ⟨o, same b o c z⟩
    · exact fun b xs z => else_ z (same_a z) exo_tup
    · exact fun b o v z => else_ z (same_a z) exo_frz
    · exact fun b ps z => ⟨#[], by rw [else_ z (same_a z) exo_tbl]; simp⟩
  refine h dx _ free ne (I.un (t' := tk') un fun b o z => ?_)
  by_cases c1 : b = a
  · subst c1
    rw [upd_same] at z
    cases z
    exact exo_ok hx
  rw [upd_ne c1] at z
  by_cases c2 : b = dx
  · subst c2
    rw [upd_same] at z
    cases z
    exact exd_ok hn (relO_put (fs := []) ry fun _ => True.intro)
  rw [upd_ne c2] at z
  refine (I.hok b o z).stay (fun c v hc w => same c v (fun k => ?_) w) (fun c hc => else_ hc (same_a hc) exo_own) (fun c xs hc => else_ hc (same_a hc) exo_tup)
  rcases hc with hc | hc
  · exact c1 (by rw [← hc]; exact k)
  · exact exo_own (same_a hc k)
end
end Sl
/-! ## Q4 -/
set_option Elab.async false
set_option linter.all false
set_option maxRecDepth 100000
set_option maxHeartbeats 4000000
namespace PySem
namespace Sx
open PySem.W PySem.Calls PyProof.Rows
section
variable {prog : Program} {w : World} {A : Around} {E : Value → Shared → Prop} {hp : Heap} {g : Array GenState} {d : Drawn} {t : Nat} {os : OsState} {B newId initId : String} {tl bm : List Value}
variable {nm q : Str} {C N : Addr} {bs : List Value} {hdct : Bool} {sn : List Str} {sub : List Value} {ab : Bool} {col : Option Bool} {dd : Option Addr} {k0 k1 k2 k3 k5 : Option Value}
/-- the bound built-in __init__ called: the error's arguments are laid anew -/
theorem bound_init {u e t0 : Addr} {rest : List Value} {Q : Value → Shared → Prop} (FB : ExcBaseFacts B newId initId tl) (hC : hp.get? C = some (excClassObj nm q C N bs bm hdct sn sub ab col dd k0 k1 k2 k3 k5 newId))
    (he : hp.get? e = some (excObj C t0 none .none)) (hu : hp.get? u = some (kxs_mw initId e)) (hz : rest.length ≤ sizeLine)
    (hq : ∀ h' t1, (∀ b o, b ≠ e → hp.get? b = some o → h'.get? b = some o) → h'.get? e = some (excObj C t1 none .none) → Q .none ⟨h', g, d, t, os⟩) :
    wpAny (model prog w) A (call (.ref u) rest) Q E ⟨hp, g, d, t, os⟩ := by
  refine wpAny_call (codeAny_of_tree ?_)
  show wpAny _ A.in1 (callAny (.ref u) ⟨rest, []⟩) _ _ _
  simp only [callAny]
  refine wpAny_bind (wpAny_load hu ?_)
  simp only [kxs_mw, show (Value.type "method-wrapper" == Value.type "method" || Value.type "method-wrapper" == Value.type "builtin_function_or_method" || Value.type "method-wrapper" == Value.type "method-wrapper") = true by decide, if_true]
  refine KFB.if_so (by decide) (wpAny_bind (check_bound_init FB.toExcCallFacts hC he rfl (wpAny_bind (wpAny_pure (wpAny_pure ?_)))))
  exact ⟨plainId_quiet FB.init.plain _, codeAny_builtin FB.initEntry (exc_init_tree (cls := .ref C) (t0 := t0) (dv := none) (c2 := .none) (c3 := .none) (b4 := .bool false) he hz fun h' k e' _ => hq h' _ k e')⟩
end
end Sx
end PySem
namespace Sl
open PySem PySem.Spec PyProof.Rows L2 NdefX
/-- an own error's __init__ whose first row is super().__init__(text): where it stands -/
structure SupFn (P : Program) (K : PySem.W.Frag) (C f cda cc : Addr) (name qual : Str) (params : Arguments) (body : List Stmt) (scope : Scope) (fd : FuncData) : Prop where
  fn : ∃ oc od dV kV doc pm an ct osl, fd = PySem.W.fnX name qual params body scope [("__class__", cc)] dV kV doc pm an (.ref cda) ct ∧ K.lookup f = some ⟨oc, od, .func fd, osl⟩
  co : PySem.W.codeIn K (.ref cda) qual = true
  code : ∃ ccl cdd vs ccs file tf, K.lookup cda = some ⟨ccl, cdd, .fields vs, ccs⟩ ∧ vs[2]? = some (.str file tf) ∧ ((P.main.file : Str) == file) = true
  cell : ∃ cl cld csl, K.lookup cc = some ⟨cl, cld, .cell (some (.ref C)), csl⟩
  any_ : PySem.W.nsIn K cStatics "thirdparty.any" = some none
  top : (P.main.scope.names.lookup ("super" : Str)).isSome = false
section
variable {P : Program} {w : World} {K : PySem.W.Frag} {mg : Str → Option Value} {base : Heap} {CX : CXT} {B newId initId : String} {tl : List Value} {C f cda cc : Addr} {name qual txt : Str} {params : Arguments} {rest : List Stmt} {scope : Scope} {fd : FuncData} {N ps : List Str} {k : Nat} {sp : Sp}
abbrev NFof (name qual : Str) (params : Arguments) (body : List Stmt) (scope : Scope) (cda cc : Addr) : NF := ⟨name, qual, params, body, scope, [("__class__", cc)], cda⟩
theorem ok_super {p0 p1 p2 p3 p4 p5 : Pos} {j : Nat} {ar : Arg} (T : PySem.Sx.Tl B newId initId tl) (O : OneC K C newId tl)
    (F : SupFn P K C f cda cc name qual params (.Expr (.Call (.Attribute (.Call (.Name "super" p0) [] [] p1) "__init__" p2) [.Constant (.str txt) j p3] [] p4) p5 :: rest) scope fd)
    (S : NScope N ps ["__class__"] scope) (hp : (params.posonlyargs ++ params.args).head? = some ar) (h0 : ps[0]? = some ar.arg) (hks : scope.names.lookup ("super" : Str) = some .globalImplicit)
    (zs : mg "super" = none) (hsup : PySem.W.ks_superIn K C C "__init__" = some (some (.builtin initId))) (hB : PySem.W.subIn K (.ref C) (.type B) = some true)
    (len : ∀ vs H Q E, sp vs H Q E → vs.length = ps.length) (pl : Env → Sem Bool) (hsw : ∀ env : Env, swapsWith (.Call (.Attribute (.Call (.Name "super" p0) [] [] p1) "__init__" p2) [.Constant (.str txt) j p3] [] p4) none p5.line env = pure false)
    (hev : ∀ env : Env, eval (.Call (.Attribute (.Call (.Name "super" p0) [] [] p1) "__init__" p2) [.Constant (.str txt) j p3] [] p4) env = (attributeBase (.Call (.Name "super" p0) [] [] p1) "__init__" env (eval (.Call (.Name "super" p0) [] [] p1) env) >>= fun ov => standAt p2.atName >>= fun _ =>
      holding [ov] (getMethod ov "__init__" (pl env)) >>= fun fx => callWith p4 fx.1 fx.2 (backTo p4 (starEach [.Constant (.str txt) j p3] env)) []))
    (hbody : ∀ (A : Around) (outer : List Env) (s : Shared) (H : Hp) (vs : List V) (Q : VK) (E : XK), sp vs H Q E →
      (∃ a, vs[0]? = some (.ref a) ∧ H a = some (exo a C none)) ∧ ∃ t, PSs (ncx CX P w K mg base N (NFof name qual params (.Expr (.Call (.Attribute (.Call (.Name "super" p0) [] [] p1) "__init__" p2) [.Constant (.str txt) j p3] [] p4) p5 :: rest) scope cda cc) f A outer s H E) rest t ∧ t { nx := fun _ H' => Q .non H', rt := Q } (startF N vs [none]) H) :
    FnOk P w K mg base CX (k + 1) f fd ps sp := by
  refine ⟨len, fun A outer s H args us vs Q E hr e0 hb r hsp => ?_⟩
  have hl := len _ _ _ _ hsp
  obtain ⟨⟨a, va, ea⟩, t, ht, hq⟩ := hbody A outer s H vs Q E hsp
  obtain ⟨oc, od, dV, kV, doc, pm, an, ct, osl, rfl, lk⟩ := F.fn
  obtain ⟨ccl, cdd, cvs, ccs, file, tf, lc, lc2, lfile⟩ := F.code
  obtain ⟨cl, cld, csl, lcell⟩ := F.cell
  have kin : K.In s.heap := e0.mod.kin.keeps fun b o e => (e0.bs b o e).1
  have lim : s.heap.NoLimit := e0.mod.nolimit.keeps fun b o e => (e0.bs b o e).1
  have cells : CellsAt [(("__class__" : Str), cc)] ["__class__"] [none] s.heap H := by
    have hit : ∀ {y : Str} {c : Addr}, List.lookup y [(("__class__" : Str), cc)] = some c → y = "__class__" ∧ c = cc := fun {y c} e => by
      by_cases q : y = "__class__"
      · rw [q] at e
        exact ⟨q, by injection e with e; exact e.symm⟩
      · exfalso
        have hy : (y == ("__class__" : Str)) = false := by simpa using q
        simp only [List.lookup, hy] at e
        cases e
    refine ⟨rfl, fun y c e => ?_, fun x y c e1 e2 => (hit e1).1.trans (hit e2).1.symm, fun i y e => ?_⟩
    · rw [(hit e).2]
      exact ⟨(e0.bs _ _ (e0.mod.kin _ _ lcell)).2, _, _, kin _ _ lcell, rfl⟩
    · refine ⟨cc, ?_, fun v z => ?_⟩
      · cases i with
        | zero => cases e; rfl
        | succ i => cases i <;> cases e
      · cases i with
        | zero => cases z
        | succ i => cases i <;> cases z
  refine ks_codeAny_call_defAt hr.depth (kin _ _ lk) rfl lim (PySem.W.codeRec_of kin F.co) rfl hb S.nocell (fun ⟨n, _⟩ hy => S.par n (List.of_mem_zip hy).1) (fun h₀ hns kp => ?_) S.co S.gen S.kind
  have I : L2.Inv (ncx CX P w K mg base N (NFof name qual params (.Expr (.Call (.Attribute (.Call (.Name "super" p0) [] [] p1) "__init__" p2) [.Constant (.str txt) j p3] [] p4) p5 :: rest) scope cda cc) f A outer s H E) [] (startF N vs [none]) H { s with heap := h₀, toks := s.toks + (ps.zip us).length } := inv_startN S hr.hd e0 hl r cells hns kp
  have kin0 : K.In h₀ := kin.keeps kp
  obtain ⟨nm, q, Nn, bs, rs, sn, sub, ab, col, dd, k0, k1, k2, k3, k5, hC⟩ := O.cls
  have hcl := cls_of hC
  obtain ⟨t1, ho⟩ := exo_at I.hok ea
  have naC : a ≠ C := fun e => by
    have z := (e0.bs _ _ (e0.mod.kin _ _ hC)).2
    rw [← e, ea] at z
    cases z
  have mroC : PySem.W.mroIn K C (.ref C) = some true := by
    unfold PySem.W.mroIn
    rw [hcl, Option.bind_some]
    show (if ((Value.ref C :: PySem.Sx.over rs tl).isEmpty) = true then none else some ((Value.ref C :: PySem.Sx.over rs tl).contains (.ref C))) = _
    rw [List.contains_cons]
    simp
  have ndP : ps.Nodup := by
    have z := S.nd.sublist (List.take_sublist (ps.length + 1) N)
    rw [show ps.length + 1 = ps.length + (["__class__"] : List Str).length from rfl, S.pre] at z
    exact (List.nodup_append.mp z).1
  obtain ⟨ua, hua, rua⟩ := r.get va
  obtain rfl : ua = Value.ref a := rua
  have selfv := zip_look ndP h0 hua
  obtain ⟨mb, b1, b2⟩ := I.ok.mod.blt
  have hkc : scope.names.lookup ("__class__" : Str) = some .free := S.frk _ List.mem_cons_self
  have hka : scope.names.lookup ar.arg = some .local := S.par _ (List.mem_of_getElem? h0)
  show _root_.PySem.wpAt (model P w) (ncx CX P w K mg base N (NFof name qual params (.Expr (.Call (.Attribute (.Call (.Name "super" p0) [] [] p1) "__init__" p2) [.Constant (.str txt) j p3] [] p4) p5 :: rest) scope cda cc) f A outer s H E).A _ (execs _ (envF (NFof name qual params (.Expr (.Call (.Attribute (.Call (.Name "super" p0) [] [] p1) "__init__" p2) [.Constant (.str txt) j p3] [] p4) p5 :: rest) scope cda cc) f s.heap.objs.size)) _ _ _
  refine ks_wpAt_execs_cons (ks_wpAt_Expr_any (hi := I.quiet) (hs := hsw _) (ks_wpAt_MethodCall (he := hev _) (ks_wpAt_super_base hks hkc rfl rfl (kin0 _ _ lk) rfl hp rfl (kin0 _ _ lc) rfl lc2 lfile F.top ?_)))
  refine PySem.W.ks_loadName_global S.kind hks (Calls.loadGlobal_builtin (I.ok.mod.glob.keeps I.bk) zs (b1.keeps I.bk) ((b2 _ (by decide)).trans (by decide +kernel)) ⟨rfl, ?_⟩)
  refine wpAny_loadName_free S.kind hkc rfl ⟨_, kin0 _ _ lcell, rfl⟩ ?_
  refine wpAny_loadName_local S.kind hka hns selfv ?_
  refine ks_wpAny_isType_cls (kin0 _ _ hC) rfl ⟨rfl, ?_⟩
  refine ks_wpAny_call_super (kin0 _ _ hC) rfl ho rfl (fun c e => by cases e) (PySem.W.looks_mroIn kin0 mroC) (fun h1 so k1' => ?_)
  have I1 := I.kept (t' := s.toks + (ps.zip us).length) k1'
  have kin1 : K.In h1 := kin0.keeps k1'
  have ho1 := k1' _ _ ho
  have fp := I1.fpOk (Nat.le_refl _) (I1.hok.fresh (Nat.le_refl _))
  obtain ⟨f1, f2, f3, _, _, _⟩ := fp
  have inst : PySem.W.InstAt h1 a _ C none := ⟨ho1, rfl, rfl, trivial⟩
  have along := hsup
  unfold PySem.W.ks_superIn at along
  rw [hcl] at along
  refine PySem.W.kxs_getMethod T.kf so (PySem.W.looks_opaque kin1 F.any_) ((PySem.W.looks_clsIn kin1 hcl).andThen .now) rfl kin1 along (inst.type.andThen (PySem.W.looks_subIn kin1 hB)) naC rfl ?_
  have up2 : ∀ b o, h1.get? b = some o → (h1.push (PySem.W.kxs_mw initId a)).get? b = some o := fun b o e => Heap.get?_push_of_some _ e
  have I2 := I1.kept (t' := s.toks + (ps.zip us).length + 1) up2
  have I3 := I2.pins_of (pins' := [(h1.objs.size, PySem.W.kxs_mw initId a)]) fun p hp => by
    rw [List.mem_singleton.mp hp]
    exact ⟨Heap.get?_push_at rfl rfl, f1, f2, f3, fun v e => nomatch e⟩
  have pa : PA (ncx CX P w K mg base N (NFof name qual params (.Expr (.Call (.Attribute (.Call (.Name "super" p0) [] [] p1) "__init__" p2) [.Constant (.str txt) j p3] [] p4) p5 :: rest) scope cda cc) f A outer s H E) [.Constant (.str txt) j p3] (tCons (tC (.str txt)) tNil) := pa_cons pe_str pa_nil
  refine PySem.W.kxs_callWith (i := initId) (x := a) rfl ?_
  refine Calls.evalArgs_plain ?_
  refine thn (pa.run p4 _ _ _ H (fun vs H1 => vs = [V.str txt] ∧ H = H1) I3 ⟨rfl, rfl⟩) fun us1 s1 hh => ?_
  obtain ⟨vs1, H1, J, r1, ev, eH⟩ := hh
  subst ev
  subst eH
  cases r1 with
  | cons ru rn =>
    cases rn
    obtain ⟨hmw, _⟩ := J.pin _ (List.mem_append_right _ List.mem_cons_self)
    obtain ⟨t2, ho2⟩ := exo_at J.hok ea
    refine ⟨hmw, ?_⟩
    obtain ⟨hp, g, d, t', os⟩ := s1
    refine PySem.Sx.bound_init T.base (J.kIn _ _ hC) ho2 hmw (by show 1 ≤ sizeLine; decide) fun h' t3 k3 e3 => ?_
    have L := (J.pins_of (pins' := []) fun p hp => nomatch hp).write (t' := t') (x := a) (e := a) (o := exo a C none) (by rw [ea]; exact True.intro) (.inl rfl) k3 ⟨_, e3⟩ (exo_ok e3)
    have eu : upd H a (exo a C none) = H := by
      funext b
      by_cases hb : b = a
      · rw [hb, upd_same, ea]
      · rw [upd_ne hb]
    rw [eu] at L
    refine wpAt_of_wpAny (wpAny_mono (ht.run [] _ (startF N vs [none]) H _ L hq) (fun fl s' hs => ?_) fun e s' hs => hs)
    have fin : ∀ {σ' : L2.St} {H' : Hp} {v : V} {u : Value}, L2.Inv (ncx CX P w K mg base N (NFof name qual params (.Expr (.Call (.Attribute (.Call (.Name "super" p0) [] [] p1) "__init__" p2) [.Constant (.str txt) j p3] [] p4) p5 :: rest) scope cda cc) f A outer s H E) [] σ' H' s' → L2.RelV v u → Q v H' → CE outer P w H s Q u s' :=
      fun {σ' H' v u} M rv q => ⟨v, H', M.os, M.bare, M.base, M.hok, rv, q⟩
    cases fl with
    | ret u =>
      obtain ⟨v, σ', H', M, rv, q⟩ := hs
      exact fin M rv q
    | next =>
      obtain ⟨σ', H', M, q⟩ := hs
      exact fin (v := V.non) (u := Value.none) M rfl q
    | brk =>
      obtain ⟨_, _, _, q⟩ := hs
      exact q.elim
    | cont =>
      obtain ⟨_, _, _, q⟩ := hs
      exact q.elim
end
end Sl
/-! ## Q5 -/
set_option Elab.async false
set_option linter.all false
set_option maxRecDepth 100000
set_option maxHeartbeats 4000000
namespace Sl
open PySem PySem.Spec PyProof.Rows L2 NdefX
/-- self.f = e on an own error, the first field -/
def tFirst (K : PySem.W.Frag) (C : Addr) (f : Str) (to te : TE) : TS := fun D σ H => te σ H fun y H1 => to σ H1 fun x H2 => ∃ a : Addr, x = .ref a ∧ H2 a = some (exo a C none) ∧ PySem.W.findIn K (.ref C) f = some none ∧
  ∀ dx, H2 dx = none → dx ≠ a → D.nx σ (upd (upd H2 dx (exd dx [(f, y)])) a (exo a C (some dx)))
/-- C(e), C's own __init__ of one parameter that lays it in the field f -/
def tOne (C : Addr) (f : Str) (ta : TA) : L2.St → Hp → XK → Prop := fun σ H Q => ta σ H fun vs H1 => ∃ y : V, vs = [y] ∧ ∀ d, H1 d = none → Q (.ref C) (some d) (upd H1 d (.xd [(f, y)]))
/-- what such an __init__ promises -/
def spInit1 (C : Addr) (f : Str) : Sp := fun vs H Q _ => ∃ (a : Addr) (y : V), vs = [.ref a, y] ∧ H a = some (exo a C none) ∧ ∀ dx, H dx = none → dx ≠ a → Q .non (upd (upd H dx (exd dx [(f, y)])) a (exo a C (some dx)))
section
variable {X : Cx} {o e : Expr} {to te : TE} {ta : TA} {f : Str} {p p' pos : Pos} {C : Addr} {B newId initId : String} {tl : List Value}
theorem ps_first (T : PySem.Sx.Tl B newId initId tl) (O : OneC X.K C newId tl) (ho : PE X o to) (he : PE X e te) (hs : swapsWith e (some (.Attribute o f p')) pos.line X.env = pure false := by rfl) : PS X (.Assign [.Attribute o f p'] e pos) (tFirst X.K C f to te) := by
  refine ⟨fun pins s σ H D I h => ?_⟩
  refine plainObj_wpAny_Assign_Attribute (thn (he.run pins s σ H _ I h) fun v s1 ⟨y, H1, I1, r1, q1⟩ => thn (ho.run pins s1 σ H1 _ I1 q1) fun u s2 ⟨x, H2, I2, r2, a, ex, ea, hno, q⟩ => ?_) hs
  subst ex
  obtain rfl : u = Value.ref a := r2
  exact first_field T O I2 ea hno r1 fun dx s' n ne J => ⟨σ, _, J, q dx n ne⟩
theorem pmk_one {CX : CXT} {x : Str} {fI : Addr} {k : Nat} {fd : FuncData} {ps : List Str} (T : PySem.Sx.Tl B newId initId tl) (O : OneC X.K C newId tl) (iC : PySem.W.findIn X.K (.ref C) "__init__" = some (some (.ref fI))) (tI : PySem.W.typeIn X.K (.ref fI) = some (.type "function"))
    (G : FnOk X.prog X.w X.K X.mg X.base CX k fI fd ps (spInit1 C f)) (hr : Room (k + 1) X.A) (hb : Binds X.K fd ps []) (hx : Passes CX X (fun _ _ _ => False)) (hg : Gl X x) (hm : X.mg x = some (.ref C)) (ha : PA X [e] ta)
    (hdb : (x == ("__debug__" : Str)) = false := by decide) (he : starEach [e] X.env = (false, eval e X.env) :: starEach [] X.env := by rfl) (hpl : (backTo pos (starEach [] X.env)).any (·.1) = false := by rfl) :
    PMk X (.Call (.Name x p) [e] [] pos) (tOne C f ta) := by
  intro pins s σ H Q I h
  obtain ⟨nm, q, N, bs, rs, sn, sub, ab, col, dd, k0, k1, k2, k3, k5, hC⟩ := O.cls
  refine wpAny_Call_Name_kw (ld_glob I hg hm ?_ hdb)
  refine PySem.W.callWith_K (h₀ := X.base) I.ok.mod.kin O.kC (thn (ha.run pos pins s σ H _ I h) fun us s1 ⟨vs, H1, I1, r1, y, ev, q1⟩ => ⟨I1.kIn, ?_⟩) he hpl
  subst ev
  show wpAny _ _ (call (.ref C) us) _ _ _
  obtain ⟨hp, g, dr, tk, os⟩ := s1
  have after : hp.objs.size ≤ hp.objs.size + 1 := Nat.le_succ _
  have fresh : H1 (hp.objs.size + 1) = none := I1.hok.fresh after
  have up : ∀ b o, hp.get? b = some o → ((hp.push (PySem.W.kdv_tup us)).push (PySem.HandSPX.excO C hp.objs.size)).get? b = some o := fun b o z => Heap.get?_push_of_some _ (Heap.get?_push_of_some _ z)
  have made : ((hp.push (PySem.W.kdv_tup us)).push (PySem.HandSPX.excO C hp.objs.size)).get? (hp.objs.size + 1) = some (PySem.HandSPX.excO C hp.objs.size) := by heap_get
  have I2 : L2.Inv X pins σ (upd H1 (hp.objs.size + 1) (exo (hp.objs.size + 1) C none)) ⟨(hp.push (PySem.W.kdv_tup us)).push (PySem.HandSPX.excO C hp.objs.size), g, dr, tk, os⟩ :=
    I1.laid (t' := tk) (a := hp.objs.size + 1) (o := exo (hp.objs.size + 1) C none) (h' := (hp.push (PySem.W.kdv_tup us)).push (PySem.HandSPX.excO C hp.objs.size)) up after (exo_ok made)
  have r2 : Vals [V.ref (hp.objs.size + 1), y] (Value.ref (hp.objs.size + 1) :: us) := .cons rfl r1
  have us1 : us.length = 1 := (Paired.length r1).symm
  have hsp : spInit1 C f [V.ref (hp.objs.size + 1), y] (upd H1 (hp.objs.size + 1) (exo (hp.objs.size + 1) C none)) (fun v H2 => v = .non ∧ ∃ d, H1 d = none ∧ H2 (hp.objs.size + 1) = some (exo (hp.objs.size + 1) C (some d)) ∧ H2 d = some (exd d [(f, y)]) ∧ Q (.ref C) (some d) (upd (del H2 (hp.objs.size + 1)) d (.xd [(f, y)]))) (fun _ _ _ => False) := by
    refine ⟨_, y, rfl, upd_same, fun dx n ne => ⟨rfl, dx, ?_, upd_same, ?_, ?_⟩⟩
    · rw [upd_ne ne] at n
      exact n
    · rw [upd_ne ne, upd_same]
    · have n1 : H1 dx = none := by
        rw [upd_ne ne] at n
        exact n
      have eq : upd (del (upd (upd (upd H1 (hp.objs.size + 1) (exo (hp.objs.size + 1) C none)) dx (exd dx [(f, y)])) (hp.objs.size + 1) (exo (hp.objs.size + 1) C (some dx))) (hp.objs.size + 1)) dx (.xd [(f, y)]) = upd H1 dx (.xd [(f, y)]) := by
        funext b
        by_cases c : b = dx
        · rw [c, upd_same, upd_same]
        · rw [upd_ne c, upd_ne c]
          by_cases c2 : b = hp.objs.size + 1
          · rw [c2, del_same, fresh]
          · rw [del_ne c2, upd_ne c2, upd_ne c, upd_ne c2]
      rw [eq]
      exact q1 dx n1
  have hl : (Value.ref (hp.objs.size + 1) :: us).length = ps.length := by
    rw [← G.len _ _ _ _ hsp, List.length_cons, us1]
    rfl
  have hbi := hb _ (Value.ref (hp.objs.size + 1) :: us) I2.kIn (by rw [List.append_nil]; exact hl)
  rw [List.append_nil] at hbi
  refine wpAny_call (PySem.HandSPX.call_own T.base (fun Y => PySem.Sx.over_has Y rs) (I1.kIn _ _ hC) (PySem.W.looks_findIn I1.kIn iC) (fun self => PySem.W.bind_fn I1.kIn self tI) (by rw [us1]; decide)
    (codeAny_mono (G.run _ X.stack _ _ ⟨Value.ref (hp.objs.size + 1) :: us, []⟩ (Value.ref (hp.objs.size + 1) :: us) _ _ (fun _ _ _ => False) (hr.make C us []) (I2.env0.make C us []) hbi r2 hsp) fun r s' hq' => ?_))
  cases r with
  | error er => exact hx pins σ _ _ er s' I2 hq'
  | ok fl =>
    cases fl with
    | ret u =>
      obtain ⟨v, H2, os2, bare2, un2, hok2, rv, ev, d, hd1, ea, ed, q2⟩ := hq'
      subst ev
      obtain ⟨h2, g2, d2, t2, os'⟩ := s'
      exact ⟨rv, mk_end (raises_own O.exC O.tyC) I1 after up un2 hok2 os2 bare2 ea ed hd1 q2⟩
    | next => exact hq'.elim
    | brk => exact hq'.elim
    | cont => exact hq'.elim
end
end Sl
/-! ## Q6 -/
set_option Elab.async false
set_option linter.all false
set_option maxRecDepth 100000
set_option maxHeartbeats 4000000
/-! try: body, then several clauses 'except x as n', one name n for all -/
namespace Sl
open PySem PySem.Spec PyProof.Rows L2
abbrev Cl := Value × (Addr → Value → Option Addr → TS)
/-- behind a suite its name is gone -/
abbrev ungone (i : Nat) (D : Ends) : Ends := { nx := fun σ H => D.nx (σ.set i none) H, rt := D.rt, bk := fun σ H => D.bk (σ.set i none) H, ct := fun σ H => D.ct (σ.set i none) H }
def wAsL (K : PySem.W.Frag) (i : Nat) (Wout : WX) (D : Ends) : List Cl → WX
  | [] => Wout
  | p :: r => fun cls d σ H => ∃ b, PySem.W.exmOne K cls p.1 = some b ∧ if b = true then ∀ a, H a = none → p.2 a cls d (ungone i D) (σ.set i (some (.ref a))) H else wAsL K i Wout D r cls d σ H
inductive AsOk (X : Cx) (n : Str) : List ExceptHandler → List Cl → Prop
  | nil : AsOk X n [] []
  | cons {x : Str} {p : Cl} {b₀ : Stmt} {suite : List Stmt} {np pos' : Pos} {hds : List ExceptHandler} {l : List Cl} (hc : Names X x p.1)
      (hsu : ∀ (a : Addr) (oe : Obj) (cls : Value) (d : Option Addr) (pn : List (Addr × Obj)), Zc cls d oe → (∃ vs, oe.data = .fields vs) → PSs (X.suite a ((a, oe) :: pn)) (b₀ :: suite) (p.2 a cls d)) (r : AsOk X n hds l) :
      AsOk X n (.ExceptHandler (some (.Name x np)) (some n) (b₀ :: suite) pos' :: hds) (p :: l)
section
variable {X : Cx} {n : Str} {i : Nat} {body : List Stmt} {h₀ : ExceptHandler} {hds : List ExceptHandler} {l : List Cl} {pos : Pos} {tb : WX → TS} {Wout : WX}
theorem ps_try_asL (hs : X.stack = X.env :: X.outer) (hf : X.env.frame = some X.env.locals) (hN : X.N.Nodup) (hi : X.N[i]? = some n) (hln : X.env.kindOf n = some .local) (tk : Takes X Wout)
    (hb : ∀ (W : WX) (pn : List (Addr × Obj)) (xe : Value → Shared → Prop), Takes (X.tr pn xe) W → PassesOwn (model X.prog X.w) X.A X.env xe → PSs (X.tr pn xe) body (tb W))
    (hh : AsOk X n (h₀ :: hds) l) : PS X (.Try body (h₀ :: hds) [] [] pos) (fun D σ H => tb (wAsL X.K i Wout D l) D σ H) := by
  refine ⟨fun pins s σ H D I h => ?_⟩
  have ok := I.ok
  have loc : Loc X.env.scope n := .inl hln
  refine wpAny_Try_except ?_
  refine wpAny_mono ((hb (wAsL X.K i Wout D l) (X.pn ++ pins) (fun e s₁ => wpAny (model X.prog X.w) X.A (noteFrame e X.env) (fun _ s₂ => wpAny (model X.prog X.w) X.A (setFlight e none) (fun _ s₃ =>
    wpAny (model X.prog X.w) X.A (handleBy e X.env (h₀ :: hds)) (SP X pins D) X.xe s₃) X.xe s₂) X.xe s₁) (fun u s' xx => ?_) PassesOwn.looking).run [] s σ H D (I.toTry _) h) (fun f s1 hsp => ?_) (fun e s1 he => he)
  · obtain ⟨a, B, sI, pins', σ', H', cls, d, rfl, J', nb, up, sky, na, os, ag, wish⟩ := xx
    have J : L2.Inv X pins σ' H' sI := J'.ofTry ok
    show wpAny (model X.prog X.w) X.A (noteFrame (.ref a) X.env) _ _ _
    refine Sky.land Zc.steady (by rw [ok.frames, hs]) hf (by rw [← hs]; exact sky) fun h3 fl3 up3 => ?_
    have J3 : L2.Inv X pins σ' H' { s' with heap := h3 } := J.landed nb fl3.1 (up.trans up3) os ag
    obtain ⟨oe3, vs3, he3, hz3, hd3⟩ := fl3.there
    have off : a ∉ frs (X.env :: X.outer) := fun hm => by
      obtain ⟨_, o', e', hnf⟩ := fl3.2.2.1.mem hm
      rw [he3] at e'
      cases e'
      exact hnf _ hd3
    have nL : a ≠ X.env.locals := fun z => off (List.mem_filterMap.mpr ⟨X.env, List.mem_cons_self, by rw [hf, z]⟩)
    have nF : a ∉ X.fs := fun hm => by
      obtain ⟨e, he, q⟩ := List.mem_filterMap.mp hm
      exact off (List.mem_filterMap.mpr ⟨e, List.mem_cons_of_mem _ he, q⟩)
    have S3 := J3.suite he3 hd3 na nL nF
    have LT : PySem.W.Looks (model X.prog X.w) h3 (typeOf (.ref a)) cls := fun A Q E s k q => wpAny_typeOf_ref (k _ _ he3) (by rw [hz3.1]; exact q)
    have go : ∀ {hs' : List ExceptHandler} {l' : List Cl}, AsOk X n hs' l' → wAsL X.K i Wout D l' cls d σ' H' → wpAny (model X.prog X.w) X.A (handleBy (.ref a) X.env hs') (SP X pins D) X.xe { s' with heap := h3 } := by
      intro hs' l' hk
      induction hk with
      | nil =>
        intro w
        refine wpAny_handleBy_nil ?_
        obtain ⟨k1, k2, k3, oe, vs, T, oT, ts', he, hz, hd, h1, hr⟩ := id fl3
        unfold PySem.passOn
        refine wpAny_bind (wpAny_field he hd h1 ?_)
        rw [if_neg (show ¬ ((Value.ref T == Value.none) = true) from by simp)]
        have fin : wpAny (model X.prog X.w) X.A (setFlight (.ref a) X.env.frame) (fun _ s4 => wpAny (model X.prog X.w) X.A (throw (.ref a) : Sem Flow) (SP X pins D) X.xe s4) X.xe { s' with heap := h3 } := by
          rw [hf]
          refine HandSPX.setFlight_upZ fl3 fun h4 hh4 up4 => wpAny_throw (tk _ _ ?_)
          exact ⟨a, B, sI, pins, σ', H', cls, d, rfl, J, nb, (up.trans up3).trans up4, .inr (.inr (by rw [hs]; exact hh4)), na, os, ag, w⟩
        first
          | exact wpAny_bind (wpAny_pure (wpAny_bind fin))
          | exact wpAny_bind fin
      | @cons x p b₀ suite np pos' hds2 l2 hc hsu r ih =>
        intro w
        obtain ⟨b, hb1, w⟩ := w
        refine wpAny_handleBy_cons (codeAny_handlers_test ?_) (by intro q; cases q)
        have LM := PySem.W.exm_one (M := model X.prog X.w) (J3.kIn) LT hb1
        have test : ∀ {Q : Value → Shared → Prop} {E : Value → Shared → Prop}, Q p.1 { s' with heap := h3 } → wpAny (model X.prog X.w) (X.A.mark (some (.ref a))) (eval (.Name x np) X.env) Q E { s' with heap := h3 } := fun {Q E} q => by
          obtain ⟨hg, hdbg, hm | ⟨hm, hv, hnn⟩⟩ := hc
          · exact ld_glob (X := X.suite a ((a, oe3) :: (X.pn ++ pins))) S3 hg hm q hdbg
          · exact ld_blt (X := X.suite a ((a, oe3) :: (X.pn ++ pins))) S3 hg hm hv q hnn hdbg
        refine test (LM.here ?_)
        cases b with
        | false =>
          show wpAny _ X.A (handleBy (.ref a) X.env hds2) _ _ _
          exact ih w
        | true =>
          refine codeAny_handlers_suite_as ?_
          refine HandSPX.lands_againZ fl3 fun h4 fl4 up4 => ?_
          have J4 : L2.Inv X pins σ' H' { s' with heap := h4 } := J.landed nb fl4.1 ((up.trans up3).trans up4) os ag
          obtain ⟨oe4, vs4, he4, hz4, hd4⟩ := fl4.there
          refine store_ok (X := X.suite a ((a, oe4) :: (X.pn ++ pins))) (v := .ref a) (J4.suite he4 hd4 na nL nF) hN hi loc rfl (fun s5 S5 => ?_) (.inr hln)
          refine wpAny_mono ((hsu a oe4 cls d (X.pn ++ pins) hz4 ⟨_, hd4⟩).run [] s5 _ H' _ S5 (w a na)) (fun f s6 hsp => ?_) (fun _ _ z => z.elim)
          have bye : ∀ {σ6 : L2.St} {H6 : Hp} {Q : Shared → Prop}, L2.Inv (X.suite a ((a, oe4) :: (X.pn ++ pins))) [] σ6 H6 s6 → (∀ s7, L2.Inv X pins (σ6.set i none) H6 s7 → Q s7) →
              wpAny (model X.prog X.w) X.A (do bindName X.env n .none; unbindBehindTheSuite X.env n pos') (fun _ s7 => Q s7) X.xe s6 := fun {σ6 H6 Q} S6 hq => gone_ok (S6.unsuite ok) hN hi hln hq
          cases f with
          | ret u =>
            obtain ⟨v6, σ6, H6, S6, r6, q6⟩ := hsp
            exact bye S6 fun s7 J7 => ⟨_, _, _, J7, r6, q6⟩
          | _ =>
            obtain ⟨σ6, H6, S6, q6⟩ := hsp
            exact bye S6 fun s7 J7 => ⟨_, _, J7, q6⟩
    exact go hh wish
  · cases f with
    | next =>
      obtain ⟨σ', H', J', q⟩ := hsp
      exact wpAny_execs_nil ⟨σ', H', J'.ofTry ok, q⟩
    | ret u =>
      obtain ⟨v, σ', H', J', r, q⟩ := hsp
      exact ⟨v, σ', H', J'.ofTry ok, r, q⟩
    | _ =>
      obtain ⟨σ', H', J', q⟩ := hsp
      exact ⟨σ', H', J'.ofTry ok, q⟩
end
end Sl
/-! ## Q7 -/
set_option Elab.async false
set_option linter.all false
set_option maxRecDepth 100000
set_option maxHeartbeats 4000000
/-! repr of what is nested; defs that call it: nothing is being shown around them -/
namespace Sl
open PySem PySem.Spec PyProof.Rows L2
/-- as FnOk, where nothing is being shown around the call -/
structure FnG (P : Program) (w : World) (K : PySem.W.Frag) (mg : Str → Option Value) (base : Heap) (CX : CXT) (k : Nat) (f : Addr) (fd : FuncData) (ps : List Str) (sp : Sp) : Prop where
  len : ∀ vs H Q E, sp vs H Q E → vs.length = ps.length
  run : ∀ (A : Around) (outer : List Env) (s : Shared) (H : Hp) (args : Args) (us : List Value) (vs : List V) (Q : VK) (E : XK), A.guards = some [] → Room k A → Env0 P w K mg base A outer s H → BindsTo s fd args (ps.zip us) → Vals vs us → sp vs H Q E →
    codeAny (model P w) A (.call (.ref f) args) (CR CX outer P w H s Q E) s
theorem deeper_guards {A : Around} (env : Env) (g : A.guards = some []) : (A.deeper env).guards = some [] := by
  show A.guards = some []
  exact g
section
variable {P : Program} {w : World} {K : PySem.W.Frag} {mg : Str → Option Value} {base : Heap}
theorem Fun.okG {CX : CXT} {x qual : Str} {st : Stmt} {f : Addr} {fd : FuncData} {N ps : List Str} {k : Nat} {sp : Sp} (F : Fun K x qual st f fd) (S : FnScope N ps (defScope st)) (len : ∀ vs H Q E, sp vs H Q E → vs.length = ps.length)
    (hbody : ∀ (cdv : Value) (A : Around) (outer : List Env) (s : Shared) (H : Hp) (vs : List V) (Q : VK) (E : XK), (A.deeper (envOfC qual (defScope st) s.heap.objs.size f cdv)).guards = some [] → Room k (A.deeper (envOfC qual (defScope st) s.heap.objs.size f cdv)) → sp vs H Q E →
      ∃ t, PSs (cxOf CX P w K mg base N qual (defScope st) f cdv A outer s H E) (defBody st) t ∧ t { nx := fun _ H' => Q .non H', rt := Q } (start N vs) H) : FnG P w K mg base CX (k + 1) f fd ps sp := by
  obtain ⟨oc, od, kV, doc, pm, an, cdv, ct, osl, rfl, lk, hcd⟩ := F.ex
  refine ⟨len, fun A outer s H args us vs Q E hg hr e0 hb r hsp => ?_⟩
  have hl := len _ _ _ _ hsp
  have kin : K.In s.heap := e0.mod.kin.keeps fun b o e => (e0.bs b o e).1
  have lim : s.heap.NoLimit := e0.mod.nolimit.keeps fun b o e => (e0.bs b o e).1
  refine codeAny_call_function hr.depth (kin _ _ lk) rfl S.co S.gen rfl (PySem.W.codeRec_of kin hcd) (hb _ _ _ _ ?_)
  refine wpAny_newFunctionEnv_cells S.kind (fun ⟨n, v⟩ hy => ?_) fun env he s1 x => ?_
  · rcases S.par n (List.of_mem_zip hy).1 with q | q
    · exact .inl q
    · exact .inr ⟨q, PySem.W.cellsFrom_some _ _ _ (.inl q)⟩
  subst he
  refine ⟨lim.keeps x.toInCall.keep, codeAny_func ?_⟩
  obtain ⟨t, ht, hq⟩ := hbody cdv A outer s H vs Q E (deeper_guards _ hg) (hr.deeper _) hsp
  have I : L2.Inv (cxOf CX P w K mg base N qual (defScope st) f cdv A outer s H E) [] (start N vs) H s1 := inv_start S hr.hd e0 hl r x
  refine wpAny_mono (ht.run [] s1 (start N vs) H _ I hq) (fun fl s' hs => ?_) fun e s' hs => hs
  have fin : ∀ {σ' : L2.St} {H' : Hp} {v : V} {u : Value}, L2.Inv (cxOf CX P w K mg base N qual (defScope st) f cdv A outer s H E) [] σ' H' s' → L2.RelV v u → Q v H' → CE outer P w H s Q u s' :=
    fun {σ' H' v u} J rv q => ⟨v, H', J.os, J.bare, J.base, J.hok, rv, q⟩
  cases fl with
  | ret u =>
    obtain ⟨v, σ', H', J, rv, q⟩ := hs
    exact fin J rv q
  | next =>
    obtain ⟨σ', H', J, q⟩ := hs
    exact fin (v := V.non) (u := Value.none) J rfl q
  | brk =>
    obtain ⟨_, _, _, q⟩ := hs
    exact q.elim
  | cont =>
    obtain ⟨_, _, _, q⟩ := hs
    exact q.elim
end
section
variable {X : Cx} {CX : CXT} {k : Nat} {f : Addr} {fd : FuncData} {ps : List Str} {sp : Sp} {E : XK} {x : Str} {p pos : Pos} {e : Expr} {es : List Expr} {t : TA}
theorem pe_callG (G : FnG X.prog X.w X.K X.mg X.base CX k f fd ps sp) (gd : X.A.guards = some []) (hr : Room k X.A) (hg : Gl X x) (hm : X.mg x = some (.ref f)) (hk : PySem.W.keepIn X.K (.ref f) = true) (hb : L2.Binds X.K fd ps []) (hx : Passes CX X E)
    (ha : PA X (e :: es) t) (hdb : (x == ("__debug__" : Str)) = false := by decide) (he : starEach (e :: es) X.env = (false, eval e X.env) :: starEach es X.env := by rfl) (hpl : (backTo pos (starEach es X.env)).any (·.1) = false := by rfl) :
    PE X (.Call (.Name x p) (e :: es) [] pos) (tCall sp [] E t) := by
  refine ⟨fun pins s σ H Q I h => ?_⟩
  refine wpAny_Call_Name_kw (ld_glob I hg hm ?_ hdb)
  refine PySem.W.callWith_K (h₀ := X.base) I.ok.mod.kin hk (thn (ha.run pos pins s σ H _ I h) fun us s1 ⟨vs, H1, I1, r, q⟩ => ⟨I1.kIn, ?_⟩) he hpl
  have q : sp (vs ++ []) H1 _ E := q
  rw [List.append_nil] at q
  have hl : us.length = ps.length := by rw [← r.length]; exact G.len _ _ _ _ q
  have b := hb s1 us I1.kIn (by rw [List.append_nil]; exact hl)
  rw [List.append_nil] at b
  refine wpAny_call (codeAny_mono (G.run X.A X.stack s1 H1 ⟨us, []⟩ us vs _ E gd hr I1.env0 b r q) fun c s' hq => ?_)
  cases c with
  | error er => exact hx pins σ H1 s1 er s' I1 hq
  | ok fl =>
    cases fl with
    | ret u => exact I1.after hq
    | next => exact hq.elim
    | brk => exact hq.elim
    | cont => exact hq.elim
/-- repr of a list or tuple, however nested, without dicts -/
def rShown (K : PySem.W.Frag) : List V → Hp → VK → Prop := fun xs H Q => ∃ (a : Addr) (d : PyData), xs = [.ref a] ∧ Dp K H (.ref a) d ∧ d.showable = true ∧ d.hasDict = false ∧ d.depth ≤ 60 ∧ d.shown.length ≤ sizeLine ∧ Q (.str d.shown) H
theorem cr_shown (gd : X.A.guards = some []) (hu : X.A.units + 64 < cLine) : CallR X (.builtin "repr") (rShown X.K) := by
  intro pins s σ H xs us Q I r h
  obtain ⟨a, d, rfl, hd, sh, nd, dp, sz, q⟩ := h
  cases r with
  | cons ru rn =>
    cases rn
    obtain ⟨as, rd⟩ := Dp.reads I d _ _ hd ru
    cases ru
    exact repr_of_reads' rd sh (PyData.noDict_hsm nd) gd (by omega) (fun _ _ z => z) (fun h' u tk kk => ⟨.str d.shown, H, I.kept (t' := tk) kk, ⟨_, rfl⟩, q⟩) sz
end
end Sl
/-! ## X1 -/
set_option Elab.async false
set_option linter.all false
set_option maxRecDepth 100000
set_option maxHeartbeats 1000000
/-! rows of moves compared by == : how the values compare -/
namespace Sl
open PySem PySem.Spec PyProof.Rows L2
section
variable {X : Cx} {pins : List (Addr × Obj)} {σ : L2.St} {H : Hp} {s : Shared}
theorem toldV_flat (o : Option Str) : flatV (toldV o) = true := by cases o <;> rfl
theorem toldV_eq (o o' : Option Str) : eqV (toldV o) (toldV o') = decide (o = o') := by
  cases o with
  | none => cases o' with
    | none => rfl
    | some z => rfl
  | some y => cases o' with
    | none => rfl
    | some z =>
      show (y == z) = _
      by_cases c : y = z
      · subst c
        simp
      · rw [decide_eq_false (fun e => c (Option.some.inj e))]
        exact beq_eq_false_iff_ne.mpr c
theorem toldV_inj {o o' : Option Str} (h : toldV o = toldV o') : o = o' := by
  cases o <;> cases o' <;> first | rfl | (injection h with h; rw [h]) | cases h
/-- two moves -/
theorem mv_tree (I : Inv X pins σ H s) {t t' : Addr} {m m' : Mv} (n : Nat) (a : H t = some (.tup [.int m.1, toldV m.2])) (b : H t' = some (.tup [.int m'.1, toldV m'.2])) : PySem.W.EqTree X.prog X.w s (n + 1) (.ref t) (.ref t') (decide (m = m')) := by
  by_cases c : t = t'
  · subst c
    rw [a] at b
    injection b with b
    injection b with b
    injection b with b1 b2
    injection b1 with b1
    injection b2 with b2 _
    have e : m = m' := Prod.ext b1 (toldV_inj b2)
    rw [decide_eq_true e]
    exact .same
  · obtain ⟨us, r, p, _⟩ := I.tuple (SqT.of (K := X.K) a)
    obtain ⟨ws, r', p', _⟩ := I.tuple (SqT.of (K := X.K) b)
    cases r with
    | @cons _ v1 _ _ u1 r => cases r with
      | @cons _ v2 _ _ u2 r =>
        cases r
        cases r' with
        | @cons _ z1 _ _ w1 r' => cases r' with
          | @cons _ z2 _ _ w2 r' =>
            cases r'
            have q := PySem.W.EqTree.tuples (prog := X.prog) (w := X.w) (n := n) (e := fun j => if j = 0 then decide (m.1 = m'.1) else decide (m.2 = m'.2)) c p p' fun j h1 h2 => ?_
            · have e : ((List.range (min (List.toArray [v1, v2]).size (List.toArray [z1, z2]).size)).all (fun j => if j = 0 then decide (m.1 = m'.1) else decide (m.2 = m'.2)) && (List.toArray [v1, v2]).size == (List.toArray [z1, z2]).size) = decide (m = m') := by
                show ((decide (m.1 = m'.1) && (decide (m.2 = m'.2) && true)) && true) = _
                obtain ⟨x, y⟩ := m
                obtain ⟨x', y'⟩ := m'
                simp [Prod.mk.injEq]
              rw [← e]
              exact q
            · match j, h1 with
              | 0, _ => 
                show PySem.W.EqTree X.prog X.w s n v1 z1 (decide (m.1 = m'.1))
                refine .leaf fun A hu => ?_
                have q := eqAt_V (A := A) (s := s) u1 w1 rfl rfl
                have e : eqV (.int m.1) (.int m'.1) = decide (m.1 = m'.1) := by
                  show (m.1 == m'.1) = _
                  rfl
                rw [← e]
                exact q
              | 1, _ => 
                show PySem.W.EqTree X.prog X.w s n v2 z2 (decide (m.2 = m'.2))
                refine .leaf fun A hu => ?_
                rw [← toldV_eq]
                exact eqAt_V u2 w2 (toldV_flat _) (toldV_flat _)
end
end Sl
/-! ## X2 -/
set_option Elab.async false
set_option linter.all false
set_option maxRecDepth 100000
set_option maxHeartbeats 1000000
/-! a row compared by ==, lists of rows -/
namespace Sl
open PySem PySem.Spec PyProof.Rows L2
theorem MvAt.inj {H : Hp} {t : Addr} {m m' : Mv} (a : MvAt H t m) (b : MvAt H t m') : m = m' := by
  unfold MvAt at a b
  rw [a] at b
  injection b with b
  injection b with b
  injection b with b1 b2
  injection b1 with b1
  injection b2 with b2 _
  exact Prod.ext b1 (toldV_inj b2)
theorem Ents.inj {H : Hp} : ∀ {es : List (Str × Addr)} {r r' : Rw}, Ents H es r → Ents H es r' → r = r'
  | _, _, _, .nil, .nil => rfl
  | _, _, _, .cons a p, .cons b q => by rw [MvAt.inj a b, p.inj q]
theorem kvsOf_inj : ∀ {es es' : List (Str × Addr)}, kvsOf es = kvsOf es' → es = es'
  | [], [], _ => rfl
  | [], _ :: _, h => by cases h
  | _ :: _, [], h => by cases h
  | (z, t) :: es, (z', t') :: es', h => by
    unfold kvsOf at h
    rw [List.map_cons, List.map_cons] at h
    injection h with h1 h2
    injection h1 with h3 h4
    injection h3 with h3
    injection h4 with h4
    have h3 : z = z' := h3
    have h4 : t = t' := h4
    rw [h3, h4, kvsOf_inj (es := es) (es' := es') h2]
theorem RowAt.inj {H : Hp} {d : Addr} {r r' : Rw} (a : RowAt H d r) (b : RowAt H d r') : r = r' := by
  obtain ⟨es, e, h⟩ := a
  obtain ⟨es', e', h'⟩ := b
  rw [e] at e'
  injection e' with e'
  injection e' with e'
  rw [kvsOf_inj e'] at h
  exact h.inj h'
theorem kvs_val {H : Hp} (z : Str) : ∀ {es : List (Str × Addr)} {r : Rw} {x : V}, Ents H es r → valV (kvsOf es) (.inr z) = some x → ∃ t m, x = .ref t ∧ r.lookup z = some m ∧ MvAt H t m
  | _, _, _, .nil, e => by cases e
  | _, _, x, .cons (z := y) (t := t) (m := m) (es := es) a p, e => by
    by_cases c : y = z
    · subst c
      have q : valV (kvsOf ((y, t) :: es)) (.inr y) = some (V.ref t) := valV_pos (κ := Key) (p := (Sum.inr y, V.ref t)) rfl
      rw [q] at e
      injection e with e
      exact ⟨t, m, e.symm, by rw [List.lookup_cons_self], a⟩
    · have q : valV (kvsOf ((y, t) :: es)) (.inr z) = valV (kvsOf es) (.inr z) := valV_neg (κ := Key) (p := (Sum.inr y, V.ref t)) (fun k => c (Sum.inr.inj k))
      rw [q] at e
      obtain ⟨t', m', e1, e2, e3⟩ := kvs_val z p e
      refine ⟨t', m', e1, ?_, e3⟩
      rw [List.lookup_cons, beq_eq_false_iff_ne.mpr (Ne.symm c)]
      exact e2
theorem kvs_none {H : Hp} (z : Str) : ∀ {es : List (Str × Addr)} {r : Rw}, Ents H es r → valV (kvsOf es) (.inr z) = none → r.lookup z = none
  | _, _, .nil, _ => rfl
  | _, _, .cons (z := y) (t := t) (m := m) (es := es) a p, e => by
    by_cases c : y = z
    · subst c
      rw [show valV (kvsOf ((y, t) :: es)) (.inr y) = some (V.ref t) from valV_pos (κ := Key) (p := (Sum.inr y, V.ref t)) rfl] at e
      cases e
    · rw [show valV (kvsOf ((y, t) :: es)) (.inr z) = valV (kvsOf es) (.inr z) from valV_neg (κ := Key) (p := (Sum.inr y, V.ref t)) (fun k => c (Sum.inr.inj k))] at e
      rw [List.lookup_cons, beq_eq_false_iff_ne.mpr (Ne.symm c)]
      exact kvs_none z p e
/-- what == of two rows answers -/
def rowEq (r r' : Rw) : Bool := r.length == r'.length && r.all fun e => decide (r'.lookup e.1 = some e.2)
theorem lookup_nodup {r : Rw} {e : Str × Mv} (nd : (r.map (·.1)).Nodup) (h : e ∈ r) : r.lookup e.1 = some e.2 := by
  induction r with
  | nil => cases h
  | cons p r ih =>
    rw [List.map_cons, List.nodup_cons] at nd
    obtain ⟨y, m⟩ := p
    rcases List.mem_cons.mp h with rfl | h
    · rw [List.lookup_cons_self]
    · have c : e.1 ≠ y := fun c => nd.1 (by
        have k : e.1 ∈ r.map (·.1) := List.mem_map_of_mem (f := (·.1)) h
        rw [c] at k
        exact k)
      rw [List.lookup_cons, beq_eq_false_iff_ne.mpr c]
      exact ih nd.2 h
theorem rowEq_self {r : Rw} (nd : (r.map (·.1)).Nodup) : rowEq r r = true := by
  unfold rowEq
  rw [beq_self_eq_true, Bool.true_and, List.all_eq_true]
  exact fun e he => decide_eq_true (lookup_nodup nd he)
section
variable {X : Cx} {pins : List (Addr × Obj)} {σ : L2.St} {H : Hp} {s : Shared}
theorem row_all {H : Hp} {r' : Rw} {es' : List (Str × Addr)} {vb : List (Key × Value)} (q : Ents H es' r') (rb : KV (kvsOf es') vb) {r : Rw} (f : Key → Bool) (hf : ∀ z m, (z, m) ∈ r → f (.inr z) = decide (r'.lookup z = some m)) :
    ∀ {es : List (Str × Addr)} {ro : Rw} {va : List (Key × Value)}, Ents H es ro → (∀ e ∈ ro, e ∈ r) → KV (kvsOf es) va → (va.all fun p => (valueAt vb p.1).isSome && f p.1) = ro.all fun e => decide (r'.lookup e.1 = some e.2) := by
  intro es ro va p
  induction p generalizing va with
  | nil => intro _ h; cases h; rfl
  | @cons z t m es ro a p ih =>
    intro hm h
    cases h with
    | @cons _ w _ vs h1 h2 =>
      obtain ⟨k, v⟩ := w
      obtain ⟨k1, _⟩ := h1
      have k1 : Sum.inr z = k := k1
      subst k1
      rw [List.all_cons, List.all_cons, ih (fun e he => hm e (List.mem_cons_of_mem _ he)) h2]
      congr 1
      show ((valueAt vb (Sum.inr z)).isSome && f (Sum.inr z)) = decide (r'.lookup z = some m)
      rw [hf z m (hm _ List.mem_cons_self)]
      have rr := rb.val (Sum.inr z : Key)
      cases e : valV (kvsOf es') (Sum.inr z : Key) with
      | none =>
        rw [kvs_none z q e]
        simp
      | some x =>
        rw [e] at rr
        obtain ⟨u, e2, _⟩ := rr.some_of
        rw [e2]
        simp
def rowF (r r' : Rw) : Key → Bool
  | .inr z => decide (r'.lookup z = r.lookup z)
  | .inl _ => false
/-- two rows -/
theorem row_tree (I : Inv X pins σ H s) {d d' : Addr} {r r' : Rw} (n : Nat) (nd : (r.map (·.1)).Nodup) (a : RowAt H d r) (b : RowAt H d' r') : PySem.W.EqTree X.prog X.w s (n + 2) (.ref d) (.ref d') (rowEq r r') := by
  by_cases c : d = d'
  · subst c
    rw [← a.inj b, rowEq_self nd]
    exact .same
  · obtain ⟨es, e, p⟩ := a
    obtain ⟨es', e', p'⟩ := b
    obtain ⟨_, ya, va, ra, da⟩ := (show ObjOk X.prog X.w H s.heap d (.dK (kvsOf es)) from I.hok d _ e)
    obtain ⟨_, yb, vb, rb, db⟩ := (show ObjOk X.prog X.w H s.heap d' (.dK (kvsOf es')) from I.hok d' _ e')
    have q := PySem.W.EqTree.dicts (prog := X.prog) (w := X.w) (n := n + 1) (e := rowF r r') c ya yb da db fun k v y hm hv => ?_
    · have l1 : va.length = r.length := by rw [← ra.length, ← p.len]; exact List.length_map ..
      have l2 : vb.length = r'.length := by rw [← rb.length, ← p'.len]; exact List.length_map ..
      rw [l1, l2, row_all p' rb (r := r) (rowF r r') (fun z m hm => by show decide (r'.lookup z = r.lookup z) = _; rw [lookup_nodup (e := (z, m)) nd hm]) p (fun e he => he) ra] at q
      exact q
    · obtain ⟨i, hi⟩ := List.mem_iff_getElem?.mp hm
      obtain ⟨x, hx, rx⟩ := KV.at' ra hi
      unfold kvsOf at hx
      rw [List.getElem?_map] at hx
      cases h1 : es[i]? with
      | none => rw [h1] at hx; cases hx
      | some t =>
        rw [h1] at hx
        injection hx with hx
        injection hx with h2 h3
        subst h2
        subst h3
        cases rx
        obtain ⟨m, h4, h5⟩ := p.at_ h1
        have rr := rb.val (Sum.inr t.1 : Key)
        rw [hv] at rr
        cases h6 : valV (kvsOf es') (Sum.inr t.1 : Key) with
        | none => rw [h6] at rr; exact (show False from rr).elim
        | some x' =>
          rw [h6] at rr
          obtain ⟨t', m', h7, h8, h9⟩ := kvs_val t.1 p' h6
          subst h7
          cases (show RelV (.ref t') y from rr)
          show PySem.W.EqTree X.prog X.w s (n + 1) (.ref t.2) (.ref t') (decide (r'.lookup t.1 = r.lookup t.1))
          rw [h8, lookup_nodup (e := (t.1, m)) nd (List.mem_of_getElem? h4)]
          have k := mv_tree I (t := t.2) (t' := t') (m := m) (m' := m') n h5 h9
          have k2 : decide (some m' = some m) = decide (m = m') := by
            by_cases c : m = m'
            · rw [c]
              simp
            · rw [decide_eq_false c, decide_eq_false (fun z => c (Option.some.inj z).symm)]
          rw [k2]
          exact k
end
end Sl
/-! ## X3 -/
set_option Elab.async false
set_option linter.all false
set_option maxRecDepth 100000
set_option maxHeartbeats 1000000
/-! two lists of rows compared by == -/
namespace Sl
open PySem PySem.Spec PyProof.Rows L2
/-- row by row -/
def rowsB : List Rw → List Rw → Bool
  | [], [] => true
  | a :: as, b :: bs => rowEq a b && rowsB as bs
  | _, _ => false
def rowAtB (rows rows' : List Rw) (i : Nat) : Bool := match rows[i]?, rows'[i]? with
  | some x, some y => rowEq x y
  | _, _ => false
theorem rowsB_range : ∀ {a b : List Rw}, a.length = b.length → (List.range a.length).all (rowAtB a b) = rowsB a b
  | [], [], _ => rfl
  | x :: a, y :: b, h => by
    have ih := rowsB_range (a := a) (b := b) (Nat.succ.inj h)
    rw [List.length_cons, List.range_succ_eq_map, List.all_cons, List.all_map]
    show (rowEq x y && (List.range a.length).all (fun i => rowAtB (x :: a) (y :: b) (i + 1))) = (rowEq x y && rowsB a b)
    rw [← ih]
    rfl
  | [], _ :: _, h => by cases h
  | _ :: _, [], h => by cases h
theorem rowsB_len : ∀ {a b : List Rw}, a.length ≠ b.length → rowsB a b = false
  | [], [], h => absurd rfl h
  | x :: a, y :: b, h => by
    show (rowEq x y && rowsB a b) = false
    rw [rowsB_len (a := a) (b := b) (fun e => h (congrArg (· + 1) e)), Bool.and_false]
  | [], _ :: _, _ => rfl
  | _ :: _, [], _ => rfl
section
variable {X : Cx}
/-- a == b, two lists of rows -/
def rEqRows : R2 := fun x y H Q => ∃ (a b : Addr) (ds ds' : List Addr) (rows rows' : List Rw), x = .ref a ∧ y = .ref b ∧ H a = some (.lst (ds.map V.ref)) ∧ H b = some (.lst (ds'.map V.ref)) ∧ RowsAt H ds rows ∧ RowsAt H ds' rows' ∧ (∀ r ∈ rows, (r.map (·.1)).Nodup) ∧ Q (.bl (rowsB rows rows')) H
theorem vals_ref {ds : List Addr} {us : List Value} (r : Vals (ds.map V.ref) us) : us = ds.map Value.ref := by
  induction ds generalizing us with
  | nil => cases r; rfl
  | cons d ds ih =>
    cases r with
    | cons h t =>
      cases h
      rw [ih t]
      rfl
theorem op_eqRows (hu : X.A.units + 64 < cLine) : OpR X (compareOp .Eq) rEqRows := by
  intro pins s σ H x y v u Q I rx ry h
  obtain ⟨a, b, ds, ds', rows, rows', rfl, rfl, ha, hb, p, p', nd, q⟩ := h
  cases (show v = Value.ref a from rx)
  cases (show u = Value.ref b from ry)
  obtain ⟨us, r1, p1, _⟩ := I.list (SqL.of (K := X.K) ha)
  obtain ⟨ws, r2, p2, _⟩ := I.list (SqL.of (K := X.K) hb)
  have k1 := vals_ref r1
  have k2 := vals_ref r2
  subst k1
  subst k2
  have l1 : (ds.map Value.ref).toArray.size = rows.length := by rw [List.size_toArray, List.length_map, p.len]
  have l2 : (ds'.map Value.ref).toArray.size = rows'.length := by rw [List.size_toArray, List.length_map, p'.len]
  by_cases c : rows.length = rows'.length
  · refine PySem.W.eq_listsT (prog := X.prog) (w := X.w) (n := 2) (e := rowAtB rows rows') p1.isList p2.isList (l1.trans (c.trans l2.symm)) (fun j h1 h2 => ?_) (by omega) ?_
    · have j1 : j < ds.length := by rw [p.len, ← l1]; exact h1
      have j2 : j < ds'.length := by rw [p'.len, ← l2]; exact h2
      obtain ⟨r, hr, ar⟩ := p.at_ (List.getElem?_eq_getElem j1)
      obtain ⟨r', hr', ar'⟩ := p'.at_ (List.getElem?_eq_getElem j2)
      have e : rowAtB rows rows' j = rowEq r r' := by
        unfold rowAtB
        rw [hr, hr']
      have e1 : (ds.map Value.ref).toArray[j] = Value.ref ds[j] := by simp
      have e2 : (ds'.map Value.ref).toArray[j] = Value.ref ds'[j] := by simp
      rw [e, e1, e2]
      exact row_tree I 0 (nd r (List.mem_of_getElem? hr)) ar ar'
    · rw [l1, rowsB_range c]
      exact ⟨.bl _, H, I, rfl, q⟩
  · have k := SeqAt.RcAt.lists_lengths (A := X.A) p1.isList p2.isList (by rw [l1, l2]; simpa using c) (by omega)
    refine k X.prog X.w _ _ ?_
    rw [← rowsB_len c]
    exact ⟨.bl _, H, I, rfl, q⟩
end
end Sl
/-! ## X4 -/
set_option Elab.async false
set_option linter.all false
set_option maxRecDepth 100000
set_option maxHeartbeats 4000000
/-! a reader's own == -/
namespace Sl
open PySem PySem.Spec PyProof.Rows L2 TxS
abbrev sEqM : Stmt := inClass (top 22) 14
theorem ints_dp {K : PySem.W.Frag} {H : Hp} : ∀ l : List Int, DpAll K H (l.map V.int) (l.map PyData.int)
  | [] => .nil
  | i :: l => .cons (.int i) (ints_dp l)
theorem ints_can : ∀ l : List Int, PyData.canLayAll0 (l.map PyData.int) = true ∧ PyData.depthAll (l.map PyData.int) ≤ 4
  | [] => ⟨rfl, by simp [PyData.depthAll]⟩
  | n :: l => by
    obtain ⟨k1, k2⟩ := ints_can l
    refine ⟨?_, ?_⟩
    · show (PyData.canLay0 (.int n) && PyData.canLayAll0 (l.map PyData.int)) = true
      rw [k1, Bool.and_true]
      simp [PyData.canLay0]
    · simp only [List.map_cons, PyData.depthAll, PyData.depth]
      omega
theorem ints_shaped (l : List Int) : SeqAt.shaped (.tuple (l.map PyData.int)) = true := by
  obtain ⟨k1, k2⟩ := ints_can l
  have c0 : PyData.canLay0 (.tuple (l.map PyData.int)) = true := by
    rw [PyData.canLay0]
    exact k1
  show (PyData.canLay0 _ && decide _) = true
  rw [c0, Bool.true_and, decide_eq_true_eq]
  simp only [PyData.depth]
  omega
theorem ints_eqv : ∀ a b : List Int, PyData.eqvAll (a.map PyData.int) (b.map PyData.int) = decide (a = b)
  | [], [] => by simp [PyData.eqvAll]
  | [], _ :: _ => by simp [PyData.eqvAll]
  | _ :: _, [] => by simp [PyData.eqvAll]
  | x :: a, y :: b => by
    have ih := ints_eqv a b
    rw [List.map_cons, List.map_cons, PyData.eqvAll, ih, PyData.eqv]
    by_cases c : x = y
    · subst c
      simp
    · simp [c]
theorem tup_eqv (a b : List Int) : PyData.eqv (.tuple (a.map PyData.int)) (.tuple (b.map PyData.int)) = decide (a = b) := by
  rw [PyData.eqv]
  exact ints_eqv a b
/-- what == of two readers answers -/
def rdEq (rows rows' : List Rw) (ends ends' : List Int) (b b' : Int) : Bool := rowsB rows rows' && (decide (ends = ends') && (b == b'))
def spEqR (K : PySem.W.Frag) (C : Addr) : Sp := fun vs H Q _ => ∃ (p : Addr) (x : V) (rows : List Rw) (ends : List Int) (b : Int), vs = [.ref p, x] ∧ ReaderAt C H p rows ends b ∧ (∀ r ∈ rows, (r.map (·.1)).Nodup) ∧
  ((∃ (q : Addr) (rows' : List Rw) (ends' : List Int) (b' : Int), x = .ref q ∧ ReaderAt C H q rows' ends' b' ∧ Q (.bl (rdEq rows rows' ends ends' b b')) H) ∨
    ∃ t, TyX K H x t ∧ PySem.W.kitOne K t (.ref C) = some false ∧ Q (.bl false) H)
section
variable {P : Program} {w : World} {K : PySem.W.Frag} {mg : Str → Option Value} {base : Heap}
theorem scEqM : FnScope ["self", "other"] ["self", "other"] (defScope sEqM) := ⟨rfl, rfl, rfl, by decide +kernel, rfl, by decide +kernel, by decide +kernel⟩
theorem ok_eqR {f C : Addr} {fd : FuncData} (F : Fun K "__eq__" "Reader.__eq__" sEqM f fd) (T : RdC K C) (iC : C8.InsC K C) (gC : mg "Reader" = some (.ref C)) (zz : mg "isinstance" = none) :
    FnOk P w K mg base CX0 1 f fd ["self", "other"] (spEqR K C) := by
  refine F.ok scEqM (fun vs H Q E h => ?_) (fun cdv A0 outer s H vs Q E hr h => ?_)
  · obtain ⟨p, x, rows, ends, b, rfl, _⟩ := h
    rfl
  · obtain ⟨p, x, rows, ends, b, rfl, RA, nd, k⟩ := h
    have hu0 := hr.units
    obtain ⟨dx, fs, L, ds, Te, hp, hst, hL, hrw, hen, hTe, hsb, _⟩ := RA.ex
    refine ⟨_, pss_cons (ps_if (pt_not (pt_val (pe_callB call_isi (by rfl) zz (by decide +kernel) (pa_cons (pv 1) (pa_cons (pe_glob (v := .ref C) (by rfl) gC (show RelV (V.ref C) (Value.ref C) from rfl)) pa_nil))))) (pss_one (ps_ret pe_bl)) pss_nil)
      (pss_one (ps_ret (pe_and (pe_cmpR (op_eqRows hu0) (pe_fld (pv 0) rfl) (pe_fld (pv 1) rfl) (nomark _))
        (pe_and (pe_cmpR (op_eqD hu0) (pe_fld (pv 0) rfl) (pe_fld (pv 1) rfl) (nomark _))
        (pe_one (pe_cmpR op_eq (pe_fld (pv 0) rfl) (pe_fld (pv 1) rfl) (nomark _))))))), ?_⟩
    rcases k with ⟨q, rows', ends', b', rfl, RB, k⟩ | ⟨t, ty, kt, k⟩
    · obtain ⟨dy, gs, L', ds', Te', hq, hst', hL', hrw', hen', hTe', hsb', _⟩ := RB.ex
      refine ⟨_, rfl, .ref q, .ref C, .ref C, .ref C, true, rfl, .own C, .base (TyOf.ins hq iC.cl iC.ha iC.hn iC.htk iC.hm), iC.me, true, rfl, iteF ?_⟩
      refine ⟨_, rfl, p, C, dx, fs, _, rfl, hp, T.cl, T.nS, hst, _, rfl, q, C, dy, gs, _, rfl, hq, T.cl, T.nS, hst', L, L', ds, ds', rows, rows', rfl, rfl, hL, hL', hrw, hrw', nd, ?_⟩
      refine ⟨_, rfl, ?_⟩
      cases e1 : rowsB rows rows' with
      | false =>
        refine iteF ?_
        unfold rdEq at k
        rw [e1] at k
        exact k
      | true =>
        refine iteT ⟨_, rfl, p, C, dx, fs, _, rfl, hp, T.cl, T.nE, hen, _, rfl, q, C, dy, gs, _, rfl, hq, T.cl, T.nE, hen', .tuple (ends.map PyData.int), .tuple (ends'.map PyData.int), .tup (SqT.of hTe) (ints_dp ends), .tup (SqT.of hTe') (ints_dp ends'), ints_shaped ends, ints_shaped ends', ?_⟩
        rw [tup_eqv]
        refine ⟨_, rfl, ?_⟩
        cases e2 : decide (ends = ends') with
        | false =>
          refine iteF ?_
          unfold rdEq at k
          rw [e1, e2] at k
          exact k
        | true =>
          refine iteT ⟨_, rfl, p, C, dx, fs, _, rfl, hp, T.cl, T.nB, hsb, _, rfl, q, C, dy, gs, _, rfl, hq, T.cl, T.nB, hsb', rfl, ?_⟩
          rw [dec_int]
          unfold rdEq at k
          rw [e1, e2] at k
          exact k
    · refine ⟨_, rfl, x, .ref C, t, .ref C, false, rfl, .own C, ty, kt, false, rfl, iteT ?_⟩
      exact k
end
end Sl
/-! ## X5 -/
set_option Elab.async false
set_option linter.all false
set_option maxRecDepth 100000
set_option maxHeartbeats 4000000
/-! x == y by x's own ==, whatever it answers -/
namespace Sl
open PySem PySem.Spec PyProof.Rows L2 TxS
section
variable {X : Cx}
/-- x == y, x an instance of the class at C whose own == keeps S, y of a type that has no say -/
def rEqO (K : PySem.W.Frag) (C : Addr) (S : Sp) (E : XK) : R2 := fun x y H Q => ∃ (a dx : Addr) (fs : List (Str × V)) (t : Value), x = .ref a ∧ H a = some (.ins C dx fs) ∧ TyX K H y t ∧ PySem.W.notFirst K C t = true ∧ S [.ref a, y] H (fun v H' => (∃ b, v = .bl b) ∧ Q v H') E
theorem op_eqO {CX : CXT} {n : Nat} {C f : Addr} {fd : FuncData} {ps : List Str} {S : Sp} {E : XK} (F : FnOk X.prog X.w X.K X.mg X.base CX n f fd ps S) (hr : Room n X.A)
    (hs : PySem.W.findIn X.K (.ref C) "__eq__" = some (some (.ref f))) (hf : PySem.W.isFn X.K (.ref f) = true) (hb : Binds X.K fd ps []) (hx : Passes CX X E) : OpR X (compareOp .Eq) (rEqO X.K C S E) := by
  intro pins s σ H x y v u Q I rx ry h
  obtain ⟨a, dx, fs, t, rfl, ha, ty, hn, hsp⟩ := h
  cases (show v = Value.ref a from rx)
  obtain ⟨mA, J, _⟩ := ins_get I.hok ha
  obtain ⟨od, J, _⟩ := J.look
  obtain ⟨m, hF⟩ := I.fr
  obtain ⟨Z, KX, z, _⟩ := kit_of I ry ty
  have sb : Sub X n X.A := ⟨hr, rfl⟩
  refine PySem.W.cmp_K (op := .Eq) sb.room.units0 hF I.ok.mod.kin J (KX.ty _ _ I.kIn z) hn hs hf ?_
  have e0 : Env0 X.prog X.w X.K X.mg X.base X.A X.stack s H := by
    have e := I.env0
    exact ⟨by rw [sb.fr]; exact e.frames, e.mod, e.bs, e.bsz, e.funs, e.frf, e.hok, e.bare⟩
  have hl := F.len _ _ _ _ hsp
  have r2 : Vals [V.ref a, y] [Value.ref a, u] := .cons rfl (.cons ry .nil)
  refine wpAny_call (codeAny_mono (F.run X.A X.stack s H ⟨[Value.ref a, u], []⟩ [Value.ref a, u] [V.ref a, y] _ E sb.room e0 (by
    have := hb s [Value.ref a, u] I.kIn (by simpa using hl)
    simpa using this) r2 hsp) fun r s' hq => ?_)
  cases r with
  | error e => exact hx pins σ H s e s' I hq
  | ok fl =>
    cases fl with
    | ret w =>
      obtain ⟨z, H', I', rz, ⟨b, ez⟩, q⟩ := I.after hq
      subst ez
      cases rz
      exact ⟨.bl b, H', I', rfl, q⟩
    | next => exact False.elim hq
    | brk => exact False.elim hq
    | cont => exact False.elim hq
end
end Sl
/-! ## X6 -/
set_option Elab.async false
set_option linter.all false
set_option maxRecDepth 100000
set_option maxHeartbeats 4000000
/-! x != y by x's own == -/
namespace Sl
open PySem PySem.Spec PyProof.Rows PySem.SeqAt Builtin
section
variable {M : Model} {prog : Program} {w : World} {A : Around} {E : Value → Shared → Prop} {s : Shared} {K : PySem.W.Frag} {x C f : Addr} {ox : Obj} {od : Option Obj} {b tb : Value}
theorem ifBound_ne {args : List Value} {Q : Option Value → Shared → Prop} (X : K.In s.heap) (I : PySem.W.InstAt s.heap x ox C od) (hs : PySem.W.findIn K (.ref C) "__ne__" = some (some (.builtin "object.__ne__")))
    (h : wpAny M A (call (.builtin "object.__ne__") (.ref x :: args)) (fun v => Q (some v)) E s) : wpAny M A (callSpecialIfBound? (.ref x) "__ne__" args) Q E s := by
  simp only [callSpecialIfBound?, bindSpecialIfBound?]
  refine wpAny_holding (wpAny_bind (wpAny_bind (wpAny_bind (I.type.here ((PySem.W.looks_findIn X hs).here ?_)))))
  refine wpAny_bind (wpAny_askSetting (wpAny_ite ?_))
  have fin : wpAny M A (call (.builtin "object.__ne__") ([.ref x] ++ args) >>= fun v => pure (some v)) Q E s := wpAny_bind (wpAny_mono h (fun v s' h' => wpAny_pure h') fun _ _ h' => h')
  split
  · exact wpAny_bind (wpAny_of_eq (F.cmp_object.ne.bind _) (wpAny_pure (by exact fin)))
  · exact wpAny_tryCatch (wpAny_bind (wpAny_of_eq (F.cmp_object.ne.bind _) (wpAny_pure (by exact fin))))
theorem ne_entry {Q : Fin → Shared → Prop} (X : K.In s.heap) (I : PySem.W.InstAt s.heap x ox C od) (hu : A.units < cLine) (hs : PySem.W.findIn K (.ref C) "__eq__" = some (some (.ref f))) (hf : PySem.W.isFn K (.ref f) = true)
    (h : wpAny (model prog w) A (call (.ref f) [.ref x, b]) (fun v s' => ∃ c, v = .bool c ∧ Q (.done (.ret (.bool (!c)))) s') E s) : wpAny (model prog w) A (Builtin.«object.__ne__» ⟨[.ref x, b], []⟩) Q E s := by
  unfold Builtin.«object.__ne__»
  repeat (first
    | with_reducible refine wpAny_cRoomFor hu ?_
    | (refine wpAny_bind (m := callSpecialIfBound? (.ref x) (Str.ofString "__eq__") [b])
        (PySem.W.ifBound_K X I hs hf (wpAny_mono h (fun r s' hr => by
          obtain ⟨c, rfl, hq⟩ := hr
          repeat (first | exact hq | exact wpAny_pure hq | exact wpAny_truthy_bool hq | (refine wpAny_bind (m := truthy (.bool _)) (wpAny_truthy_bool ?_)) | wp_step)) fun _ _ e => e)))
    | wp_step)
theorem ne_own {Q : Value → Shared → Prop} (hu : A.units + 1 < cLine) (X : K.In s.heap) (I : PySem.W.InstAt s.heap x ox C od) (hm : PySem.W.mroIn K C (.type "object") = some true)
    (hne : PySem.W.findIn K (.ref C) "__ne__" = some (some (.builtin "object.__ne__"))) (hs : PySem.W.findIn K (.ref C) "__eq__" = some (some (.ref f))) (hf : PySem.W.isFn K (.ref f) = true)
    (hb : PySem.W.Looks (model prog w) s.heap (typeOf b) tb) (hn : PySem.W.notFirst K C tb = true)
    (h : wpAny (model prog w) A.in1 (call (.ref f) [.ref x, b]) (fun v s' => ∃ c, v = .bool c ∧ Q (.bool (!c)) s') E s) : wpAny (model prog w) A (richCompare .NotEq (.ref x) b) Q E s := by
  have one : wpAny (model prog w) A (tryCompare (.ref x) "__ne__" b) (fun r s' => ∃ v, r = some v ∧ Q v s') E s := by
    unfold tryCompare
    refine wpAny_bind (ifBound_ne X I hne ?_)
    refine wpAny_call (codeAny_call_builtin F.cmp_object.ne.plain F.cmpEntry_ne (PySem.W.check_slot F.cmpKind_ne F.cmpSplit_ne (I.type.andThen (PySem.W.looks_mroIn X hm)) (F.cmpArgs_ne _ _) (ne_entry (A := A.in1) X I (by show A.units + 1 < cLine; exact hu) hs hf (wpAny_mono h (fun v s' hv => ?_) fun _ _ e => e))))
    obtain ⟨c, rfl, hq⟩ := hv
    exact ⟨c, rfl, wpAny_pure ⟨_, rfl, hq⟩⟩
  unfold richCompare
  simp only [oneThing_ref, cmpInfo_NotEq]
  refine wpAny_holding (wpAny_bind (wpAny_cRoomFor (by omega) ?_))
  refine wpAny_bind (I.type.here (wpAny_bind (hb.here ?_)))
  split
  · rename_i q
    have e : PySem.W.subIn K tb (.ref C) = some false := by
      rcases Bool.or_eq_true_iff.mp hn with e | e
      · rw [beq_iff_eq.mp e] at q; simp at q
      · exact beq_iff_eq.mp e
    refine wpAny_bind ((PySem.W.looks_subIn X e).here ?_)
    simp only [Bool.false_eq_true, if_false]
    refine wpAny_bind (wpAny_mono one (fun r s' z => ?_) fun _ _ e => e)
    obtain ⟨v, rfl, hq⟩ := z
    exact wpAny_pure hq
  · refine wpAny_bind (wpAny_pure ?_)
    simp only [Bool.false_eq_true, if_false]
    refine wpAny_bind (wpAny_mono one (fun r s' z => ?_) fun _ _ e => e)
    obtain ⟨v, rfl, hq⟩ := z
    exact wpAny_pure hq
end
end Sl
/-! ## X7 -/
set_option Elab.async false
set_option linter.all false
set_option maxRecDepth 100000
set_option maxHeartbeats 4000000
/-! x != y by x's own == -/
namespace Sl
open PySem PySem.Spec PyProof.Rows L2 TxS
section
variable {X : Cx}
def rNeO (K : PySem.W.Frag) (C : Addr) (S : Sp) (E : XK) : R2 := fun x y H Q => ∃ (a dx : Addr) (fs : List (Str × V)) (t : Value), x = .ref a ∧ H a = some (.ins C dx fs) ∧ TyX K H y t ∧ PySem.W.notFirst K C t = true ∧ S [.ref a, y] H (fun v H' => ∃ b, v = .bl b ∧ Q (.bl (!b)) H') E
theorem op_neO {CX : CXT} {n : Nat} {C f : Addr} {fd : FuncData} {ps : List Str} {S : Sp} {E : XK} (F : FnOk X.prog X.w X.K X.mg X.base CX n f fd ps S) (hr : Room (n + 1) X.A)
    (hm : PySem.W.mroIn X.K C (.type "object") = some true) (hne : PySem.W.findIn X.K (.ref C) "__ne__" = some (some (.builtin "object.__ne__")))
    (hs : PySem.W.findIn X.K (.ref C) "__eq__" = some (some (.ref f))) (hf : PySem.W.isFn X.K (.ref f) = true) (hb : Binds X.K fd ps []) (hx : Passes CX X E) : OpR X (compareOp .NotEq) (rNeO X.K C S E) := by
  intro pins s σ H x y v u Q I rx ry h
  obtain ⟨a, dx, fs, t, rfl, ha, ty, hn, hsp⟩ := h
  cases (show v = Value.ref a from rx)
  obtain ⟨mA, J, _⟩ := ins_get I.hok ha
  obtain ⟨od, J, _⟩ := J.look
  obtain ⟨m, hF⟩ := I.fr
  obtain ⟨Z, KX, z, _⟩ := kit_of I ry ty
  have sb0 : Sub X (n + 1) X.A := ⟨hr, rfl⟩
  have sb : Sub X n X.A.in1 := sb0.in1
  refine ne_own (Nat.lt_of_succ_lt (by have := hr.units; show X.A.units + 1 + 1 < cLine; omega)) I.kIn J hm hne hs hf (KX.ty _ _ I.kIn z) hn ?_
  have e0 : Env0 X.prog X.w X.K X.mg X.base X.A.in1 X.stack s H := by
    have e := I.env0
    exact ⟨by rw [sb.fr]; exact e.frames, e.mod, e.bs, e.bsz, e.funs, e.frf, e.hok, e.bare⟩
  have hl := F.len _ _ _ _ hsp
  have r2 : Vals [V.ref a, y] [Value.ref a, u] := .cons rfl (.cons ry .nil)
  refine wpAny_call (codeAny_mono (F.run X.A.in1 X.stack s H ⟨[Value.ref a, u], []⟩ [Value.ref a, u] [V.ref a, y] _ E sb.room e0 (by
    have := hb s [Value.ref a, u] I.kIn (by simpa using hl)
    simpa using this) r2 hsp) fun r s' hq => ?_)
  cases r with
  | error e => exact hx pins σ H s e s' I hq
  | ok fl =>
    cases fl with
    | ret w =>
      obtain ⟨z, H', I', rz, b, ez, q⟩ := I.after hq
      subst ez
      cases rz
      exact ⟨b, rfl, .bl (!b), H', I', rfl, q⟩
    | next => exact False.elim hq
    | brk => exact False.elim hq
    | cont => exact False.elim hq
end
end Sl
/-! ## X8 -/
set_option Elab.async false
set_option linter.all false
set_option maxRecDepth 100000
set_option maxHeartbeats 1000000
/-! rows as data, and their repr -/
namespace Sl
open PySem PySem.Spec PyProof.Rows L2
def toldD : Option Str → PyData
  | none => .none
  | some z => .str z
def mvD (m : Mv) : PyData := .tuple [.int m.1, toldD m.2]
def entD (e : Str × Mv) : PyData × PyData := (.str e.1, mvD e.2)
def rowD (r : Rw) : PyData := .dict (r.map entD)
def rowsD (rows : List Rw) : PyData := .list (rows.map rowD)
section
variable {X : Cx} {pins : List (Addr × Obj)} {σ : L2.St} {H : Hp} {s : Shared}
theorem told_reads {h : Heap} {o : Option Str} {u : Value} (r : RelV (toldV o) u) : Reads h u (toldD o) [] := by
  cases o with
  | none => cases r; exact .none
  | some z => obtain ⟨t, rfl⟩ := r; exact .str z t
theorem mv_reads (I : Inv X pins σ H s) {t : Addr} {m : Mv} (a : MvAt H t m) : Reads s.heap (.ref t) (mvD m) [] := by
  obtain ⟨us, r, ⟨o, e, hc, n, hd⟩, _⟩ := I.tuple (SqT.of (K := X.K) a)
  cases r with
  | cons r1 r => cases r with
    | cons r2 r =>
      cases r
      obtain ⟨t1, rfl⟩ := r1
      have k : ReadsAll s.heap [Value.int m.1 t1, _] [.int m.1, toldD m.2] ([] ++ ([] ++ [])) := .cons (.int _ t1) (.cons (told_reads r2) .nil)
      exact .tuple e hc hd k
theorem ents_reads (I : Inv X pins σ H s) {es0 : List (Str × Addr)} {r : Rw} (en : Ents H es0 r) : ∀ {es : List DictEntry} {vs : List (Key × Value)}, Pairs (mixKind X.prog X.w) es vs → KV (kvsOf es0) vs →
    ReadsAll s.heap (es.map (·.key)) ((r.map entD).map (·.1)) [] ∧ ReadsAll s.heap (es.map (·.val)) ((r.map entD).map (·.2)) [] := by
  induction en with
  | nil =>
    intro es vs p kv
    cases kv
    cases p
    exact ⟨.nil, .nil⟩
  | @cons z t m es1 r1 a en ih =>
    intro es vs p kv
    cases kv with
    | @cons _ b _ vs' h1 kv =>
      obtain ⟨k, v⟩ := b
      obtain ⟨k1, k2⟩ := h1
      have k1 : (Sum.inr z : Key) = k := k1
      have k2 : v = Value.ref t := k2
      subst k1
      subst k2
      cases p with
      | @cons e0 _ es' _ h2 h3 p =>
        obtain ⟨i1, i2⟩ := ih p kv
        have h3 : e0.val = Value.ref t := h3
        rcases keyIs_shape (show keyIs (Sum.inr z) e0.key = true from h2) with ⟨i, tk, e1, e2⟩ | ⟨x, tk, e1, e2⟩
        · cases e1
        · have e1 : z = x := Sum.inr.inj e1
          subst e1
          refine ⟨?_, ?_⟩
          · show ReadsAll s.heap (e0.key :: es'.map (·.key)) (PyData.str z :: (r1.map entD).map (·.1)) ([] ++ [])
            rw [e2]
            exact .cons (.str z tk) i1
          · show ReadsAll s.heap (e0.val :: es'.map (·.val)) (mvD m :: (r1.map entD).map (·.2)) ([] ++ [])
            rw [h3]
            exact .cons (mv_reads I a) i2
theorem row_reads (I : Inv X pins σ H s) {d : Addr} {r : Rw} (a : RowAt H d r) : Reads s.heap (.ref d) (rowD r) [d] := by
  obtain ⟨es0, e, en⟩ := a
  obtain ⟨_, _, vs, kv, o, es, ep, ho, ⟨hc, _⟩, hdat, _, hp, _⟩ := dk_of I.hok e
  obtain ⟨h1, h2⟩ := ents_reads I en hp kv
  exact .dict ho hc hdat h1 h2
theorem rowsL_reads (I : Inv X pins σ H s) : ∀ {ds : List Addr} {rows : List Rw}, RowsAt H ds rows → ReadsAll s.heap (ds.map Value.ref) (rows.map rowD) ds
  | _, _, .nil => .nil
  | _, _, .cons a h => .cons (row_reads I a) (rowsL_reads I h)
theorem rows_reads (I : Inv X pins σ H s) {L : Addr} {ds : List Addr} {rows : List Rw} (hL : SqL X.K H L (ds.map V.ref)) (a : RowsAt H ds rows) : Reads s.heap (.ref L) (rowsD rows) (L :: ds) := by
  obtain ⟨us, r, ⟨o, n, e, hc, _, hd⟩, _⟩ := I.list hL
  have k := vals_ref r
  subst k
  exact .list e hc hd (rowsL_reads I a)
/-- {x!r} of a list of rows; of a tuple of ints -/
def tRowsR (K : PySem.W.Frag) (te : TE) : TE := fun σ H Q => te σ H fun x H1 => ∃ (L : Addr) (ds : List Addr) (rows : List Rw), x = .ref L ∧ H1 L = some (.lst (ds.map V.ref)) ∧ RowsAt H1 ds rows ∧ (rowsD rows).showable = true ∧ (rowsD rows).depth ≤ 60 ∧ (rowsD rows).shown.length ≤ sizeLine ∧ Q (.str (rowsD rows).shown) H1
theorem rows_sys (sys : ∃ o, X.base.get? sysModules = some o) (I : Inv X pins σ H s) {L : Addr} {ds : List Addr} {rows : List Rw} (hL : H L = some (.lst (ds.map V.ref))) (a : RowsAt H ds rows) : sysModules ∉ L :: ds := by
  obtain ⟨o0, ls⟩ := sys
  have hs : H sysModules = none := (I.bs _ _ ls).2
  intro hm
  rcases List.mem_cons.mp hm with c | c
  · rw [← c, hs] at hL
    cases hL
  · obtain ⟨kvs, ek⟩ := a.mem c
    rw [hs] at ek
    cases ek
theorem pe_rowsR {e : Expr} {te : TE} {pos : Pos} (gd : X.A.guards = some []) (hu : X.A.units + 64 < cLine) (sys : ∃ o, X.base.get? sysModules = some o) (he : PE X e te) : PE X (.FormattedValue e 114 none pos) (tRowsR X.K te) := by
  refine ⟨fun pins s σ H Q I h => ?_⟩
  refine wpAny_FormattedValue_repr (thn (he.run pins s σ H _ I h) fun v s1 hv => ?_)
  obtain ⟨x, H1, I1, r1, L, ds, rows, rfl, hL, a, sh, dp, sz, q⟩ := hv
  cases (show v = Value.ref L from r1)
  refine pyReprObj_of_reads (rows_reads I1 (SqL.of (K := X.K) hL) a) sh (fun _ => rows_sys sys I1 hL a) gd (by omega) (fun _ _ z => z) (fun h' u tk kk => ?_) sz
  have I2 : Inv X pins σ H1 { s1 with heap := h', toks := tk } := I1.kept (t' := tk) kk
  exact wpAny_formatField_str ⟨.str _, H1, I2, ⟨u, rfl⟩, q⟩ ⟨.str _, H1, I2.tok _, ⟨_, rfl⟩, q⟩ sz
def tIntsR (K : PySem.W.Frag) (te : TE) : TE := fun σ H Q => te σ H fun x H1 => ∃ (T : Addr) (ns : List Int), x = .ref T ∧ H1 T = some (.tup (ns.map V.int)) ∧ (PyData.tuple (ns.map PyData.int)).showable = true ∧ (PyData.tuple (ns.map PyData.int)).shown.length ≤ sizeLine ∧ Q (.str (PyData.tuple (ns.map PyData.int)).shown) H1
theorem intsA_reads {h : Heap} : ∀ {ns : List Int} {us : List Value}, Vals (ns.map V.int) us → ReadsAll h us (ns.map PyData.int) []
  | [], _, r => by cases r; exact .nil
  | n :: ns, _, r => by
    cases r with
    | cons r1 r =>
      obtain ⟨t, rfl⟩ := r1
      exact .cons (as := []) (bs := []) (.int n t) (intsA_reads r)
theorem pe_intsR {e : Expr} {te : TE} {pos : Pos} (gd : X.A.guards = some []) (hu : X.A.units + 64 < cLine) (he : PE X e te) : PE X (.FormattedValue e 114 none pos) (tIntsR X.K te) := by
  refine ⟨fun pins s σ H Q I h => ?_⟩
  refine wpAny_FormattedValue_repr (thn (he.run pins s σ H _ I h) fun v s1 hv => ?_)
  obtain ⟨x, H1, I1, r1, T, ns, rfl, hT, sh, sz, q⟩ := hv
  cases (show v = Value.ref T from r1)
  obtain ⟨us, r, ⟨o, e, hc, n, hd⟩, _⟩ := I1.tuple (SqT.of (K := X.K) hT)
  have dp : (PyData.tuple (ns.map PyData.int)).depth ≤ 60 := by
    have := (ints_can ns).2
    simp only [PyData.depth]
    omega
  refine pyReprObj_of_reads (.tuple e hc hd (intsA_reads r)) sh (fun _ => by simp) gd (by omega) (fun _ _ z => z) (fun h' u tk kk => ?_) sz
  have I2 : Inv X pins σ H1 { s1 with heap := h', toks := tk } := I1.kept (t' := tk) kk
  exact wpAny_formatField_str ⟨.str _, H1, I2, ⟨u, rfl⟩, q⟩ ⟨.str _, H1, I2.tok _, ⟨_, rfl⟩, q⟩ sz
end
end Sl
/-! ## X9 -/
set_option Elab.async false
set_option linter.all false
set_option maxRecDepth 100000
set_option maxHeartbeats 4000000
/-! repr of an own object; a reader's own repr -/
namespace Sl
open PySem PySem.Spec PyProof.Rows L2 TxS
abbrev sReprM : Stmt := inClass (top 22) 15
theorem env0_in1 {P : Program} {w : World} {K : PySem.W.Frag} {mg : Str → Option Value} {base : Heap} {A : Around} {outer : List Env} {s : Shared} {H : Hp} (e : Env0 P w K mg base A outer s H) : Env0 P w K mg base A.in1 outer s H :=
  ⟨e.frames, e.mod, e.bs, e.bsz, e.funs, e.frf, e.hok, e.bare⟩
def rReprO (C : Addr) (sp : Sp) : List V → Hp → VK → Prop := fun xs H Q => ∃ (a dx : Addr) (fs : List (Str × V)), xs = [.ref a] ∧ H a = some (.ins C dx fs) ∧ sp [.ref a] H (fun v H' => ∃ z : Str, v = .str z ∧ Q (.str z) H') (fun _ _ _ => False)
theorem call_reprO {X : Cx} {C g : Addr} {k : Nat} {fd : FuncData} {sp : Sp} (m : L2.Meth X.K C "__repr__" g) (F : FnG X.prog X.w X.K X.mg X.base CX0 k g fd ["self"] sp) (gd : X.A.guards = some []) (hr : Room (k + 1) X.A) (hb : L2.Binds X.K fd ["self"] []) : CallR X (.builtin "repr") (rReprO C sp) := by
  intro pins s σ H xs us Q I r h
  obtain ⟨a, dx, fs, rfl, e, q⟩ := h
  obtain rfl := Vals.ref1 r
  obtain ⟨mA, O, rr, _, _, _⟩ := ins_get I.hok e
  obtain ⟨od, J, hl⟩ := O.look
  refine Calls.call_function_entry PySem.F.kind_repr PySem.F.plain_repr PySem.F.entry_repr (PySem.F.args_repr1 _) ?_
  unfold Builtin.«repr»
  refine wpAny_bind (m := oneArg "repr" _) (wpAny_pure ?_)
  refine wpAny_bind (wpAny_cRoomFor (Nat.lt_of_le_of_lt (Nat.le_add_right _ 64) hr.in1.units) ?_)
  unfold specialOf
  refine wpAny_bind (wpAny_bind (J.type.here ((PySem.W.looks_findIn I.kIn m.at_).here ?_)))
  show wpAny _ _ (if (some (Value.ref g)).isNone = true then _ else _) _ _ _
  rw [if_neg (by simp)]
  refine wpAny_bind (m := callSpecialIfBound? (.ref a) (Str.ofString "__repr__") _) (PySem.W.ifBound_K I.kIn J m.at_ m.fn (wpAny_call (codeAny_mono (F.run X.A.in1 X.stack s H ⟨[.ref a], []⟩ [.ref a] [.ref a] _ _ gd hr.in1 (env0_in1 I.env0) (hb s [.ref a] I.kIn rfl) (.cons rfl .nil) q) fun c s' hq => ?_)))
  cases c with
  | error er => exact (show False from hq).elim
  | ok fl =>
    cases fl with
    | ret u =>
      obtain ⟨v, H', I', rv, z, rfl, q'⟩ := I.after hq
      obtain ⟨t, rfl⟩ := rv
      refine wpAny_bind (wpAny_isInstance (typeIs_str _ _ _) isSubtype_str_str ?_)
      first
        | exact wpAny_pure ⟨_, rfl, V.str z, H', I', ⟨_, rfl⟩, q'⟩
        | (rw [if_pos rfl]; exact wpAny_pure ⟨_, rfl, V.str z, H', I', ⟨_, rfl⟩, q'⟩)
        | (simp only [if_true]; exact wpAny_pure ⟨_, rfl, V.str z, H', I', ⟨_, rfl⟩, q'⟩)
    | next => exact hq.elim
    | brk => exact hq.elim
    | cont => exact hq.elim
def shownR (rows : List Rw) (ends : List Int) (b : Int) : Str := ((Str.empty ++ ("Reader(" : Str)) ++ (rowsD rows).shown ++ (", " : Str) ++ (PyData.tuple (ends.map PyData.int)).shown ++ (", start=" : Str) ++ toString b) ++ (")" : Str)
def RdShow (rows : List Rw) (ends : List Int) (b : Int) : Prop := (rowsD rows).showable = true ∧ (rowsD rows).depth ≤ 60 ∧ (PyData.tuple (ends.map PyData.int)).showable = true ∧ b.natAbs.log2 < 1920 ∧ (shownR rows ends b).length ≤ sizeLine
def spReprR (C : Addr) : Sp := fun vs H Q _ => ∃ (p : Addr) (rows : List Rw) (ends : List Int) (b : Int), vs = [.ref p] ∧ ReaderAt C H p rows ends b ∧ RdShow rows ends b ∧ Q (.str (shownR rows ends b)) H
section
variable {P : Program} {w : World} {K : PySem.W.Frag} {mg : Str → Option Value} {base : Heap}
theorem scReprM : FnScope ["self"] ["self"] (defScope sReprM) := ⟨rfl, rfl, rfl, by decide +kernel, rfl, by decide +kernel, by decide +kernel⟩
theorem ok_reprR {f C : Addr} {fd : FuncData} (F : Fun K "__repr__" "Reader.__repr__" sReprM f fd) (T : RdC K C) (sys : ∃ o, base.get? sysModules = some o) :
    FnG P w K mg base CX0 1 f fd ["self"] (spReprR C) := by
  refine Sl.Fun.okG F scReprM (fun vs H Q E h => ?_) (fun cdv A0 outer s H vs Q E gd hr h => ?_)
  · obtain ⟨p, rows, ends, b, rfl, _⟩ := h
    rfl
  · obtain ⟨p, rows, ends, b, rfl, RA, ⟨s1, s2, s3, s4, s5⟩, k⟩ := h
    have hu0 := hr.units
    obtain ⟨dx, fs, L, ds, Te, hp, hst, hL, hrw, hen, hTe, hsb, _⟩ := RA.ex
    refine ⟨_, pss_one (ps_ret (pe_joined (.cons pe_str (.cons (pe_rowsR gd hu0 sys (pe_fld (pv 0) rfl)) (.cons pe_str (.cons (pe_intsR gd hu0 (pe_fld (pv 0) rfl)) (.cons pe_str (.cons (pe_fmt (pe_fld (pv 0) rfl)) (.cons pe_str .nil))))))))), ?_⟩
    unfold shownR at s5 k
    simp only [strLen_append] at s5
    refine ⟨_, rfl, by simp only [strLen_append]; omega, ?_⟩
    refine ⟨_, rfl, p, C, dx, fs, _, rfl, hp, T.cl, T.nS, hst, L, ds, rows, rfl, hL, hrw, s1, s2, by omega, _, rfl, by simp only [strLen_append]; omega, ?_⟩
    refine ⟨_, rfl, by simp only [strLen_append]; omega, ?_⟩
    refine ⟨_, rfl, p, C, dx, fs, _, rfl, hp, T.cl, T.nE, hen, Te, ends, rfl, hTe, s3, by omega, _, rfl, by simp only [strLen_append]; omega, ?_⟩
    refine ⟨_, rfl, by simp only [strLen_append]; omega, ?_⟩
    refine ⟨_, rfl, p, C, dx, fs, _, rfl, hp, T.cl, T.nB, hsb, .inr ⟨b, rfl, s4, _, rfl, by simp only [strLen_append]; omega, ?_⟩⟩
    refine ⟨_, rfl, by simp only [strLen_append]; omega, ?_⟩
    exact k
end
end Sl
/-! ## Y1 -/
set_option Elab.async false
set_option linter.all false
set_option maxRecDepth 100000
set_option maxHeartbeats 1000000
/-! what is shown of rows and ends tells them -/
namespace Sl
open PySem PySem.Spec PyProof.Rows L2
open PySem.W TL in
section
theorem letter_char : ∀ c : Fin 26, Builtin.Str.reprChar 39 (c.val + 97) = [c.val + 97] := by decide +kernel
theorem low_char {c : Nat} (h : lowC c = true) : Builtin.Str.reprChar 39 c = [c] := by
  unfold lowC at h
  rw [Bool.and_eq_true, decide_eq_true_eq, decide_eq_true_eq] at h
  have k := letter_char ⟨c - 97, by omega⟩
  have e : c - 97 + 97 = c := by omega
  rw [e] at k
  exact k
theorem low_fold : ∀ (l : List Nat) (acc : Array Nat), (∀ c ∈ l, lowC c = true) → (l.foldl (fun out c => out ++ (Builtin.Str.reprChar 39 c).toArray) acc).toList = acc.toList ++ l
  | [], acc, _ => by simp
  | c :: l, acc, h => by
    rw [List.foldl_cons, low_fold l _ fun d hd => h d (List.mem_cons_of_mem _ hd), low_char (h c List.mem_cons_self)]
    simp
/-- a word in quotes -/
theorem word_shown {z : Str} (h : isWordS z = true) : tl (reprText z) = 39 :: (tl z ++ [39]) := by
  have h' : ∀ c ∈ z.cps.toList, lowC c = true := List.all_eq_true.mp h
  have nq : z.cps.contains 39 = false := by
    rw [← Array.contains_toList]
    cases e : z.cps.toList.contains 39 with
    | false => rfl
    | true =>
      have k := h' 39 (List.contains_iff_mem.mp e)
      exact absurd k (by decide)
  have q : reprQuote z = 39 := by
    unfold reprQuote
    rw [nq]
    rfl
  show (reprText z).cps.toList = _
  unfold reprText
  rw [q]
  show (Array.push _ _).toList = _
  rw [Array.toList_push, ← Array.foldl_toList, low_fold _ _ h']
  rfl
theorem digit_shown : ∀ n : Fin 10, tl (toString ((n.val : Nat) : Int) : String) = [n.val + 48] := by decide +kernel
end
/-- f tells x, whatever stands behind -/
def UP {α : Type} (ok : α → Prop) (f : α → List Nat) : Prop := ∀ x y r r', ok x → ok y → f x ++ r = f y ++ r' → x = y ∧ r = r'
def letters (l : List Nat) : Prop := ∀ c ∈ l, lowC c = true
theorem up_letters : ∀ (l l' r r' : List Nat), letters l → letters l' → l ++ 39 :: r = l' ++ 39 :: r' → l = l' ∧ r = r'
  | [], [], _, _, _, _, h => ⟨rfl, (List.cons.inj h).2⟩
  | [], c :: l', _, _, _, h', h => by
    have e := (List.cons.inj h).1
    have k := h' c List.mem_cons_self
    rw [← e] at k
    exact absurd k (by decide)
  | c :: l, [], _, _, h', _, h => by
    have e := (List.cons.inj h).1
    have k := h' c List.mem_cons_self
    rw [e] at k
    exact absurd k (by decide)
  | c :: l, d :: l', r, r', h1, h2, h => by
    obtain ⟨e1, e2⟩ := List.cons.inj h
    obtain ⟨i1, i2⟩ := up_letters l l' r r' (fun x hx => h1 x (List.mem_cons_of_mem _ hx)) (fun x hx => h2 x (List.mem_cons_of_mem _ hx)) e2
    exact ⟨by rw [e1, i1], i2⟩
/-- a list's rest, each behind a comma and a blank, and the last sign -/
def restL {α : Type} (f : α → List Nat) (z : Nat) : List α → List Nat
  | [] => [z]
  | x :: l => 44 :: 32 :: (f x ++ restL f z l)
def wholeL {α : Type} (f : α → List Nat) (z : Nat) : List α → List Nat
  | [] => [z]
  | x :: l => f x ++ restL f z l
theorem up_rest {α : Type} {ok : α → Prop} {f : α → List Nat} {z : Nat} (hf : UP ok f) (hz : z ≠ 44) : UP (fun l : List α => ∀ x ∈ l, ok x) (restL f z)
  | [], [], _, _, _, _, h => ⟨rfl, (List.cons.inj h).2⟩
  | [], _ :: _, _, _, _, _, h => absurd (List.cons.inj h).1 hz
  | _ :: _, [], _, _, _, _, h => absurd (List.cons.inj h).1.symm hz
  | x :: l, y :: l', r, r', h1, h2, h => by
    have h := (List.cons.inj (List.cons.inj h).2).2
    have h : (f x ++ restL f z l) ++ r = (f y ++ restL f z l') ++ r' := h
    rw [List.append_assoc, List.append_assoc] at h
    obtain ⟨e1, e2⟩ := hf x y _ _ (h1 x List.mem_cons_self) (h2 y List.mem_cons_self) h
    obtain ⟨i1, i2⟩ := up_rest hf hz l l' r r' (fun x hx => h1 x (List.mem_cons_of_mem _ hx)) (fun x hx => h2 x (List.mem_cons_of_mem _ hx)) e2
    exact ⟨by rw [e1, i1], i2⟩
theorem up_whole {α : Type} {ok : α → Prop} {f : α → List Nat} {z : Nat} (hf : UP ok f) (hz : z ≠ 44) (hd : ∀ x, ∃ c l, f x = c :: l ∧ c ≠ z) : UP (fun l : List α => ∀ x ∈ l, ok x) (wholeL f z)
  | [], [], _, _, _, _, h => ⟨rfl, (List.cons.inj h).2⟩
  | [], y :: l, r, r', _, _, h => by
    obtain ⟨c, m, e, n⟩ := hd y
    have h : z :: r = (f y ++ restL f z l) ++ r' := h
    rw [e] at h
    exact absurd (List.cons.inj h).1.symm n
  | y :: l, [], r, r', _, _, h => by
    obtain ⟨c, m, e, n⟩ := hd y
    have h : (f y ++ restL f z l) ++ r = z :: r' := h
    rw [e] at h
    exact absurd (List.cons.inj h).1 n
  | x :: l, y :: l', r, r', h1, h2, h => by
    have h : (f x ++ restL f z l) ++ r = (f y ++ restL f z l') ++ r' := h
    rw [List.append_assoc, List.append_assoc] at h
    obtain ⟨e1, e2⟩ := hf x y _ _ (h1 x List.mem_cons_self) (h2 y List.mem_cons_self) h
    obtain ⟨i1, i2⟩ := up_rest hf hz l l' r r' (fun x hx => h1 x (List.mem_cons_of_mem _ hx)) (fun x hx => h2 x (List.mem_cons_of_mem _ hx)) e2
    exact ⟨by rw [e1, i1], i2⟩
/-- a tuple of numbers -/
def tupL {α : Type} (f : α → List Nat) : List α → List Nat
  | [] => [41]
  | [x] => f x ++ [44, 41]
  | x :: y :: l => f x ++ restL f 41 (y :: l)
theorem up_tup {α : Type} {ok : α → Prop} {f : α → List Nat} (hf : UP ok f) (hd : ∀ x, ok x → ∃ c l, f x = c :: l ∧ c ≠ 41) : UP (fun l : List α => ∀ x ∈ l, ok x) (tupL f)
  | [], [], _, _, _, _, h => ⟨rfl, (List.cons.inj h).2⟩
  | [], [y], r, r', _, h2, h => by
    obtain ⟨c, m, e, n⟩ := hd y (h2 y List.mem_cons_self)
    have h : 41 :: r = (f y ++ [44, 41]) ++ r' := h
    rw [e] at h
    exact absurd (List.cons.inj h).1.symm n
  | [], y :: y' :: l, r, r', _, h2, h => by
    obtain ⟨c, m, e, n⟩ := hd y (h2 y List.mem_cons_self)
    have h : 41 :: r = (f y ++ restL f 41 (y' :: l)) ++ r' := h
    rw [e] at h
    exact absurd (List.cons.inj h).1.symm n
  | [y], [], r, r', h2, _, h => by
    obtain ⟨c, m, e, n⟩ := hd y (h2 y List.mem_cons_self)
    have h : (f y ++ [44, 41]) ++ r = 41 :: r' := h
    rw [e] at h
    exact absurd (List.cons.inj h).1 n
  | y :: y' :: l, [], r, r', h2, _, h => by
    obtain ⟨c, m, e, n⟩ := hd y (h2 y List.mem_cons_self)
    have h : (f y ++ restL f 41 (y' :: l)) ++ r = 41 :: r' := h
    rw [e] at h
    exact absurd (List.cons.inj h).1 n
  | [x], [y], r, r', h1, h2, h => by
    have h : (f x ++ [44, 41]) ++ r = (f y ++ [44, 41]) ++ r' := h
    rw [List.append_assoc, List.append_assoc] at h
    obtain ⟨e1, e2⟩ := hf x y _ _ (h1 x List.mem_cons_self) (h2 y List.mem_cons_self) h
    exact ⟨by rw [e1], (List.cons.inj (List.cons.inj e2).2).2⟩
  | [x], y :: y' :: l, r, r', h1, h2, h => by
    have h : (f x ++ [44, 41]) ++ r = (f y ++ restL f 41 (y' :: l)) ++ r' := h
    rw [List.append_assoc, List.append_assoc] at h
    obtain ⟨e1, e2⟩ := hf x y _ _ (h1 x List.mem_cons_self) (h2 y List.mem_cons_self) h
    exact absurd (List.cons.inj (List.cons.inj e2).2).1 (by decide)
  | y :: y' :: l, [x], r, r', h1, h2, h => by
    have h : (f y ++ restL f 41 (y' :: l)) ++ r = (f x ++ [44, 41]) ++ r' := h
    rw [List.append_assoc, List.append_assoc] at h
    obtain ⟨e1, e2⟩ := hf y x _ _ (h1 y List.mem_cons_self) (h2 x List.mem_cons_self) h
    exact absurd (List.cons.inj (List.cons.inj e2).2).1 (by decide)
  | x :: x' :: l, y :: y' :: l', r, r', h1, h2, h => by
    have h : (f x ++ restL f 41 (x' :: l)) ++ r = (f y ++ restL f 41 (y' :: l')) ++ r' := h
    rw [List.append_assoc, List.append_assoc] at h
    obtain ⟨e1, e2⟩ := hf x y _ _ (h1 x List.mem_cons_self) (h2 y List.mem_cons_self) h
    obtain ⟨i1, i2⟩ := up_rest hf (by decide) (x' :: l) (y' :: l') r r' (fun x hx => h1 x (List.mem_cons_of_mem _ hx)) (fun x hx => h2 x (List.mem_cons_of_mem _ hx)) e2
    exact ⟨by rw [e1, i1], i2⟩
end Sl
/-! ## Y2 -/
set_option Elab.async false
set_option linter.all false
set_option maxRecDepth 100000
set_option maxHeartbeats 1000000
/-! what is shown of a reader tells it -/
namespace Sl
open PySem PySem.Spec PyProof.Rows L2
open PySem.W TL
def fdI (i : Int) : List Nat := [i.toNat + 48]
def fz (z : Str) : List Nat := 39 :: (tl z ++ [39])
def ft : Option Str → List Nat
  | none => [78, 111, 110, 101]
  | some z => fz z
def fm (m : Mv) : List Nat := 40 :: (fdI m.1 ++ (44 :: 32 :: (ft m.2 ++ [41])))
def fe (e : Str × Mv) : List Nat := fz e.1 ++ (58 :: 32 :: fm e.2)
def fr (r : Rw) : List Nat := 123 :: wholeL fe 125 r
def frs (rows : List Rw) : List Nat := 91 :: wholeL fr 93 rows
def fen (ends : List Int) : List Nat := 40 :: tupL fdI ends
def okI (i : Int) : Prop := 0 ≤ i ∧ i < 10
def okM (m : Mv) : Prop := okI m.1 ∧ ∀ z, m.2 = some z → isWordS z = true
def okE (e : Str × Mv) : Prop := isWordS e.1 = true ∧ okM e.2
def okR (r : Rw) : Prop := ∀ e ∈ r, okE e
/-- readers that are shown here -/
structure Okn (rows : List Rw) (ends : List Int) (b : Int) : Prop where
  r : ∀ r ∈ rows, okR r
  e : ∀ i ∈ ends, okI i
  b : okI b
theorem up_int : UP okI fdI := fun x y r r' hx hy h => by
  obtain ⟨h1, h2⟩ := List.cons.inj h
  exact ⟨by have := hx.1; have := hy.1; omega, h2⟩
theorem up_word : UP (fun z : Str => isWordS z = true) fz := fun x y r r' hx hy h => by
  have h : (tl x ++ [39]) ++ r = (tl y ++ [39]) ++ r' := (List.cons.inj h).2
  rw [List.append_assoc, List.append_assoc] at h
  obtain ⟨e1, e2⟩ := up_letters (tl x) (tl y) r r' (List.all_eq_true.mp hx) (List.all_eq_true.mp hy) h
  refine ⟨?_, e2⟩
  obtain ⟨⟨x⟩⟩ := x
  obtain ⟨⟨y⟩⟩ := y
  have e1 : x = y := e1
  rw [e1]
theorem up_told : UP (fun o : Option Str => ∀ z, o = some z → isWordS z = true) ft := fun x y r r' hx hy h => by
  cases x with
  | none => cases y with
    | none =>
      refine ⟨rfl, ?_⟩
      have h : [78, 111, 110, 101] ++ r = [78, 111, 110, 101] ++ r' := h
      exact List.append_cancel_left h
    | some z => exact absurd (List.cons.inj h).1 (by decide)
  | some z => cases y with
    | none => exact absurd (List.cons.inj h).1 (by decide)
    | some y =>
      obtain ⟨e1, e2⟩ := up_word z y r r' (hx z rfl) (hy y rfl) h
      exact ⟨by rw [e1], e2⟩
theorem up_mv : UP okM fm := fun x y r r' hx hy h => by
  have h : (fdI x.1 ++ (44 :: 32 :: (ft x.2 ++ [41]))) ++ r = (fdI y.1 ++ (44 :: 32 :: (ft y.2 ++ [41]))) ++ r' := (List.cons.inj h).2
  rw [List.append_assoc, List.append_assoc] at h
  obtain ⟨e1, h⟩ := up_int x.1 y.1 _ _ hx.1 hy.1 h
  have h : (ft x.2 ++ [41]) ++ r = (ft y.2 ++ [41]) ++ r' := (List.cons.inj (List.cons.inj h).2).2
  rw [List.append_assoc, List.append_assoc] at h
  obtain ⟨e2, h⟩ := up_told x.2 y.2 _ _ hx.2 hy.2 h
  exact ⟨Prod.ext e1 e2, (List.cons.inj h).2⟩
theorem up_ent : UP okE fe := fun x y r r' hx hy h => by
  unfold fe at h
  rw [List.append_assoc, List.append_assoc] at h
  obtain ⟨e1, h⟩ := up_word x.1 y.1 _ _ hx.1 hy.1 h
  have h := (List.cons.inj (List.cons.inj h).2).2
  obtain ⟨e2, h⟩ := up_mv x.2 y.2 _ _ hx.2 hy.2 h
  exact ⟨Prod.ext e1 e2, h⟩
theorem up_row : UP okR fr := fun x y r r' hx hy h => up_whole up_ent (by decide) (fun x => ⟨39, _, rfl, by decide⟩) x y r r' hx hy (List.cons.inj h).2
theorem up_rows : UP (fun rows : List Rw => ∀ r ∈ rows, okR r) frs := fun x y r r' hx hy h => up_whole up_row (by decide) (fun x => ⟨123, _, rfl, by decide⟩) x y r r' hx hy (List.cons.inj h).2
theorem up_ends : UP (fun ends : List Int => ∀ i ∈ ends, okI i) fen := fun x y r r' hx hy h => up_tup up_int (fun i hi => ⟨_, [], rfl, by have := hi.1; omega⟩) x y r r' hx hy (List.cons.inj h).2
theorem joinL_rest {α : Type} {g : α → Str} {f : α → List Nat} (z : Nat) : ∀ (x : α) (l : List α), (∀ y ∈ x :: l, tl (g y) = f y) → joinL [44, 32] (((x :: l).map g).map tl) ++ [z] = f x ++ restL f z l
  | x, [], h => by
    show tl (g x) ++ [z] = _
    rw [h x List.mem_cons_self]
    rfl
  | x, y :: l, h => by
    have ih := joinL_rest z y l fun w hw => h w (List.mem_cons_of_mem _ hw)
    show (tl (g x) ++ ([44, 32] ++ joinL [44, 32] (((y :: l).map g).map tl))) ++ [z] = _
    rw [h x List.mem_cons_self, List.append_assoc, List.append_assoc, ih]
    rfl
theorem joinL_whole {α : Type} {g : α → Str} {f : α → List Nat} (z : Nat) : ∀ (l : List α), (∀ y ∈ l, tl (g y) = f y) → joinL [44, 32] ((l.map g).map tl) ++ [z] = wholeL f z l
  | [], _ => rfl
  | x :: l, h => joinL_rest z x l h
theorem joinL_rest2 {α : Type} {g : α → Str} {f : α → List Nat} (x : α) (y : α) (l : List α) (h : ∀ w ∈ x :: y :: l, tl (g w) = f w) : joinL [44, 32] (((x :: y :: l).map g).map tl) ++ [41] = f x ++ restL f 41 (y :: l) := joinL_rest 41 x (y :: l) h
theorem int_shown {i : Int} (h : okI i) : tl ((toString i : String) : Str) = fdI i := by
  have k := digit_shown ⟨i.toNat, by have := h.1; have := h.2; omega⟩
  have e : ((i.toNat : Nat) : Int) = i := Int.toNat_of_nonneg h.1
  have k : tl (toString ((i.toNat : Nat) : Int) : String) = [i.toNat + 48] := k
  rw [e] at k
  exact k
theorem toldD_shown {o : Option Str} (h : ∀ z, o = some z → isWordS z = true) : tl (toldD o).shown = ft o := by
  cases o with
  | none => rfl
  | some z =>
    show tl (PyData.str z).shown = fz z
    rw [PyData.shown_str]
    exact word_shown (h z rfl)
theorem mvD_shown {m : Mv} (h : okM m) : tl (mvD m).shown = fm m := by
  have e : (mvD m).shown = ("(" : Str) ++ ((PyData.int m.1).shown ++ ", " ++ (toldD m.2).shown) ++ (")" : Str) := by
    simp only [mvD, PyData.shown, PyData.shownAll, tupleText]
    rfl
  rw [e, tl_append, tl_append, tl_append, tl_append, toldD_shown h.2]
  have e2 : (PyData.int m.1).shown = ((toString m.1 : String) : Str) := by simp only [PyData.shown]
  rw [e2, int_shown h.1]
  show ([40] ++ (fdI m.1 ++ [44, 32] ++ ft m.2)) ++ [41] = 40 :: (fdI m.1 ++ (44 :: 32 :: (ft m.2 ++ [41])))
  simp
theorem shownKv_map : ∀ r : Rw, PyData.shownKv (r.map entD) = r.map fun e => reprText e.1 ++ ": " ++ (mvD e.2).shown
  | [] => rfl
  | e :: r => by
    have ih := shownKv_map r
    show PyData.shownKv ((PyData.str e.1, mvD e.2) :: r.map entD) = _
    rw [PyData.shownKv, ih, PyData.shown_str]
    rfl
theorem rowD_shown {r : Rw} (h : okR r) : tl (rowD r).shown = fr r := by
  unfold rowD
  rw [PyData.shown_dict, shownKv_map, tl_append, tl_append, tl_join]
  show ([123] ++ joinL [44, 32] _) ++ [125] = _
  rw [List.append_assoc, joinL_whole (f := fe) 125 r fun e he => ?_]
  · rfl
  · obtain ⟨h1, h2⟩ := h e he
    rw [tl_append, tl_append, word_shown h1, mvD_shown h2]
    show (fz e.1 ++ [58, 32]) ++ fm e.2 = fz e.1 ++ (58 :: 32 :: fm e.2)
    rw [List.append_assoc]
    rfl
theorem shownAll_map : ∀ l : List PyData, PyData.shownAll l = l.map PyData.shown
  | [] => rfl
  | x :: l => by rw [PyData.shownAll, shownAll_map l, List.map_cons]
theorem rowsD_shown {rows : List Rw} (h : ∀ r ∈ rows, okR r) : tl (rowsD rows).shown = frs rows := by
  have e : (rowsD rows).shown = listText (PyData.shownAll (rows.map rowD)) := by simp only [rowsD, PyData.shown]
  rw [e, listText_eq_join, shownAll_map, List.map_map, tl_append, tl_append, tl_join]
  show ([91] ++ joinL [44, 32] _) ++ [93] = _
  rw [List.append_assoc, joinL_whole (g := PyData.shown ∘ rowD) (f := fr) 93 rows fun r hr => rowD_shown (h r hr)]
  rfl
theorem endsD_shown {ends : List Int} (h : ∀ i ∈ ends, okI i) : tl (PyData.tuple (ends.map PyData.int)).shown = fen ends := by
  have e : (PyData.tuple (ends.map PyData.int)).shown = tupleText (PyData.shownAll (ends.map PyData.int)) := by simp only [PyData.shown]
  have k : ∀ i ∈ ends, tl ((PyData.shown ∘ PyData.int) i) = fdI i := fun i hi => by
    have e2 : (PyData.int i).shown = ((toString i : String) : Str) := by simp only [PyData.shown]
    show tl (PyData.int i).shown = _
    rw [e2, int_shown (h i hi)]
  rw [e, shownAll_map, List.map_map]
  unfold tupleText
  rw [tl_append, tl_append, tl_join]
  match ends, k with
  | [], _ => rfl
  | [x], k =>
    have k := k x List.mem_cons_self
    show ([40] ++ tl ((PyData.shown ∘ PyData.int) x)) ++ [44, 41] = 40 :: (fdI x ++ [44, 41])
    rw [k]
    rfl
  | x :: y :: l, k =>
    show ([40] ++ joinL [44, 32] (((x :: y :: l).map (PyData.shown ∘ PyData.int)).map tl)) ++ tl (((if ((x :: y :: l).map (PyData.shown ∘ PyData.int)).length == 1 then ",)" else ")" : String)) : Str) = _
    have e3 : (((x :: y :: l).map (PyData.shown ∘ PyData.int)).length == 1) = false := by simp
    rw [e3]
    show ([40] ++ joinL [44, 32] (((x :: y :: l).map (PyData.shown ∘ PyData.int)).map tl)) ++ [41] = _
    rw [List.append_assoc, joinL_rest2 (f := fdI) x y l k]
    rfl
theorem shownR_tl {rows : List Rw} {ends : List Int} {b : Int} (h : Okn rows ends b) : tl (shownR rows ends b) = tl ("Reader(" : Str) ++ (frs rows ++ (44 :: 32 :: (fen ends ++ (tl (", start=" : Str) ++ (fdI b ++ [41]))))) := by
  unfold shownR
  rw [tl_append, tl_append, tl_append, tl_append, tl_append, tl_append, tl_append, rowsD_shown h.r, endsD_shown h.e, int_shown h.b]
  have e0 : tl Str.empty = [] := rfl
  have e1 : tl (", " : Str) = [44, 32] := rfl
  have e2 : tl (")" : Str) = [41] := rfl
  rw [e0, e1, e2]
  simp
/-- what is shown tells the rows, the ends and the start -/
theorem shownR_inj {rows rows' : List Rw} {ends ends' : List Int} {b b' : Int} (h : Okn rows ends b) (h' : Okn rows' ends' b') (e : shownR rows ends b = shownR rows' ends' b') : rows = rows' ∧ ends = ends' ∧ b = b' := by
  have e := congrArg tl e
  rw [shownR_tl h, shownR_tl h'] at e
  have e := List.append_cancel_left e
  obtain ⟨e1, e⟩ := up_rows rows rows' _ _ h.r h'.r e
  have e := (List.cons.inj (List.cons.inj e).2).2
  obtain ⟨e2, e⟩ := up_ends ends ends' _ _ h.e h'.e e
  have e := List.append_cancel_left e
  obtain ⟨e3, _⟩ := up_int b b' _ _ h.b h'.b e
  exact ⟨e1, e2, e3⟩
end Sl
/-! ## C15 -/
set_option Elab.async false
set_option linter.all false
set_option maxRecDepth 100000
set_option maxHeartbeats 4000000
/-! the set of a list of texts, of any length -/
namespace TxS
open PySem PySem.Spec PyProof.Rows L2 PySem.Froz
/-- l, and then the texts of xs that are not there yet -/
def addAll : List Str → List Str → List Str
  | l, [] => l
  | l, x :: xs => addAll (if x ∈ l then l else x :: l) xs
theorem addAll_mem : ∀ (xs l : List Str) (k : Str), k ∈ addAll l xs ↔ k ∈ l ∨ k ∈ xs
  | [], l, k => by simp [addAll]
  | x :: xs, l, k => by
    show k ∈ addAll (if x ∈ l then l else x :: l) xs ↔ _
    rw [addAll_mem xs]
    by_cases c : x ∈ l
    · rw [if_pos c, List.mem_cons]
      constructor
      · rintro (z | z)
        · exact .inl z
        · exact .inr (.inr z)
      · rintro (z | rfl | z)
        · exact .inl z
        · exact .inl c
        · exact .inr z
    · rw [if_neg c, List.mem_cons, List.mem_cons]
      constructor
      · rintro ((rfl | z) | z)
        · exact .inr (.inl rfl)
        · exact .inl z
        · exact .inr (.inr z)
      · rintro (z | rfl | z)
        · exact .inl (.inr z)
        · exact .inl (.inl rfl)
        · exact .inr z
theorem addAll_nodup : ∀ (xs l : List Str), l.Nodup → (addAll l xs).Nodup
  | [], l, h => h
  | x :: xs, l, h => by
    show (addAll (if x ∈ l then l else x :: l) xs).Nodup
    refine addAll_nodup xs _ ?_
    by_cases c : x ∈ l
    · rw [if_pos c]
      exact h
    · rw [if_neg c]
      exact List.nodup_cons.mpr ⟨c, h⟩
theorem one_len (l : List Str) (x : Str) : (if x ∈ l then l else x :: l).length ≤ l.length + 1 := by
  split
  · omega
  · simp
theorem StrsAre.pick : ∀ {us : List Value} {xs : List Str}, StrsAre us xs → ∀ (i : Nat) (v : Value), us[i]? = some v → ∃ k t, xs[i]? = some k ∧ v = .str k t
  | _, _, .nil, i, v, h => nomatch h
  | _, _, .cons x u r, 0, v, h => ⟨x, u, rfl, (Option.some.inj h).symm⟩
  | _, _, .cons x u r, i + 1, v, h => StrsAre.pick r i v h
section
variable {P : Program} {w : World} {A : Around} {E : Value → Shared → Prop} {s : Shared} {a : Addr} {l : List Str}
/-- one text into the set -/
theorem setS_put {k : Str} {u : Tok} {Q : Bool → Shared → Prop} (R : SetS P w s.heap a l) (room : l.length + 1 < scanBound)
    (hQ : ∀ b h', Heap.SameBut a s.heap h' → SetS P w h' a (if k ∈ l then l else k :: l) → Q b { s with heap := h', toks := s.toks + 1 }) :
    wpAny (model P w) A (setAdd a (.str k u)) Q E s := by
  obtain ⟨D, ho, G, r, nd⟩ := R
  unfold setAdd
  refine wpAny_holding (wpAny_bind ((strKind P w).pyHash (is_str k u) ?_))
  by_cases c : k ∈ l
  · refine there_x (s := { s with toks := s.toks + 1 }) ho G c (by omega) (hQ _ s.heap (Heap.SameBut.refl a s.heap) ?_)
    rw [if_pos c]
    exact ⟨D, ho, G, r, nd⟩
  · refine add_x (s := { s with toks := s.toks + 1 }) ho G c room (hQ _ _ ?_ ?_)
    · exact Heap.SameBut.update ..
    · rw [if_neg c]
      exact ⟨_, get_upd _ ho rfl, add_ok u G, addTx_walk r, List.nodup_cons.mpr ⟨c, nd⟩⟩
/-- what an iterator gives, put in one after another -/
theorem fillTx {I : Addr} {fp wr : List Addr} {G : Array GenState → Array GenState → Prop} {n : Nat}
    {Pv : Nat → Value → Prop} {St : Nat → Shared → Prop} {R : Result → Shared → Prop}
    (W : WalksS P w A.in1 I fp wr G n Pv St) (S : Addr) (out : S ∉ fp) (xs : List Str) (hn : n = xs.length)
    (val : ∀ i v, Pv i v → ∃ k t, xs[i]? = some k ∧ v = .str k t) :
    ∀ (k i : Nat) (l : List Str) (s : Shared), n - i = k → i ≤ n → l.length + k + 1 < scanBound → St i s → SetS P w s.heap S l →
      (∀ s', Moved (S :: wr) G s s' → SetS P w s'.heap S (addAll l (xs.drop i)) → R (.ok (.ret .none)) s') →
      codeAny (model P w) A (.builtin "set.update.loop" ⟨[.ref S, .ref I], []⟩) R s := by
  have nw : S ∉ wr := fun z => out (W.sub _ z)
  have more : ∀ b ∈ wr, b ∈ S :: wr := fun b z => List.mem_cons_of_mem _ z
  intro k
  induction k with
  | zero =>
    intro i l s e1 e2 room hst have1 fin
    have e3 : i = n := by omega
    subst e3
    refine codeAny_builtin PyProof.Rows.F.entry_set_update_loop ?_
    rw [Around.under_plainId PyProof.Rows.F.plain_set_update_loop _]
    show wpAny _ A.in1 (pyNext (.ref I) >>= _) _ _ s
    refine wpAny_bind (W.done s _ _ hst fun s1 m1 => ?_)
    show wpAny _ A.in1 (ret Value.none) _ _ s1
    rw [show xs.drop i = [] from List.drop_of_length_le (by omega)] at fin
    exact wpAny_pure (fin s1 (m1.mono more) (have1.later fun o e => m1.heap S o nw e))
  | succ k ih =>
    intro i l s e1 e2 room hst have1 fin
    have lt : i < n := by omega
    refine codeAny_builtin PyProof.Rows.F.entry_set_update_loop ?_
    rw [Around.under_plainId PyProof.Rows.F.plain_set_update_loop _]
    show wpAny _ A.in1 (pyNext (.ref I) >>= _) _ _ s
    refine wpAny_bind (W.item i s _ _ lt hst fun v s1 hv st1 m1 => ?_)
    obtain ⟨x, t, hx, rfl⟩ := val i v hv
    have dr : xs.drop i = x :: xs.drop (i + 1) := by
      obtain ⟨hi, ex⟩ := List.getElem?_eq_some_iff.mp hx
      rw [List.drop_eq_getElem_cons hi, ex]
    rw [dr] at fin
    show wpAny _ A.in1 (holding [Value.str x t] (setAdd S (.str x t)) >>= _) _ _ s1
    refine wpAny_bind (wpAny_holding (setS_put (have1.later fun o e => m1.heap S o nw e) (by omega) fun b h2 sb have2 => ?_))
    refine wpAny_pure ⟨plainId_quiet PyProof.Rows.F.plain_set_update_loop _, ?_⟩
    refine ih (i + 1) _ _ (by omega) lt (by have q := one_len l x; omega) ?_ have2 fun s3 m3 have3 => ?_
    · exact W.frame _ s1 _ _ st1 (Nat.le_succ _) fun b hb o e => (sb.2 b fun z => out (z ▸ hb)).trans e
    · refine fin s3 (Moved.trans W.gtrans ?_ m3) have3
      exact (m1.mono more).then_heap (Nat.le_succ _) fun b o hb e => (sb.2 b fun z => hb (z ▸ List.mem_cons_self)).trans e
/-- an empty set, laid anew -/
def emptyS (w : World) : Obj := { cls := .type "set", dict := none, data := .set #[] 0 (.fresh 0 0 (!w.params.followText "set-order")) }
theorem emptyS_at {h : Heap} (e : h.get? a = some (emptyS w)) : SetS P w h a [] := by
  refine ⟨(#[], 0, .fresh 0 0 (!w.params.followText "set-order")), e, TxOk.nil (by rfl), ⟨List.Pairwise.nil, ?_⟩, List.nodup_nil⟩
  show _ ∨ (!w.params.followText "set-order") = true
  cases w.params.followText "set-order"
  · exact .inr rfl
  · exact .inl rfl
end
end TxS
/-! ## C16 -/
set_option Elab.async false
set_option linter.all false
set_option maxRecDepth 100000
set_option maxHeartbeats 4000000
/-! the set of a list of texts: the call -/
namespace TxS
open PySem PySem.Spec PyProof.Rows L2 PySem.Froz
section
variable {P : Program} {w : World} {A : Around} {E : Value → Shared → Prop} {s : Shared}
theorem call_set_listTx {l : Addr} {items : Array Value} {xs : List Str} {Q : Value → Shared → Prop} (calm : A.handled = none) (isl : s.heap.IsList l items)
    (txs : StrsAre items.toList xs) (room : xs.length + 1 < scanBound)
    (fin : ∀ (h' : Heap) (tk : Nat), SetS P w h' s.heap.objs.size (addAll [] xs) →
      (∀ b o, s.heap.get? b = some o → h'.get? b = some o) → Q (.ref s.heap.objs.size) { s with heap := h', toks := tk }) :
    wpAny (model P w) A (call (.type "set") [.ref l]) Q E s := by
  have many : items.size = xs.length := by
    have q := strs_len txs
    rw [Array.length_toList] at q
    exact q.symm
  have mro := PySem.F.called_set.mro
  obtain ⟨top, rest, mro⟩ := mro
  have made := PySem.F.called_set.made
  have subs := PySem.F.called_set.sub
  have notType := PySem.F.called_set.notType
  have canBe := PySem.F.called_set.canCreate
  have checked := PySem.F.typeCall_set_1 (.ref l)
  refine wpAny_call (codeAny_of_tree ?_)
  show wpAny _ _ (callAny (.type "set") _) _ _ _
  refine wpAny_pure ⟨Code.quiet_builtin _ (by decide +kernel),
    codeAny_builtin PySem.F.entry_type_call ?_⟩
  rw [Around.under_plain (weight_type_call_type "set" [.ref l] [])
    rfl]
  repeat (any_goals (first | assumption | wp_step))
  let s0 : Shared := { s with heap := s.heap.push (emptyS w) }
  refine codeAny_mono (code_set_led1 (.ref l) (E := E) (Q₁ := fun v t => v = .ref s.heap.objs.size ∧ t = s0) ⟨rfl, rfl⟩) fun r t hr => ?_
  cases r with
  | error e => exact hr
  | ok fl =>
    cases fl with
    | ret v =>
      obtain ⟨rfl, rfl⟩ := hr
      have at0 : s0.heap.get? s.heap.objs.size = some (emptyS w) := Heap.get?_push_size _ rfl
      have ty : s0.TypeIs (.ref s.heap.objs.size) "set" := ⟨_, at0, rfl⟩
      have look := PySem.F.called_set.init.lookup
      have binds := PySem.F.called_set.init.bind (.ref s.heap.objs.size)
      repeat (any_goals (first | assumption | wp_step))
      refine codeAny_mono (codeAny_call_builtin (R := wants (fun v t => v = .none ∧ ∃ h' tk, t = { s with heap := h', toks := tk } ∧
          SetS P w h' s.heap.objs.size (addAll [] xs) ∧ (∀ b o, s.heap.get? b = some o → h'.get? b = some o)) E)
        PySem.F.called_set.init.plain PySem.F.entry_set_init (check_set_init_1 ty ?_)) fun r2 t2 hr2 => ?_
      · obtain ⟨⟨cl, di, da, sl⟩, ho, hc, nl, hd⟩ := isl
        simp only at hc hd
        subst hc
        subst hd
        have ho1 : s0.heap.get? l = some { cls := .type "list", dict := di, data := .seq items nl, slots := sl } := Heap.get?_push_of_some _ ho
        have isl1 : s0.heap.IsList l items := ⟨_, ho1, rfl, nl, rfl⟩
        have not1 := PySem.F.sub_list_set
        have not2 := PySem.F.sub_list_frozenset
        have not3 : (Value.type "list" == Value.type "dict") = false := by decide
        have lt : l < s.heap.objs.size := Heap.lt_size ho
        have size0 : s0.heap.objs.size = s.heap.objs.size + 1 := Heap.size_push ..
        unfold Builtin.«set.__init__» noKeywords Builtin.Frozenset.updateFrom
        generalize named : pyIter = PI
        have g0 : s0.gens = s.gens := rfl
        have d0 : s0.drawn = s.drawn := rfl
        have o0 : s0.os = s.os := rfl
        have old0 : ∀ b o, s.heap.get? b = some o → s0.heap.get? b = some o := fun b o e => Heap.get?_push_of_some _ e
        generalize s0 = z at *
        wp_walk
        subst named
        refine wpAny_pyIter_list isl1 (wpAny_bind (wpAny_runValue ?_))
        have hA : A.in1.in1.in1.handled = none := by
          rw [← calm]
        have apart : l ≠ z.heap.objs.size := Nat.ne_of_lt (by rw [size0]; exact Nat.lt_succ_of_lt lt)
        have out : s.heap.objs.size ∉ [z.heap.objs.size, l] := by
          intro c
          rcases List.mem_cons.mp c with e | c
          · rw [size0] at e
            exact absurd e (Nat.ne_of_lt (Nat.lt_succ_self _))
          · exact absurd (List.mem_singleton.mp c) (Nat.ne_of_gt lt)
        have val : ∀ (i : Nat) (v : Value), items[i]? = some v → ∃ k t, xs[i]? = some k ∧ v = .str k t := fun i v e =>
          StrsAre.pick txs i v (by rw [Array.getElem?_toList]; exact e)
        refine fillTx ((Walks.list hA _ l apart items).toS) s.heap.objs.size out xs many val (items.size - 0) 0 [] _ rfl (Nat.zero_le _) ?_ ?_ ?_ ?_
        · show 0 + (items.size - 0) + 1 < scanBound
          omega
        · exact ⟨⟨_, Heap.get?_push_size _ rfl, rfl, rfl⟩, isl1.push _⟩
        · exact emptyS_at (Heap.get?_push_of_some _ at0)
        · intro s3 m3 got
          obtain ⟨h3, g3, d3, t3, o3⟩ := s3
          have eg : g3 = s.gens := m3.gens.trans g0
          have ed : d3 = s.drawn := m3.drawn.trans d0
          have eo : o3 = s.os := m3.os.trans o0
          subst eg ed eo
          show wpAny _ _ _ _ _ _
          refine wpAny_pure ?_
          show wpAny _ _ (ret Value.none) _ _ _
          refine wpAny_pure ⟨rfl, h3, t3, rfl, got, fun b o e => ?_⟩
          have lb : b < s.heap.objs.size := Heap.lt_size e
          refine m3.heap b o (fun c => ?_) (Heap.get?_push_of_some _ (old0 b o e))
          rcases List.mem_cons.mp c with e | c
          · exact absurd e (Nat.ne_of_lt lb)
          · refine absurd (List.mem_singleton.mp c) (Nat.ne_of_lt ?_)
            rw [size0]
            exact Nat.lt_succ_of_lt lb
      · cases r2 with
        | error e => exact hr2
        | ok fl2 =>
          cases fl2 with
          | ret v =>
            obtain ⟨rfl, h', tk, rfl, got, old⟩ := hr2
            repeat (any_goals (first | assumption | wp_step))
            exact fin _ _ got old
          | _ => exact hr2.elim
    | _ => exact hr.elim
end
end TxS
/-! ## X10 -/
set_option Elab.async false
set_option linter.all false
set_option maxRecDepth 100000
set_option maxHeartbeats 4000000
/-! x == y, x of a built-in type, y with an own == -/
namespace Sl
open PySem PySem.Spec PyProof.Rows PySem.SeqAt Builtin
section
variable {prog : Program} {w : World} {A : Around} {E : Value → Shared → Prop} {s : Shared} {x l : Addr} {Q : Value → Shared → Prop}
theorem list_decl {o : Obj} (ho : s.heap.get? l = some o) (hc : o.cls = .type "list") (hI : PySem.W.Looks (model prog w) s.heap (isInstance (.ref x) (.type "list")) false) (q : Q .notImplemented s) : wpAny (model prog w) A (call (.builtin "list.__eq__") [.ref l, .ref x]) Q E s := by
  refine wpAny_call (codeAny_call_builtin F.slot_list_eq.plain F.entry_list_eq (F.slot_list_eq.check _ _ _ _ _ _ _ _ ⟨o, ho, hc⟩ (F.args_list_eq_2 _ _) ?_))
  unfold Builtin.«list.__eq__»
  refine wpAny_bind (m := slotArgs "__eq__" 1 _) (wpAny_pure ?_)
  refine wpAny_bind (hI.here ?_)
  rw [if_pos (by decide)]
  exact wpAny_pure q
theorem tuple_decl {o : Obj} (ho : s.heap.get? l = some o) (hc : o.cls = .type "tuple") (hI : PySem.W.Looks (model prog w) s.heap (isInstance (.ref x) (.type "tuple")) false) (q : Q .notImplemented s) : wpAny (model prog w) A (call (.builtin "tuple.__eq__") [.ref l, .ref x]) Q E s := by
  refine wpAny_call (codeAny_call_builtin F.slot_tuple_eq.plain F.entry_tuple_eq (F.slot_tuple_eq.check _ _ _ _ _ _ _ _ ⟨o, ho, hc⟩ (F.args_tuple_eq_2 _ _) ?_))
  unfold Builtin.«tuple.__eq__»
  refine wpAny_bind (m := slotArgs "__eq__" 1 _) (wpAny_pure ?_)
  refine wpAny_bind (hI.here ?_)
  rw [if_pos (by decide)]
  exact wpAny_pure q
theorem dict_decl {o : Obj} (ho : s.heap.get? l = some o) (hc : o.cls = .type "dict") (hI : PySem.W.Looks (model prog w) s.heap (isInstance (.ref x) (.type "dict")) false) (q : Q .notImplemented s) : wpAny (model prog w) A (call (.builtin "dict.__eq__") [.ref l, .ref x]) Q E s := by
  refine wpAny_call (codeAny_call_builtin F.slot_dict_eq.plain F.entry_dict_eq (F.slot_dict_eq.check _ _ _ _ _ _ _ _ ⟨o, ho, hc⟩ (F.args_dict_eq_2 _ _) ?_))
  unfold Builtin.«dict.__eq__»
  refine wpAny_bind (m := Builtin.Dict.dictSlotArgs "__eq__" _) ?_
  unfold Builtin.Dict.dictSlotArgs
  refine wpAny_bind (wpAny_notOrdered_dict ⟨o, ho, hc⟩ ?_)
  refine wpAny_bind (m := slotArgs "__eq__" 1 _) (wpAny_pure (wpAny_pure ?_))
  refine wpAny_bind (hI.here ?_)
  rw [if_pos (by decide)]
  exact wpAny_bind (wpAny_rule (wpAny_pure q))
theorem none_decl (q : Q .notImplemented s) : wpAny (model prog w) A (call (.builtin "NoneType.__eq__") [.none, .ref x]) Q E s :=
  call_gives F.slot_NoneType_eq_refl rfl F.entry_NoneType_eq (F.args_NoneType_eq_2 _ _) (NoneType___eq___none_ref_0 x) q
theorem int_ins (b : Int) (u : Tok) (l : Addr) (c : Value) (dd : Option Addr) (sl : Array (Option Value)) :
    Meets (Builtin.«int.__eq__» ⟨[.int b u, .ref l], []⟩) (fun _ R s => s.heap.get? l = some { cls := c, dict := dd, data := .plain, slots := sl } ∧ R (.ok (.ret .notImplemented)) s) :=
  .of_wp fun prog w A R s h => by obtain ⟨hp, g, d, tk, os⟩ := s; obtain ⟨hl, h⟩ := h; wp_walk using wpAny_loadPart' hl, wpAny_load hl; exact ⟨_, rfl, h⟩
theorem str_ins (b : Str) (u : Tok) (l : Addr) (c : Value) (dd : Option Addr) (sl : Array (Option Value)) :
    Meets (Builtin.«str.__eq__» ⟨[.str b u, .ref l], []⟩) (fun _ R s => s.heap.get? l = some { cls := c, dict := dd, data := .plain, slots := sl } ∧ R (.ok (.ret .notImplemented)) s) :=
  .of_wp fun prog w A R s h => by obtain ⟨hp, g, d, tk, os⟩ := s; obtain ⟨hl, h⟩ := h; wp_walk using wpAny_loadPart' hl, wpAny_load hl; exact ⟨_, rfl, h⟩
end
section
variable {prog : Program} {w : World} {A : Around} {E : Value → Shared → Prop} {s : Shared} {K : PySem.W.Frag} {x C f : Addr} {ox : Obj} {od : Option Obj} {a : Value} {Ta ida : String}
/-- a == x, where a's own type has no say -/
theorem eq_back {Q : Value → Shared → Prop} (hu : A.units < cLine) (X : K.In s.heap) (I : PySem.W.InstAt s.heap x ox C od) (ha : s.TypeIs a Ta) (hn : PySem.W.subIn K (.ref C) (.type Ta) = some false) (h1 : Slot Ta "__eq__" ida)
    (hd : ∀ Q' : Value → Shared → Prop, Q' .notImplemented s → wpAny (model prog w) A (call (.builtin ida) [a, .ref x]) Q' E s)
    (hs : PySem.W.findIn K (.ref C) "__eq__" = some (some (.ref f))) (hf : PySem.W.isFn K (.ref f) = true)
    (h : wpAny (model prog w) A (call (.ref f) [.ref x, a]) (PySem.W.CmpBack Q) E s) : wpAny (model prog w) A (richCompare .Eq a (.ref x)) Q E s := by
  have one : wpAny (model prog w) A (tryCompare (.ref x) "__eq__" a) (fun r s' => ∃ v, r = some v ∧ Q v s') E s := by
    unfold tryCompare
    refine wpAny_bind (PySem.W.ifBound_K X I hs hf (wpAny_mono h (fun v s' hv => ?_) fun _ _ e => e))
    cases v <;> first | exact hv.elim | exact wpAny_pure ⟨_, rfl, hv⟩
  unfold richCompare
  simp only [ha.oneThing_none, cmpInfo]
  refine wpAny_holding (wpAny_bind (wpAny_cRoomFor hu ?_))
  refine wpAny_bind (wpAny_typeOf ha (wpAny_bind (I.type.here ?_)))
  have hne : (Value.type Ta != Value.ref C) = true := rfl
  simp only [hne, if_true]
  refine wpAny_bind ((PySem.W.looks_subIn X hn).here ?_)
  simp only [Bool.false_eq_true, if_false, Bool.not_false, if_true]
  refine wpAny_bind (m := tryCompare a _ _) (wpAny_tryCompare_declines ha h1 (hd _ ⟨rfl, ?_⟩))
  refine wpAny_bind (wpAny_mono one (fun r s' z => ?_) fun _ _ e => e)
  obtain ⟨v, rfl, hq⟩ := z
  exact wpAny_pure hq
end
end Sl
/-! ## X11 -/
set_option Elab.async false
set_option linter.all false
set_option maxRecDepth 100000
set_option maxHeartbeats 4000000
/-! x == y, x of a built-in type, y with an own == -/
namespace Sl
open PySem PySem.Spec PyProof.Rows L2 TxS
/-- a value of a built-in type -/
inductive Thg (H : Hp) : V → Prop
  | non : Thg H .non
  | int (i : Int) : Thg H (.int i)
  | str (z : Str) : Thg H (.str z)
  | lst {a : Addr} {xs : List V} (e : H a = some (.lst xs)) : Thg H (.ref a)
  | tup {a : Addr} {xs : List V} (e : H a = some (.tup xs)) : Thg H (.ref a)
  | dK {a : Addr} {kvs : List (Key × V)} (e : H a = some (.dK kvs)) : Thg H (.ref a)
theorem Thg.ext {H H' : Hp} {x : V} (h : Thg H x) (e : Ext H H') : Thg H' x := by
  cases h with
  | non => exact .non
  | int i => exact .int i
  | str z => exact .str z
  | lst q => exact .lst (e _ _ q)
  | tup q => exact .tup (e _ _ q)
  | dK q => exact .dK (e _ _ q)
def builtT : List String := ["NoneType", "int", "str", "list", "tuple", "dict"]
theorem Thg.ty {K : PySem.W.Frag} {H : Hp} {x : V} (h : Thg H x) : ∃ T ∈ builtT, TyX K H x (.type T) := by
  cases h with
  | non => exact ⟨_, by decide, .base .non⟩
  | int i => exact ⟨_, by decide, .base (.int i)⟩
  | str z => exact ⟨_, by decide, .base (.str z)⟩
  | lst q => exact ⟨_, by decide, .base (.lst q)⟩
  | tup q => exact ⟨_, by decide, .base (.tup q)⟩
  | dK q => exact ⟨_, by decide, .base (.dK q)⟩
/-- the class at C is under none of these -/
structure NotB (K : PySem.W.Frag) (C : Addr) : Prop where
  sub : ∀ T ∈ builtT, PySem.W.subIn K (.ref C) (.type T) = some false
  kit : ∀ T ∈ builtT, PySem.W.kitOne K (.type T) (.ref C) = some false
  fst : ∀ T ∈ builtT, PySem.W.notFirst K C (.type T) = true
section
variable {X : Cx}
def rEqX (C : Addr) (S : Sp) (E : XK) : R2 := fun x y H Q => ∃ (a dx : Addr) (fs : List (Str × V)), y = .ref a ∧ H a = some (.ins C dx fs) ∧ Thg H x ∧ S [.ref a, x] H (fun v H' => (∃ b, v = .bl b) ∧ Q v H') E
theorem op_eqX {CX : CXT} {n : Nat} {C f : Addr} {fd : FuncData} {ps : List Str} {S : Sp} {E : XK} (F : FnOk X.prog X.w X.K X.mg X.base CX n f fd ps S) (hr : Room n X.A) (nb : NotB X.K C)
    (hs : PySem.W.findIn X.K (.ref C) "__eq__" = some (some (.ref f))) (hf : PySem.W.isFn X.K (.ref f) = true) (hb : Binds X.K fd ps []) (hx : Passes CX X E) : OpR X (compareOp .Eq) (rEqX C S E) := by
  intro pins s σ H x y v u Q I rx ry h
  obtain ⟨a, dx, fs, rfl, ha, th, hsp⟩ := h
  cases (show u = Value.ref a from ry)
  obtain ⟨mA, J, _⟩ := ins_get I.hok ha
  have hob := J.obj
  obtain ⟨od, J, _⟩ := J.look
  have sb : Sub X n X.A := ⟨hr, rfl⟩
  have hu : X.A.units < cLine := sb.room.units0
  have e0 : Env0 X.prog X.w X.K X.mg X.base X.A X.stack s H := by
    have e := I.env0
    exact ⟨by rw [sb.fr]; exact e.frames, e.mod, e.bs, e.bsz, e.funs, e.frf, e.hok, e.bare⟩
  have hl := F.len _ _ _ _ hsp
  have r2 : Vals [V.ref a, x] [Value.ref a, v] := .cons rfl (.cons rx .nil)
  have own : wpAny (model X.prog X.w) X.A (call (.ref f) [.ref a, v]) (PySem.W.CmpBack fun w s' => ∃ y H', Inv X pins σ H' s' ∧ RelV y w ∧ Q y H') X.xe s := by
    refine wpAny_call (codeAny_mono (F.run X.A X.stack s H ⟨[Value.ref a, v], []⟩ [Value.ref a, v] [V.ref a, x] _ E sb.room e0 (by
      have := hb s [Value.ref a, v] I.kIn (by simpa using hl)
      simpa using this) r2 hsp) fun r s' hq => ?_)
    cases r with
    | error e => exact hx pins σ H s e s' I hq
    | ok fl =>
      cases fl with
      | ret w =>
        obtain ⟨z, H', I', rz, ⟨b, ez⟩, q⟩ := I.after hq
        subst ez
        cases rz
        exact ⟨.bl b, H', I', rfl, q⟩
      | next => exact False.elim hq
      | brk => exact False.elim hq
      | cont => exact False.elim hq
  have lk : ∀ T ∈ builtT, PySem.W.Looks (model X.prog X.w) s.heap (isInstance (.ref a) (.type T)) false := fun T hT => J.type.andThen (PySem.W.looks_subIn I.kIn (nb.sub T hT))
  cases th with
  | non =>
    cases (show v = Value.none from rx)
    exact eq_back hu I.kIn J (Ta := "NoneType") rfl (nb.sub _ (by decide)) PySem.F.slot_NoneType_eq_refl (fun _ q => none_decl q) hs hf own
  | int i =>
    obtain ⟨t, e⟩ := (show ∃ t, v = Value.int i t from rx)
    cases e
    exact eq_back hu I.kIn J (Ta := "int") (typeIs_int s i t) (nb.sub _ (by decide)) PySem.F.slot_int_eq (fun _ q => call_meets PySem.F.slot_int_eq (typeIs_int s i t) PySem.F.entry_int_eq (PySem.F.args_int_eq_2 _ _) (int_ins i t a (.ref C) (some dx) #[]) ⟨J.at_, q⟩) hs hf own
  | str z =>
    obtain ⟨t, e⟩ := (show ∃ t, v = Value.str z t from rx)
    cases e
    exact eq_back hu I.kIn J (Ta := "str") (typeIs_str s z t) (nb.sub _ (by decide)) PySem.F.slot_str_eq (fun _ q => call_meets PySem.F.slot_str_eq (typeIs_str s z t) PySem.F.entry_str_eq (PySem.F.args_str_eq_2 _ _) (str_ins z t a (.ref C) (some dx) #[]) ⟨J.at_, q⟩) hs hf own
  | @lst l xs e =>
    cases (show v = Value.ref l from rx)
    obtain ⟨us, r, ⟨o, n, e1, hc, _, hd⟩, _⟩ := I.list (SqL.of (K := X.K) e)
    exact eq_back hu I.kIn J (Ta := "list") ⟨o, e1, hc⟩ (nb.sub _ (by decide)) PySem.F.slot_list_eq (fun _ q => list_decl e1 hc (lk _ (by decide)) q) hs hf own
  | @tup l xs e =>
    cases (show v = Value.ref l from rx)
    obtain ⟨us, r, ⟨o, e1, hc, n, hd⟩, _⟩ := I.tuple (SqT.of (K := X.K) e)
    exact eq_back hu I.kIn J (Ta := "tuple") ⟨o, e1, hc⟩ (nb.sub _ (by decide)) PySem.F.slot_tuple_eq (fun _ q => tuple_decl e1 hc (lk _ (by decide)) q) hs hf own
  | @dK l kvs e =>
    cases (show v = Value.ref l from rx)
    obtain ⟨_, _, vs, kv, o, es, ep, ho, ⟨hc, _⟩, _⟩ := dk_of I.hok e
    exact eq_back hu I.kIn J (Ta := "dict") ⟨o, ho, hc⟩ (nb.sub _ (by decide)) PySem.F.slot_dict_eq (fun _ q => dict_decl ho hc (lk _ (by decide)) q) hs hf own
end
end Sl
/-! ## X12 -/
set_option Elab.async false
set_option linter.all false
set_option maxRecDepth 100000
set_option maxHeartbeats 4000000
/-! _law_are -/
namespace Sl
open PySem PySem.Spec PyProof.Rows L2 TxS
abbrev sAre : Stmt := top 39
/-- the own == of the class at C -/
structure EqC (K : PySem.W.Frag) (C f : Addr) (fd : FuncData) : Prop where
  hs : PySem.W.findIn K (.ref C) "__eq__" = some (some (.ref f))
  hf : PySem.W.isFn K (.ref f) = true
  hb : Binds K fd ["self", "other"] []
  ne : PySem.W.findIn K (.ref C) "__ne__" = some (some (.builtin "object.__ne__"))
  hm : PySem.W.mroIn K C (.type "object") = some true
  nf : PySem.W.notFirst K C (.ref C) = true
theorem ReaderAt.ty {K : PySem.W.Frag} {C : Addr} {H : Hp} {p : Addr} {rows : List Rw} {ends : List Int} {b : Int} (h : ReaderAt C H p rows ends b) (iC : C8.InsC K C) : TyX K H (.ref p) (.ref C) := by
  obtain ⟨dx, fs, L, ds, Te, hp, _⟩ := h.ex
  exact .base (TyOf.ins hp iC.cl iC.ha iC.hn iC.htk iC.hm)
/-- rows whose signs differ -/
def NdR (rows : List Rw) : Prop := ∀ r ∈ rows, (r.map (·.1)).Nodup
def spAre (C : Addr) : Sp := fun vs H Q _ => ∃ (p q : Addr) (rows rows' : List Rw) (ends ends' : List Int) (b b' : Int) (d : Bool), vs = [.ref p, .ref q, .bl d] ∧ ReaderAt C H p rows ends b ∧ ReaderAt C H q rows' ends' b' ∧ NdR rows ∧ NdR rows' ∧
  rdEq rows rows' ends ends' b b' = d ∧ rdEq rows' rows ends' ends b' b = d ∧ ∀ H', Ext H H' → Q (.bl true) H'
theorem bools_dp {K : PySem.W.Frag} {H : Hp} : ∀ l : List Bool, DpAll K H (l.map V.bl) (l.map PyData.bool)
  | [] => .nil
  | b :: l => .cons (.bl b) (bools_dp l)
section
variable {P : Program} {w : World} {K : PySem.W.Frag} {mg : Str → Option Value} {base : Heap}
theorem scAre : FnScope ["_law_one", "_law_other_here", "_law_due", "_law_told"] ["_law_one", "_law_other_here", "_law_due"] (defScope sAre) := ⟨rfl, rfl, rfl, by decide +kernel, rfl, by decide +kernel, by decide +kernel⟩
theorem ok_are {f fE C : Addr} {fd fdE : FuncData} (F : Fun K "_law_are" "_law_are" sAre f fd) (iC : C8.InsC K C) (eC : EqC K C fE fdE) (gE : FnOk P w K mg base CX0 1 fE fdE ["self", "other"] (spEqR K C)) (zp : mg "repr" = none) :
    FnG P w K mg base CX0 3 f fd ["_law_one", "_law_other_here", "_law_due"] (spAre C) := by
  refine Sl.Fun.okG F scAre (fun vs H Q E h => ?_) (fun cdv A0 outer s H vs Q E gd hr h => ?_)
  · obtain ⟨p, q, rows, rows', ends, ends', b, b', d, rfl, _⟩ := h
    rfl
  · obtain ⟨p, q, rows, rows', ends, ends', b, b', d, rfl, RA, RB, nA, nB, e1, e2, k⟩ := h
    have hu0 := hr.units
    have hr1 : Room 1 (A0.deeper (envOfC "_law_are" (defScope sAre) s.heap.objs.size f cdv)) := hr.mono (by decide)
    refine ⟨_, pss_cons (ps_set (i := 3) scAre.nd rfl (.inl rfl) (pe_lst (pa_cons (pe_cmpR (op_eqO (E := fun _ _ _ => False) gE hr1 eC.hs eC.hf eC.hb (fun _ _ _ _ _ _ _ z => z.elim)) (pv 0) (pv 1) (nomark _))
        (pa_cons (pe_cmpR (op_eqO (E := fun _ _ _ => False) gE hr1 eC.hs eC.hf eC.hb (fun _ _ _ _ _ _ _ z => z.elim)) (pv 1) (pv 0) (nomark _))
        (pa_cons (pe_cmpR (op_neO (E := fun _ _ _ => False) gE hr eC.hm eC.ne eC.hs eC.hf eC.hb (fun _ _ _ _ _ _ _ z => z.elim)) (pv 0) (pv 1) (nomark _))
        (pa_cons (pe_cmpR (op_neO (E := fun _ _ _ => False) gE hr eC.hm eC.ne eC.hs eC.hf eC.hb (fun _ _ _ _ _ _ _ z => z.elim)) (pv 1) (pv 0) (nomark _)) pa_nil))))))
      (pss_one (ps_ret (pe_cmpR op_eq (pe_callB (cr_shown gd hu0) (by rfl) zp (by decide +kernel) (pa_cons (pv 3) pa_nil))
        (pe_callB (cr_shown gd hu0) (by rfl) zp (by decide +kernel) (pa_cons (pe_lst (pa_cons (pv 2) (pa_cons (pv 2) (pa_cons (pe_not (pv 2)) (pa_cons (pe_not (pv 2)) pa_nil))))) pa_nil)) (nomark _)))), ?_⟩
    have eqs : ∀ (p q : Addr) (rows rows' : List Rw) (ends ends' : List Int) (b b' : Int) (Q' : VK), ReaderAt C H p rows ends b → ReaderAt C H q rows' ends' b' → NdR rows → Q' (.bl (rdEq rows rows' ends ends' b b')) H → spEqR K C [.ref p, .ref q] H Q' (fun _ _ _ => False) := fun p q rows rows' ends ends' b b' Q' RA RB nd h => ⟨p, .ref q, rows, ends, b, rfl, RA, nd, .inl ⟨q, rows', ends', b', rfl, RB, h⟩⟩
    obtain ⟨dx, fs, _, _, _, hp, _⟩ := RA.ex
    obtain ⟨dy, gs, _, _, _, hq, _⟩ := RB.ex
    refine ⟨_, rfl, _, rfl, p, dx, fs, .ref C, rfl, hp, RB.ty iC, eC.nf, eqs p q _ _ _ _ _ _ _ RA RB nA ⟨⟨_, rfl⟩, ?_⟩⟩
    refine ⟨_, rfl, _, rfl, q, dy, gs, .ref C, rfl, hq, RA.ty iC, eC.nf, eqs q p _ _ _ _ _ _ _ RB RA nB ⟨⟨_, rfl⟩, ?_⟩⟩
    refine ⟨_, rfl, _, rfl, p, dx, fs, .ref C, rfl, hp, RB.ty iC, eC.nf, eqs p q _ _ _ _ _ _ _ RA RB nA ⟨_, rfl, ?_⟩⟩
    refine ⟨_, rfl, _, rfl, q, dy, gs, .ref C, rfl, hq, RA.ty iC, eC.nf, eqs q p _ _ _ _ _ _ _ RB RA nB ⟨_, rfl, ?_⟩⟩
    rw [e1, e2]
    refine ⟨by show 4 ≤ sizeLine; decide, fun L nL => ?_⟩
    have x1 : Ext H (upd H L (.lst [.bl d, .bl d, .bl (!d), .bl (!d)])) := Ext.new nL
    have l1 : (upd H L (.lst [.bl d, .bl d, .bl (!d), .bl (!d)])) L = some (.lst ([d, d, !d, !d].map V.bl)) := upd_same
    generalize upd H L (.lst [.bl d, .bl d, .bl (!d), .bl (!d)]) = H1 at x1 l1 ⊢
    have fin : ∀ d : Bool, (PyData.list ([d, d, !d, !d].map PyData.bool)).showable = true ∧ (PyData.list ([d, d, !d, !d].map PyData.bool)).hasDict = false ∧ (PyData.list ([d, d, !d, !d].map PyData.bool)).depth ≤ 60 ∧ (PyData.list ([d, d, !d, !d].map PyData.bool)).shown.length ≤ 10000 := by decide +kernel
    obtain ⟨f1, f2, f3, f4⟩ := fin d
    refine ⟨_, rfl, L, _, rfl, .lst (SqL.of l1) (bools_dp _), f1, f2, f3, small_size f4, ?_⟩
    refine ⟨_, rfl, _, rfl, _, rfl, _, rfl, ?_⟩
    refine ⟨_, rfl, _, rfl, ?_⟩
    refine ⟨by show 4 ≤ sizeLine; decide, fun L2 nL2 => ?_⟩
    refine ⟨L2, _, rfl, .lst (SqL.of (xs := [d, d, !d, !d].map V.bl) upd_same) (bools_dp _), f1, f2, f3, small_size f4, rfl, ?_⟩
    rw [decide_eq_true rfl]
    exact k _ (x1.trans (Ext.new nL2))
end
end Sl
/-! ## Y3 -/
set_option Elab.async false
set_option linter.all false
set_option maxRecDepth 100000
set_option maxHeartbeats 4000000
/-! _law_mixed -/
namespace Sl
open PySem PySem.Spec PyProof.Rows L2 TxS
abbrev sMixed : Stmt := top 33
def spMixed : Sp := fun vs H Q _ => ∃ (a b : Addr) (xs : List V), vs = [.ref a, .ref b] ∧ Rng H a ∧ H b = some (.lst xs) ∧ b ≠ a ∧ xs.length ≤ 100 ∧
  ∀ (H' : Hp) (L : Addr) (ys : List V), Rng H' a → Keep a H H' → H L = none → H' L = some (.lst ys) → ys.Perm xs → Q (.ref L) H'
section
variable {P : Program} {w : World} {K : PySem.W.Frag} {mg : Str → Option Value} {base : Heap}
theorem scMixed : FnScope ["_law_rng_here", "_law_some", "_law_left", "_law_k"] ["_law_rng_here", "_law_some"] (defScope sMixed) := ⟨rfl, rfl, rfl, by decide +kernel, rfl, by decide +kernel, by decide +kernel⟩
theorem ok_mixed {f fD : Addr} {fd fdD : FuncData} (F : Fun K "_law_mixed" "_law_mixed" sMixed f fd) (aD : At K mg "_law_draw" fD fdD ["_law_rng_here", "_law_many"] []) (gD : FnOk P w K mg base CX0 1 fD fdD ["_law_rng_here", "_law_many"] spDraw) (zn : mg "len" = none) (zl : mg "list" = none) (zr : mg "range" = none) :
    FnOk P w K mg base CX0 2 f fd ["_law_rng_here", "_law_some"] spMixed := by
  refine F.ok scMixed (fun vs H Q E h => ?_) (fun cdv A0 outer s H vs Q E hr h => ?_)
  · obtain ⟨a, b, xs, rfl, _⟩ := h
    rfl
  · obtain ⟨a, b, xs, rfl, hR, hb, nba, lx, k⟩ := h
    refine ⟨_, pss_cons (ps_set (i := 2) scMixed.nd rfl (.inr rfl) (pe_callTy call_list_of (by rfl) zl (by decide +kernel) (pa_cons (pv 1) pa_nil)))
      (pss_one (ps_ret (pe_lc (own := [("_law_k", 3)]) (g := gName 3) (tt := tYes) (te := tBM K "list" rPopAt (tVar 2) (tCons (tCall spDraw [] (fun _ _ _ => False) (tCons (tVar 0) (tCons (tCB (rLen K) (tCons (tVar 2) tNil)) tNil))) tNil)) rfl scMixed.nd (pi_range1 rfl zr (pa_cons (pe_callB call_len_seq (by rfl) zn PySem.boot_len (pa_cons (pv 1) pa_nil)) pa_nil)) (blkOk_by (N := ["_law_rng_here", "_law_some", "_law_left", "_law_k"]) (sc := defScope sMixed) (by decide +kernel))
          (fun _ _ _ _ _ => pg_name (i := 3) scMixed.nd rfl (Or.inl rfl)) (fun _ _ _ _ _ => pts_nil)
          (fun _ _ _ _ _ => by exact pe_bm PySem.F.plainAttrs_list PySem.F.slot_list_pop PySem.F.type_list_pop mt_popAt (pv 2) (pa_cons (pe_call gD hr (by rfl) aD.g aD.kp aD.b .nil pass0 (pa_cons (pv 0) (pa_cons (pe_callB call_len_seq (by rfl) zn PySem.boot_len (pa_cons (pv 2) pa_nil)) pa_nil))) pa_nil))))), ?_⟩
    refine ⟨_, rfl, b, xs, rfl, .inl (SqL.of hb), fun Lf nLf => ?_⟩
    have aLf : Lf ≠ a := hR.new nLf
    refine ⟨_, rfl, b, _, rfl, .inl (SqL.of ((Ext.new nLf) _ _ hb)), xs.length, rfl, by omega, by omega, fun D nD => ?_⟩
    have nLD : Lf ≠ D := ne_of_none upd_same nD
    have nD0 : H D = none := (Ext.new nLf).free nD
    have aD' : D ≠ a := hR.new nD0
    refine lc_range (n := xs.length) (fun i H' => ∃ left picked : List V, H' Lf = some (.lst left) ∧ H' D = some (.lst picked) ∧ (picked ++ left).Perm xs ∧ picked.length = i ∧ Rng H' a ∧ Keep a H H') ⟨xs, [], by rw [upd_ne nLD]; exact upd_same, upd_same, List.Perm.refl _, rfl, hR.ext ((Ext.new nLf).trans (Ext.new nD)), Keep.of ((Ext.new nLf).trans (Ext.new nD))⟩ ?_ ?_
    · rintro i H1 hi ⟨left, picked, l1, l2, pm, lp, r1, k1⟩
      have ll : picked.length + left.length = xs.length := by rw [← List.length_append, pm.length_eq]
      refine ⟨rfl, _, rfl, .inl ⟨rfl, _, SqL.of l1⟩, _, rfl, _, rfl, Lf, _, rfl, .inl (SqL.of l1), a, _, rfl, r1, by omega, by omega, fun d H2 d0 dn r2 k2 => ?_⟩
      obtain ⟨j, rfl⟩ : ∃ j : Nat, d = (j : Int) := ⟨d.toNat, by omega⟩
      have hj : j < left.length := by omega
      have l1' := k2 _ _ l1 aLf
      refine ⟨Lf, _, _, j, left[j], rfl, rfl, l1', by omega, by omega, (ixN_seq (ix_nat hj)).1, List.getElem?_eq_getElem hj, ?_⟩
      have l2' : (upd H2 Lf (.lst (left.eraseIdx j))) D = some (.lst picked) := by
        rw [upd_ne nLD.symm]
        exact k2 _ _ l2 aD'
      refine ⟨_, l2', small_list (by omega), left.eraseIdx j, picked ++ [left[j]], ?_, ?_, ?_, ?_, ?_, ?_⟩
      · rw [upd_ne nLD, upd_same]
      · rw [upd_same]
      · refine List.Perm.trans ?_ pm
        rw [List.append_assoc]
        exact List.Perm.append_left _ (pick_perm left j hj)
      · rw [List.length_append, lp]
        rfl
      · obtain ⟨x, y, h, q⟩ := r2.ex
        exact ⟨x, y, by rw [upd_ne aD'.symm, upd_ne aLf.symm]; exact h, q⟩
      · intro b o e nb
        rw [upd_ne (ne_of_none e nD0), upd_ne (ne_of_none e nLf)]
        exact k2 _ _ (k1 b o e nb) nb
    · rintro H' ⟨left, picked, l1, l2, pm, lp, r1, k1⟩
      have ll : picked.length + left.length = xs.length := by rw [← List.length_append, pm.length_eq]
      have e0 : left = [] := List.eq_nil_of_length_eq_zero (by omega)
      rw [e0, List.append_nil] at pm
      exact k H' D picked r1 k1 nD0 l2 pm
end
end Sl
/-! ## Y4 -/
set_option Elab.async false
set_option linter.all false
set_option maxRecDepth 100000
set_option maxHeartbeats 4000000
/-! _law_turned -/
namespace Sl
open PySem PySem.Spec PyProof.Rows L2 TxS
abbrev sTurned : Stmt := top 35
theorem paired_perm {α β : Type} {F : α → β → Prop} {ps as : List α} (p : ps.Perm as) : ∀ {kvs : List β}, Paired F as kvs → ∃ kvs', Paired F ps kvs' ∧ kvs'.Perm kvs := by
  induction p with
  | nil => intro kvs h; exact ⟨kvs, h, .refl _⟩
  | cons x p ih =>
    intro kvs h
    cases h with
    | cons a h =>
      obtain ⟨k, h1, h2⟩ := ih h
      exact ⟨_, .cons a h1, h2.cons _⟩
  | swap x y l =>
    intro kvs h
    cases h with
    | cons a h => cases h with
      | cons b h => exact ⟨_, .cons b (.cons a h), .swap _ _ _⟩
  | trans p q i1 i2 =>
    intro kvs h
    obtain ⟨k, h1, h2⟩ := i2 h
    obtain ⟨k', h3, h4⟩ := i1 h1
    exact ⟨k', h3, h4.trans h2⟩
theorem paired_self {α β : Type} (f : α → β) : ∀ l : List α, Paired (fun (x : β) (y : α) => x = f y) (l.map f) l
  | [] => .nil
  | _ :: l => .cons rfl (paired_self f l)
theorem paired_map {α β : Type} {f : α → β} : ∀ {a : List β} {l : List α}, Paired (fun (x : β) (y : α) => x = f y) a l → a = l.map f
  | _, _, .nil => rfl
  | _, _, .cons e h => by rw [e, paired_map h]; rfl
theorem perm_map {α β : Type} {f : α → β} {l : List α} {l' : List β} (p : l'.Perm (l.map f)) : ∃ l2 : List α, l2.Perm l ∧ l' = l2.map f := by
  obtain ⟨k, h1, h2⟩ := paired_perm p (paired_self f l)
  exact ⟨k, h2, paired_map h1⟩
theorem Ents.paired {H : Hp} {es : List (Str × Addr)} {r : Rw} (h : Ents H es r) : Paired (fun (e : Str × Addr) (p : Str × Mv) => e.1 = p.1 ∧ MvAt H e.2 p.2) es r := by
  induction h with
  | nil => exact .nil
  | cons a h ih => exact .cons ⟨rfl, a⟩ ih
theorem Ents.of_paired {H : Hp} : ∀ {es : List (Str × Addr)} {r : Rw}, Paired (fun (e : Str × Addr) (p : Str × Mv) => e.1 = p.1 ∧ MvAt H e.2 p.2) es r → Ents H es r
  | _, _, .nil => .nil
  | _, _, .cons (a := a) (b := b) h t => by
    obtain ⟨z, t0⟩ := a
    obtain ⟨y, m⟩ := b
    obtain ⟨h1, h2⟩ := h
    have h1 : z = y := h1
    subst h1
    exact .cons h2 (Ents.of_paired t)
theorem Ents.perm {H : Hp} {es es' : List (Str × Addr)} {r : Rw} (h : Ents H es r) (p : es'.Perm es) : ∃ r', Ents H es' r' ∧ r'.Perm r := by
  obtain ⟨k, h1, h2⟩ := paired_perm p h.paired
  exact ⟨k, Ents.of_paired h1, h2⟩
theorem putE_new {α : Type} {l : List (Str × α)} {z : Str} {x : α} (h : z ∉ l.map (·.1)) : putE l z x = l ++ [(z, x)] := by
  unfold putE
  rw [if_neg h]
theorem merge_es : ∀ (more es : List (Str × Addr)), ((es ++ more).map (·.1)).Nodup → mergeK (kvsOf es) (kvsOf more) = kvsOf (es ++ more)
  | [], es, _ => by
    rw [List.append_nil]
    rfl
  | (z, t) :: more, es, nd => by
    have nz : z ∉ es.map (·.1) := fun hm => by
      rw [List.map_append, List.nodup_append] at nd
      exact nd.2.2 z hm z List.mem_cons_self rfl
    have e : mergeK (kvsOf es) (kvsOf ((z, t) :: more)) = mergeK (putK (kvsOf es) (Sum.inr z) (.ref t)) (kvsOf more) := rfl
    rw [e, put_kvs, putE_new nz, merge_es more (es ++ [(z, t)]) (by rw [List.append_assoc]; exact nd), List.append_assoc]
    rfl
theorem merge_nil {es : List (Str × Addr)} (nd : (es.map (·.1)).Nodup) : mergeK [] (kvsOf es) = kvsOf es := merge_es es [] nd
theorem paired_mono {α β : Type} {F G : α → β → Prop} (h : ∀ a b, F a b → G a b) : ∀ {l : List α} {k : List β}, Paired F l k → Paired G l k
  | _, _, .nil => .nil
  | _, _, .cons a t => .cons (h _ _ a) (paired_mono h t)
def rDictP (K : PySem.W.Frag) : List V → Hp → VK → Prop := fun xs H Q => ∃ (a : Addr) (ps : List Addr) (kvs : List (Key × V)), xs = [.ref a] ∧ SqL K H a (ps.map V.ref) ∧ Paired (fun p kv => SqT K H p [kV kv.1, kv.2]) ps kvs ∧ ∀ p, H p = none → Q (.ref p) (upd H p (.dK (mergeK [] kvs)))
theorem cr_dictP {X : Cx} (hc : X.calm = true) : CallR X (.type "dict") (rDictP X.K) := call_dictP hc
def spTurned : Sp := fun vs H Q _ => ∃ (a L : Addr) (ds : List Addr) (rows : List Rw), vs = [.ref a, .ref L] ∧ Rng H a ∧ H L = some (.lst (ds.map V.ref)) ∧ L ≠ a ∧ RowsAt H ds rows ∧ rows.length ≤ 12 ∧ (∀ r ∈ rows, (r.map (·.1)).Nodup ∧ r.length ≤ 60) ∧
  ∀ (H' : Hp) (D : Addr) (ds' : List Addr) (rows' : List Rw), Rng H' a → Keep a H H' → H D = none → H' D = some (.lst (ds'.map V.ref)) → RowsAt H' ds' rows' → Perms rows rows' → ds'.Nodup → (∀ d ∈ ds', H d = none) → Q (.ref D) H'
section
variable {P : Program} {w : World} {K : PySem.W.Frag} {mg : Str → Option Value} {base : Heap}
theorem scTurned : FnScope ["_law_rng_here", "_law_rows", "_law_line"] ["_law_rng_here", "_law_rows"] (defScope sTurned) := ⟨rfl, rfl, rfl, by decide +kernel, rfl, by decide +kernel, by decide +kernel⟩
theorem ok_turned {f fM : Addr} {fd fdM : FuncData} (F : Fun K "_law_turned" "_law_turned" sTurned f fd) (aM : At K mg "_law_mixed" fM fdM ["_law_rng_here", "_law_some"] []) (gM : FnOk P w K mg base CX0 2 fM fdM ["_law_rng_here", "_law_some"] spMixed) (zl : mg "list" = none) (zd : mg "dict" = none) :
    FnOk P w K mg base CX0 3 f fd ["_law_rng_here", "_law_rows"] spTurned := by
  refine F.ok scTurned (fun vs H Q E h => ?_) (fun cdv A0 outer s H vs Q E hr h => ?_)
  · obtain ⟨a, L, ds, rows, rfl, _⟩ := h
    rfl
  · obtain ⟨a, L, ds, rows, rfl, hR, hL, nLa, hw, l12, okr, k⟩ := h
    refine ⟨_, pss_one (ps_ret (pe_lc (own := [("_law_line", 2)]) (g := gName 2) (tt := tYes) rfl scTurned.nd (pi_list (pv 1)) (blkOk_by (N := ["_law_rng_here", "_law_rows", "_law_line"]) (sc := defScope sTurned) (by decide +kernel))
          (fun _ _ _ _ _ => pg_name (i := 2) scTurned.nd rfl (Or.inl rfl)) (fun _ _ _ _ _ => pts_nil)
          (fun _ _ _ _ _ => pe_callTy (T := "dict") (r := rDictP K) (cr_dictP rfl) (by rfl) zd (by decide +kernel) (pa_cons (pe_call gM hr (by rfl) aM.g aM.kp aM.b .nil pass0 (pa_cons (pv 0) (pa_cons (LiI.pe_listItems rfl (pv 2) (by rfl) zl (by decide +kernel)) pa_nil))) pa_nil)))), ?_⟩
    refine ⟨_, rfl, L, rfl, ⟨_, SqL.of hL⟩, fun D nD => ?_⟩
    have nDa : D ≠ a := hR.new nD
    refine lc_it (walk_list (xs := ds.map V.ref)) (fun i H' => Keep a H H' ∧ Rng H' a ∧ ∃ ds' rows', H' D = some (.lst (ds'.map V.ref)) ∧ RowsAt H' ds' rows' ∧ Perms (rows.take i) rows' ∧ ds'.Nodup ∧ (∀ d ∈ ds', H d = none))
      ⟨Keep.of (Ext.new nD), hR.ext (Ext.new nD), [], [], upd_same, .nil, .nil, List.nodup_nil, fun d h => nomatch h⟩ (fun i H' _ h => SqL.of (h.1 _ _ hL nLa)) ?_ ?_
    · rintro i x H1' H1 hi ⟨k1, r1, ds', rows', l1, w1, p1, nd1, f1⟩ ⟨rfl, hx⟩
      obtain ⟨d, hd, rfl⟩ := at_map hx
      obtain ⟨r, hri, es, he1, he2⟩ := hw.at_ hd
      have hil : i < rows.length := (List.getElem?_eq_some_iff.mp hri).1
      obtain ⟨ndr, lr⟩ := okr r (List.mem_of_getElem? hri)
      have nda : d ≠ a := fun e => hR.nodict _ (by rw [← e]; exact he1)
      have he1' := k1 _ _ he1 nda
      refine ⟨rfl, _, rfl, _, rfl, d, _, rfl, he1', fun H2 p ts x2 np nts npt hp hts => ?_⟩
      have r2 := r1.ext x2
      have lts : ts.length = es.length := by
        have q := Paired.length hts
        unfold kvsOf at q
        rw [List.length_map] at q
        exact q
      have les : es.length = r.length := he2.len
      refine ⟨a, p, _, rfl, r2, hp, r1.new np, by rw [List.length_map]; omega, fun H3 L3 ys r3 k3 nL3 hL3 pm => ?_⟩
      obtain ⟨ps, pps, rfl⟩ := perm_map pm
      have hts2 : Paired (fun (t : Addr) (q : Str × Addr) => H2 t = some (.tup [.str q.1, .ref q.2])) ts es := by
        have gen : ∀ {ts : List Addr} {es : List (Str × Addr)}, Paired (fun (t : Addr) (q : Key × V) => H2 t = some (.tup [kV q.1, q.2])) ts (kvsOf es) → Paired (fun (t : Addr) (q : Str × Addr) => H2 t = some (.tup [.str q.1, .ref q.2])) ts es := by
          intro ts es
          induction es generalizing ts with
          | nil => intro h; cases h; exact .nil
          | cons e es ih =>
            intro h
            cases h with
            | cons a t => exact .cons a (ih t)
        exact gen hts
      obtain ⟨es', hes', pes⟩ := paired_perm pps hts2
      have ndes : (es'.map (·.1)).Nodup := by
        refine ((pes.map (·.1)).nodup_iff).mpr ?_
        rw [he2.keys]
        exact ndr
      have k13 : Keep a H1 H3 := (Keep.of x2).trans k3
      refine ⟨L3, ps, kvsOf es', rfl, SqL.of hL3, ?_, fun p4 np4 => ?_⟩
      · have gen : ∀ {ts : List Addr} {es : List (Str × Addr)}, Paired (fun (t : Addr) (q : Str × Addr) => H2 t = some (.tup [.str q.1, .ref q.2])) ts es → Paired (fun p kv => SqT K H3 p [kV kv.1, kv.2]) ts (kvsOf es) := by
          intro ts es h
          induction h with
          | nil => exact .nil
          | cons a t ih => exact .cons (SqT.of (k3 _ _ a fun e => r2.notup _ (by rw [← e]; exact a))) ih
        exact gen hes'
      rw [merge_nil ndes]
      have en1 : Ents H1 es r := he2.ext fun t xs e => k1 _ _ e fun q => hR.notup _ (by rw [← q]; exact e)
      obtain ⟨r', en2, pr⟩ := en1.perm pes
      have en3 : Ents H3 es' r' := en2.ext fun t xs e => k13 _ _ e fun q => r1.notup _ (by rw [← q]; exact e)
      have l3 := k13 _ _ l1 nDa
      have x4 : Ext H3 (upd H3 p4 (.dK (kvsOf es'))) := Ext.new np4
      have l4 := x4 _ _ l3
      have r4 := r3.ext x4
      have w3 := (w1.keepN k13 r1.notup fun hm => by
        obtain ⟨kvs, e⟩ := w1.mem hm
        exact r1.nodict _ e).ext x4
      have d4 : (upd H3 p4 (.dK (kvsOf es'))) p4 = some (.dK (kvsOf es')) := upd_same
      have en4 : Ents (upd H3 p4 (.dK (kvsOf es'))) es' r' := en3.ext fun t xs e => x4 _ _ e
      have np1 : H1 p4 = none := k13.free r3.there.choose_spec np4
      have npH : H p4 = none := k1.free r1.there.choose_spec np1
      have ld : ds'.length = i := by
        rw [w1.len, ← p1.len, List.length_take]
        omega
      generalize upd H3 p4 (.dK (kvsOf es')) = H4 at x4 l4 r4 w3 d4 en4 ⊢
      have npD : p4 ≠ D := ne_of d4 l4 (by intro q; cases q)
      refine ⟨_, l4, by rw [List.length_map]; exact small_list (by omega), fun b o e nb => ?_, ?_, ds' ++ [p4], rows' ++ [r'], by rw [upd_same, List.map_append]; rfl, ?_, ?_, ?_, ?_⟩
      · rw [upd_ne (ne_of_none e nD)]
        exact x4 _ _ (k13 _ _ (k1 _ _ e nb) nb)
      · exact r4.upd nDa
      · refine RowsAt.snoc ?_ ?_
        · refine ⟨es', by rw [upd_ne npD]; exact d4, en4.ext fun t xs e => ?_⟩
          rw [upd_ne (ne_of e l4 (by intro q; cases q))]
          exact e
        · refine w3.keepN Keep.at_ (fun xs e => by rw [l4] at e; cases e) fun hm => ?_
          obtain ⟨kvs, e⟩ := w3.mem hm
          rw [l4] at e
          cases e
      · rw [take_more hri]
        exact p1.snoc pr.symm
      · refine List.nodup_append.mpr ⟨nd1, by simp, fun q1 hq1 q2 hq2 e => ?_⟩
        obtain ⟨kvs, e'⟩ := w1.mem hq1
        rw [e, List.mem_singleton.mp hq2, np1] at e'
        cases e'
      · intro d' hd'
        rcases List.mem_append.mp hd' with c | c
        · exact f1 d' c
        · rw [List.mem_singleton.mp c]
          exact npH
    · rintro H' ⟨k1, r1, ds', rows', l1, w1, p1, nd1, f1⟩
      rw [List.length_map, hw.len, List.take_length] at p1
      exact k H' D ds' rows' r1 k1 nD l1 w1 p1 nd1 f1
end
end Sl
/-! ## Y5 -/
set_option Elab.async false
set_option linter.all false
set_option maxRecDepth 100000
set_option maxHeartbeats 4000000
namespace Sl
open PySem PySem.Spec PyProof.Rows L2
/-! a drawn model is one that the program takes -/
theorem letter_sign {z : Str} (h : z ∈ abcL) : signS z = true ∧ z.length = 1 := by
  obtain ⟨h1, h2⟩ := abc_word h
  refine ⟨?_, h2⟩
  unfold signS
  rw [h1, decide_eq_true h2]
  rfl
theorem sign_name {z : Str} (h : signS z = true) : nameS z = true ∧ z.length ≤ 8 := by
  unfold signS at h
  obtain ⟨h1, h2⟩ := Bool.and_eq_true_iff.mp h
  have h2 := of_decide_eq_true h2
  refine ⟨?_, by omega⟩
  unfold nameS
  rw [h1, decide_eq_true (by omega), decide_eq_true (by omega)]
  rfl
theorem mark_name {z : Str} (h : markS z = true) : nameS z = true := (Bool.and_eq_true_iff.mp h).1
theorem names_few {tells marks : List Str} (ht : ∀ z ∈ tells, z ∈ abcL) (hm : ∀ z ∈ marks, markS z = true ∧ z.length ≤ 8) (lt : tells.length ≤ 4) (lm : marks.length ≤ 6) :
    ((tells ++ marks).filter signS).length ≤ 4 ∧ ((tells ++ marks).filter markS).length ≤ 6 := by
  have no1 : marks.filter signS = [] := List.filter_eq_nil_iff.mpr fun z hz q => by
    have h1 := (Bool.and_eq_true_iff.mp (hm z hz).1).2
    have h2 := (Bool.and_eq_true_iff.mp q).2
    have h1 := of_decide_eq_true h1
    have h2 := of_decide_eq_true h2
    omega
  have no2 : tells.filter markS = [] := List.filter_eq_nil_iff.mpr fun z hz q => by
    have h1 := of_decide_eq_true (Bool.and_eq_true_iff.mp q).2
    have h2 := (letter_sign (ht z hz)).2
    omega
  rw [List.filter_append, List.filter_append, no1, no2, List.append_nil, List.nil_append]
  exact ⟨Nat.le_trans (List.length_filter_le _ _) lt, Nat.le_trans (List.length_filter_le _ _) lm⟩
theorem keys_in {cap : Nat} {paper names : List Str} {rows : List Rw} {ns : List Int} {b : Int} (m : okModel cap paper names rows ns b) : ∀ z ∈ keysOf rows, z ∈ paper := fun z hz => by
  unfold keysOf at hz
  simp only [List.mem_flatMap, List.mem_map] at hz
  obtain ⟨r, hr, e, he, rfl⟩ := hz
  exact ((m.rw_ r hr).2 e he).1
theorem tolds_in {cap : Nat} {paper names : List Str} {rows : List Rw} {ns : List Int} {b : Int} (m : okModel cap paper names rows ns b) : ∀ z ∈ toldsOf rows, z ∈ names := fun z hz => by
  unfold toldsOf at hz
  simp only [List.mem_flatMap, List.mem_filterMap] at hz
  obtain ⟨r, hr, e, he, q⟩ := hz
  exact ((m.rw_ r hr).2 e he).2.2 z q
end Sl
/-! ## C17 -/
set_option Elab.async false
set_option linter.all false
set_option maxRecDepth 100000
set_option maxHeartbeats 4000000
/-! sorted(set(list of texts)); the things that the law's model tells -/
namespace Sl
open PySem PySem.Spec PyProof.Rows L2 TxS
/-- set(list of texts) -/
def rSetTx (P : Program) (w : World) : List V → Hp → VK → Prop := fun vs H Q => ∃ (l : Addr) (xs : List Str), vs = [V.ref l] ∧ H l = some (.lst (xs.map V.str)) ∧ xs.length + 1 < scanBound ∧
  ∀ p, H p = none → Q (.ref p) (upd H p (SetSO P w p (addAll [] xs)))
theorem cr_setTx {X : Cx} (hc : X.calm = true) : CallR X (.type "set") (rSetTx X.prog X.w) := by
  intro pins s σ H vs us Q I r h
  obtain ⟨l, xs, rfl, hl, room, q⟩ := h
  rw [Vals.ref1 r]
  obtain ⟨its, rv, pl, hz⟩ := I.list (SqL.of (K := X.K) hl)
  refine call_set_listTx (I.ok.hd hc) pl.isList (by simpa using strsAre_of rv) room fun h' tk got old => ?_
  have nS : H s.heap.objs.size = none := I.hok.fresh (Nat.le_refl _)
  exact ⟨.ref _, _, I.laid (a := s.heap.objs.size) (t' := tk) old (Nat.le_refl _) (setSO_new got), rfl, q _ nS⟩
theorem told_len {rows : List Rw} : ∀ {n : Nat}, rows.length ≤ n → (∀ r ∈ rows, r.length < 64) → (toldsOf rows).length ≤ 64 * n := by
  induction rows with
  | nil => intro n _ _; exact Nat.zero_le _
  | cons r rows ih =>
    intro n hn h
    cases n with
    | zero => simp at hn
    | succ n =>
      have a := ih (n := n) (by rw [List.length_cons] at hn; omega) fun r' hr => h r' (List.mem_cons_of_mem _ hr)
      have b : (r.filterMap fun e => e.2.2).length ≤ r.length := List.length_filterMap_le ..
      have c := h r List.mem_cons_self
      unfold toldsOf at a ⊢
      rw [List.flatMap_cons, List.length_append]
      omega
end Sl
/-! ## C18 -/
set_option Elab.async false
set_option linter.all false
set_option maxRecDepth 100000
set_option maxHeartbeats 4000000
/-! a class method called with names too; a class in a slot, called with names too -/
namespace Sl
open PySem PySem.Spec PyProof.Rows L2
/-- the promise of a class method's def: the class at C, further values, and the named ones ks -/
def OfFn (P : Program) (w : World) (K : PySem.W.Frag) (mg : Str → Option Value) (base : Heap) (k : Nat) (f C : Addr) (ks : List Str) (sp : List V → List V → Hp → VK → Prop) : Prop :=
  ∀ (A : Around) (outer : List Env) (s : Shared) (H : Hp) (us : List Value) (vs : List V) (ws : List Value) (zs : List V) (Q : VK), Room k A → Env0 P w K mg base A outer s H → Vals vs us → Vals zs ws → zs.length = ks.length → sp vs zs H Q →
    codeAny (model P w) A (.call (.ref f) ⟨.ref C :: us, ks.zip ws⟩) (CR CX0 outer P w H s Q (fun _ _ _ => False)) s
section
variable {X : Cx} {k n : Nat} {C p g : Addr} {mc : Value} {x m : Str} {o e : Expr} {es : List Expr} {kws : List Keyword} {ks : List Str} {ta : TE} {t tk : TA} {pl : Sem Bool} {apos pos np : Pos}
def tOfK (C : Addr) (n : Nat) (sp : List V → List V → Hp → VK → Prop) (ta : TE) (t tk : TA) : TE := fun σ H Q => ta σ H fun x H1 => x = .ref C ∧ t σ H1 fun vs H2 => tk σ H2 fun zs H3 => zs.length = n ∧ sp vs zs H3 Q
theorem pe_of {sp : List V → List V → Hp → VK → Prop} (he : PE X o ta) (r : ClX.CRead X.K C mc) (c : ClX.CMet X.K C mc m p g) (F : OfFn X.prog X.w X.K X.mg X.base k g C ks sp) (hr : Room k X.A) (ha : PA X (e :: es) t) (hkw : PK X kws tk)
    (hall : (backToKw pos (keywordEach kws X.env)).all (·.1.isSome) = true := by rfl) (hks : (backToKw pos (keywordEach kws X.env)).filterMap (·.1) = ks := by rfl)
    (hst : starEach (e :: es) X.env = (false, eval e X.env) :: starEach es X.env := by rfl)
    (hpl : ((backTo pos (starEach (e :: es) X.env)).any (·.1) || (backToKw pos (keywordEach kws X.env)).any (·.1.isNone)) = false := by rfl)
    (ht : eval (.Call (.Attribute o m apos) (e :: es) kws pos) X.env = (do
      let ov ← eval o X.env
      standAt apos.atName
      let (f, first) ← holding [ov] (getMethod ov m pl)
      callWith pos f first (backTo pos (starEach (e :: es) X.env)) (backToKw pos (keywordEach kws X.env))) := by rfl) :
    PE X (.Call (.Attribute o m apos) (e :: es) kws pos) (tOfK C ks.length sp ta t tk) := by
  refine ⟨fun pins s σ H Q I h => PySem.W.methodCall_KW (pl := pl) (thn (he.run pins s σ H _ I h) fun u s1 ⟨x, H1, I1, rx, ex, q⟩ => ?_) ht⟩
  subst ex
  obtain rfl : u = Value.ref C := rx
  refine ClX.getmethcm_ok I1 r c fun s2 I2 => PySem.W.callWith_of hpl (PySem.W.keeps_M (q := s1.heap.objs.size) (self := .ref C) c.fi) (evalArgs_kw2 hall ?_ hst)
  refine thn (ha.run pos _ s2 σ H1 _ I2 q) fun us s3 ⟨vs, H2, I3, rv, q2⟩ => ?_
  refine thn (hkw.run pos _ s3 σ H2 _ I3 q2) fun ws s4 ⟨zs, H3, I4, rz, l4, q4⟩ => ⟨⟨ClX.pin_at I4, I4.kIn⟩, ?_⟩
  rw [hks]
  have z : wpAny (model X.prog X.w) X.A (call (.ref s1.heap.objs.size) us (ks.zip ws)) (EP X ((s1.heap.objs.size, PySem.W.methodObj (.ref g) (.ref C)) :: pins) σ Q) X.xe s4 := by
    refine wpAny_call (PySem.W.method_call (ClX.pin_at I4) (codeAny_mono (F X.A X.stack s4 H3 us vs ws zs Q hr I4.env0 rv rz l4 q4) fun r s' hq => ?_))
    cases r with
    | error e => exact hq.elim
    | ok fl =>
      cases fl with
      | ret u => exact I4.after hq
      | next => exact hq.elim
      | brk => exact hq.elim
      | cont => exact hq.elim
  exact thn z fun _ _ y => ClX.unpinE y
def tMakeKL (i : Nat) (C : Addr) (n m : Nat) (sp : Sp) (gV : List V → List V → List V) (E : XK) (t tk : TA) : TE := fun σ H Q => σ[i]? = some (some (.ref C)) ∧ tMakeK C n m sp gV E t tk σ H Q
theorem pe_makeKL {CX : CXT} {i : Nat} {f : Addr} {fd : FuncData} {ps : List Str} {sp : Sp} {E : XK} {ga : List Value → List Value → List Value} {gV : List V → List V → List V} (M : Mk X.K C f) (F : FnOk X.prog X.w X.K X.mg X.base CX k f fd ps sp) (hr : Room (k + 1) X.A)
    (hN : X.N[i]? = some x) (hv : Vis X.env.scope x) (hb : KBn X.K fd ps (n + 1) ks ga gV) (hx : Passes CX X E) (ha : PA X (e :: es) t) (hkw : PK X kws tk)
    (hall : (backToKw pos (keywordEach kws X.env)).all (·.1.isSome) = true := by rfl) (hks : (backToKw pos (keywordEach kws X.env)).filterMap (·.1) = ks := by rfl) (hdb : (x == ("__debug__" : Str)) = false := by decide) (hcd : (x == ("__classdict__" : Str)) = false := by decide)
    (hst : starEach (e :: es) X.env = (false, eval e X.env) :: starEach es X.env := by rfl) (hpl : ((backTo pos (starEach (e :: es) X.env)).any (·.1) || (backToKw pos (keywordEach kws X.env)).any (·.1.isNone)) = false := by rfl) :
    PE X (.Call (.Name x np) (e :: es) kws pos) (tMakeKL i C n ks.length sp gV E t tk) := by
  refine ⟨fun pins s σ H Q I h => ?_⟩
  obtain ⟨hs, h⟩ := h
  refine wpAny_Call_Name_kw (thn ((pe_var (pos := np) hN hv hdb hcd).run pins s σ H (fun v H1 => v = .ref C ∧ H1 = H) I ⟨.ref C, hs, rfl, rfl⟩) fun u s1 ⟨v, H1, I1, r1, q1⟩ => ?_)
  obtain ⟨rfl, rfl⟩ := q1
  cases r1
  refine PySem.W.callWith_KW (h₀ := X.base) I.ok.mod.kin M.kp hall (thn (ha.run pos pins s1 σ _ _ I1 h) fun us s1 ⟨vs, H1, I1, r, q⟩ => ?_) hpl hst
  refine thn (hkw.run pos pins s1 σ H1 _ I1 q) fun ws s2 ⟨zs, H2, I2, rz, l1, l2, q2⟩ => ⟨I2.kIn, ?_⟩
  rw [hks]
  exact run_makeK M F hr hb hx I2 r rz l1 l2 q2
end
end Sl
/-! ## C19 -/
set_option Elab.async false
set_option linter.all false
set_option maxRecDepth 100000
set_option maxHeartbeats 4000000
/-! Reader.of -/
namespace Sl
open PySem PySem.Spec PyProof.Rows L2
abbrev sOf : Stmt := inClass (top 22) 4
/-- looks into the dict at D, one behind another, and then a new tuple of what is left over -/
def KwStar {α : Type} (D : Addr) (rest : List Value) (F : Value → α) : List (Str × Value) → Sem α → Prop
  | [], t => t = (newTuple rest >>= fun v => pure (F v))
  | q :: l, t => ∃ (β γ : Type) (k1 : Option Value → Sem β) (k2 : β → Sem γ) (k3 : γ → Sem α) (a : β), t = ((nsGet D q.1 >>= k1) >>= k2) >>= k3 ∧ k1 (some q.2) = pure a ∧ KwStar D rest F l (k2 a >>= k3)
theorem KwStar.wp {α : Type} {P : Program} {w : World} {A : Around} {E : Value → Shared → Prop} {K : PySem.W.Frag} {s : Shared} {D : Addr} {rest : List Value} {F : Value → α} {Q : α → Shared → Prop} (X : K.In s.heap) (room : rest.length ≤ sizeLine)
    (q : Q (F (.ref s.heap.objs.size)) { s with heap := s.heap.push { cls := .type "tuple", data := .seq rest.toArray } }) :
    ∀ {l : List (Str × Value)} {t : Sem α}, (∀ q ∈ l, PySem.W.nsIn K D q.1 = some (some q.2)) → KwStar D rest F l t → wpAny (model P w) A t Q E s
  | [], t, _, e => by
    rw [show t = (newTuple rest >>= fun v => pure (F v)) from e]
    exact wpAny_bind (wpAny_newTuple (wpAny_pure q) room)
  | y :: l, t, hl, e => by
    obtain ⟨β, γ, k1, k2, k3, a, e1, e2, e3⟩ := e
    have l1 : PySem.W.Looks (model P w) s.heap (nsGet D y.1 >>= k1) a := (PySem.W.looks_nsIn X (hl y (List.mem_cons_self ..))).andThen (PySem.W.Looks.of_pure e2)
    rw [e1, bind_assoc]
    exact wpAny_bind (l1.here (KwStar.wp X room q (fun p hp => hl p (List.mem_cons_of_mem _ hp)) e3))
def psOf : List Str := ["cls", "ends", "start", "states"]
section
variable {doc pm cdv ct kV : Value} {an : Option Addr} {D : Addr}
abbrev fdOf (kV doc pm : Value) (an : Option Addr) (cdv ct : Value) : FuncData := PySem.W.fnOf "of" "Reader.of" (defArgs sOf) (defBody sOf) (defScope sOf) .none kV doc pm an cdv ct
theorem bind_ofK (c e b : Value) : ∀ rest : List Value, bindArgs (fdOf kV doc pm an cdv ct) ⟨c :: rest, [("ends", e), ("start", b)]⟩ = (newTuple rest >>= fun t => pure (psOf.zip [c, e, b, t]))
  | [] => rfl
  | _ :: _ => rfl
theorem bind_of0 (c e b : Value) : ∀ rest : List Value, KwStar D rest (fun t => psOf.zip [c, e, b, t]) [("ends", e), ("start", b)] (bindArgs (fdOf (.ref D) doc pm an cdv ct) ⟨c :: rest, []⟩)
  | [] => ⟨_, _, _, _, _, _, rfl, rfl, _, _, _, _, _, _, rfl, rfl, rfl⟩
  | _ :: _ => ⟨_, _, _, _, _, _, rfl, rfl, _, _, _, _, _, _, rfl, rfl, rfl⟩
end
theorem scOf : FnScope ["cls", "ends", "start", "states"] ["cls", "ends", "start", "states"] (defScope sOf) := ⟨rfl, rfl, rfl, by decide +kernel, rfl, by decide +kernel, by decide +kernel⟩
end Sl
/-! ## C20 -/
set_option Elab.async false
set_option linter.all false
set_option maxRecDepth 100000
set_option maxHeartbeats 4000000
/-! Reader.of: what it promises -/
namespace Sl
open PySem PySem.Spec PyProof.Rows L2 TxS
/-- right arguments of a reader, but for the list or tuple of its states -/
structure MkA (K : PySem.W.Frag) (H : Hp) (ke : Bool) (En : Addr) (ds : List Addr) (rows : List Rw) (ns : List Int) (b : Int) : Prop where
  hr : RowsAt H ds rows
  l1 : 1 ≤ rows.length
  l12 : rows.length ≤ 12
  ok : ∀ r ∈ rows, okRow rows.length r ∧ (r.map (·.1)).Nodup ∧ r.length < 64
  hE : SqK K ke H En (ns.map V.int)
  nl : ns.length < 64
  nnd : ns.Nodup
  nin : ∀ i ∈ ns, 0 ≤ i ∧ i < rows.length
  b0 : 0 ≤ b
  bn : b < rows.length
  AB : ∃ A B : List Str, (∀ z ∈ keysOf rows, z ∈ A) ∧ A.length ≤ 6 ∧ (∀ z ∈ toldsOf rows, z ∈ B) ∧ B.length < 64 ∧ (B.filter signS).length ≤ 4 ∧ (B.filter markS).length ≤ 6
theorem MkA.ext {K : PySem.W.Frag} {H H' : Hp} {ke : Bool} {En : Addr} {ds : List Addr} {rows : List Rw} {ns : List Int} {b : Int} (m : MkA K H ke En ds rows ns b) (x : Ext H H') : MkA K H' ke En ds rows ns b :=
  ⟨m.hr.ext x, m.l1, m.l12, m.ok, m.hE.ext x, m.nl, m.nnd, m.nin, m.b0, m.bn, m.AB⟩
theorem NewR.ext {C x : Addr} {H H1 H' : Hp} (n : NewR C H1 H' x) (e : Ext H H1) : NewR C H H' x := by
  obtain ⟨dx, fs, L, ds, Te, M, a1, a2, a3, a4, a5, a6, a7, a8, a9⟩ := n
  exact ⟨dx, fs, L, ds, Te, M, a1, a2, a3, a4, a5, e.free a6, e.free a7, e.free a8, fun d hd => e.free (a9 d hd)⟩
/-- what comes of a reader made of them -/
def Out (C : Addr) (H : Hp) (rows : List Rw) (ns : List Int) (b : Int) (Q : VK) : Prop := ∀ (H' : Hp) (x : Addr) (rows' : List Rw) (ns' : List Int) (ys ts : List Str), Ext H H' → H x = none → Ascs rows rows' → ns'.Perm ns → ns'.Pairwise (· ≤ ·) →
  Gath ys (keysOf rows) → sortedS ys = true → Gath ts (toldsOf rows) → sortedS ts = true → ReaderX C H' x rows' ns' b ys ts → NewR C H H' x → Q (.ref x) H'
theorem Out.ext {C : Addr} {H H1 : Hp} {rows : List Rw} {ns : List Int} {b : Int} {Q : VK} (o : Out C H rows ns b Q) (x : Ext H H1) : Out C H1 rows ns b Q := fun H' p rows' ns' ys ts y n a1 a2 a3 a4 a5 a6 a7 a8 a9 => o H' p rows' ns' ys ts (x.trans y) (x.free n) a1 a2 a3 a4 a5 a6 a7 a8 (a9.ext x)
/-- __init__ of right arguments -/
theorem made_init {K : PySem.W.Frag} {C S En : Addr} {H : Hp} {ks ke : Bool} {ds : List Addr} {rows : List Rw} {ns : List Int} {b : Int} {Q : VK} {E : XK} (m : MkA K H ke En ds rows ns b) (hS : SqK K ks H S (ds.map V.ref)) (o : Out C H rows ns b Q) :
    ∀ x dx, H x = none → H dx = none → dx ≠ x → spInit K C [.ref x, .ref S, .ref En, .int b] (upd (upd H dx (.own x)) x (.ins C dx [])) (fun v H3 => v = .non ∧ Q (.ref x) H3) E := by
  intro x dx nx ndx ne
  have e1 : Ext H (upd (upd H dx (.own x)) x (.ins C dx [])) := (Ext.new ndx).trans (Ext.new (by rw [upd_ne (Ne.symm ne)]; exact nx))
  have i1 : (upd (upd H dx (.own x)) x (.ins C dx [])) x = some (.ins C dx []) := upd_same
  generalize upd (upd H dx (.own x)) x (.ins C dx []) = H1 at e1 i1 ⊢
  obtain ⟨A, B, a1, a2, a3, a4, a5, a6⟩ := m.AB
  refine ⟨ks, ke, x, dx, S, En, ds, rows, ns, b, A, B, rfl, i1, hS.ext e1, m.hr.ext e1, m.l1, m.l12, m.ok, m.hE.ext e1, m.nl, m.nnd, m.nin, m.b0, m.bn, a1, a2, a3, a4, a5, a6, fun H' rows' ns' ys ts k p1 p2 p3 p4 p5 p6 p7 p8 p9 => ⟨rfl, ?_⟩⟩
  exact o H' x rows' ns' ys ts (fun b' o' e => k _ _ (e1 _ _ e) (ne_of_none e nx)) nx p1 p2 p3 p4 p5 p6 p7 p8 (p9.ext e1)
def spOf (K : PySem.W.Frag) (C : Addr) (vs zs : List V) (H : Hp) (Q : VK) : Prop := ∃ (ke : Bool) (En : Addr) (ds : List Addr) (rows : List Rw) (ns : List Int) (b : Int), vs = ds.map V.ref ∧ zs = [.ref En, .int b] ∧ MkA K H ke En ds rows ns b ∧ Out C H rows ns b Q
section
variable {P : Program} {w : World} {K : PySem.W.Frag} {mg : Str → Option Value} {base : Heap}
/-- the body, behind the binding -/
theorem body_of {cdv : Value} {A : Around} {outer : List Env} {s : Shared} {H : Hp} {Q : VK} {C fI f p : Addr} {fdI : FuncData} {g : List Value → List Value → List Value} (M : Mk K C fI)
    (kI : KBn K fdI ["self", "states", "ends", "start"] 3 ["start"] g (fun vs zs => vs ++ zs)) (gI : FnOk P w K mg base CX0 5 fI fdI ["self", "states", "ends", "start"] (spInit K C))
    (hr : Room 6 (A.deeper (envOfC "Reader.of" (defScope sOf) s.heap.objs.size f cdv))) {ke : Bool} {En : Addr} {ds : List Addr} {rows : List Rw} {ns : List Int} {b : Int} (m : MkA K H ke En ds rows ns b) (hp : H p = some (.tup (ds.map V.ref))) (o : Out C H rows ns b Q) :
    ∃ t, PSs (cxOf CX0 P w K mg base ["cls", "ends", "start", "states"] "Reader.of" (defScope sOf) f cdv A outer s H (fun _ _ _ => False)) (defBody sOf) t ∧ t { nx := fun _ H' => Q .non H', rt := Q } (start ["cls", "ends", "start", "states"] [.ref C, .ref En, .int b, .ref p]) H := by
  refine ⟨_, PSs.nox (pss_one (ps_ret (pe_makeKL (i := 0) (E := fun _ _ _ => False) M gI hr rfl (.inl rfl) kI (fun _ _ _ _ _ _ _ z => z.elim) (pa_cons (pv 3) (pa_cons (pv 1) pa_nil)) (pk_cons (pv 2) pk_nil)))), ?_⟩
  exact ⟨rfl, _, rfl, _, rfl, _, rfl, rfl, rfl, made_init m (SqK.t hp) o⟩
/-- the promise, once the arguments are bound -/
theorem run_of {A : Around} {outer : List Env} {s : Shared} {H : Hp} {Q : VK} {C fI f : Addr} {fdI : FuncData} {g : List Value → List Value → List Value} {oc kV doc pm cdv ct : Value} {od an : Option Addr} {osl : Array (Option Value)} {us : List Value} {ev bv : Value} {args : Args}
    (lk : K.lookup f = some ⟨oc, od, .func (fdOf kV doc pm an cdv ct), osl⟩) (hcd : PySem.W.codeIn K cdv "Reader.of" = true) (M : Mk K C fI)
    (kI : KBn K fdI ["self", "states", "ends", "start"] 3 ["start"] g (fun vs zs => vs ++ zs)) (gI : FnOk P w K mg base CX0 5 fI fdI ["self", "states", "ends", "start"] (spInit K C))
    (hr : Room 7 A) (e0 : Env0 P w K mg base A outer s H) {ke : Bool} {En : Addr} {ds : List Addr} {rows : List Rw} {ns : List Int} {b : Int} (rv : Vals (ds.map V.ref) us) (re : RelV (V.ref En) ev) (rb : RelV (V.int b) bv)
    (hb : ∀ (A' : Around) (Ex : Value → Shared → Prop) (Q' : List (Str × Value) → Shared → Prop), us.length ≤ sizeLine → Q' (psOf.zip [.ref C, ev, bv, .ref s.heap.objs.size]) { s with heap := s.heap.push { cls := .type "tuple", data := .seq us.toArray } } → wpAny (model P w) A' (bindArgs (fdOf kV doc pm an cdv ct) args) Q' Ex s)
    (m : MkA K H ke En ds rows ns b) (o : Out C H rows ns b Q) : codeAny (model P w) A (.call (.ref f) args) (CR CX0 outer P w H s Q (fun _ _ _ => False)) s := by
  have hn : H s.heap.objs.size = Option.none := e0.hok.fresh (Nat.le_refl _)
  have lu : (ds.map V.ref).length ≤ sizeLine := by
    rw [List.length_map, m.hr.len]
    have := m.l12
    exact Nat.le_of_lt (small_list (by omega))
  have lus : us.length ≤ sizeLine := by
    rw [← rv.length]
    exact lu
  refine StX.run_bnd lk hcd scOf hr e0 (G := fun xs H2 => ∃ p, H p = none ∧ xs = [.ref C, .ref En, .int b, .ref p] ∧ H2 = upd H p (.tup (ds.map V.ref))) (fun A' Ex Q' h => ?_) fun s2 H2 xs ⟨p, hp, ex, eH⟩ hr' => ?_
  · refine hb _ _ _ lus ?_
    have new : ObjOk P w (upd H s.heap.objs.size (.tup (ds.map V.ref))) (s.heap.push ({ cls := .type "tuple", data := .seq us.toArray } : Obj)) s.heap.objs.size (.tup (ds.map V.ref)) := ⟨lu, us, rv, ⟨_, Heap.get?_push_size _ rfl, rfl, _, rfl⟩⟩
    exact h _ _ [.ref C, .ref En, .int b, .ref s.heap.objs.size] [.ref C, ev, bv, .ref s.heap.objs.size] (StX.env0_laid e0 new) (StX.un_laid hn) rfl (fun e s' z => z) (.cons rfl (.cons re (.cons rb (.cons rfl .nil)))) rfl ⟨_, hn, rfl, rfl⟩
  · subst ex eH
    exact body_of M kI gI hr' (m.ext (Ext.new hp)) upd_same (o.ext (Ext.new hp))
theorem ok_ofK {C fI f T0 : Addr} {fd fdI : FuncData} {g : List Value → List Value → List Value} (F : FunD K "of" "Reader.of" (defArgs sOf) (defBody sOf) (defScope sOf) [] [("ends", .ref T0), ("start", .int 0)] f fd) (M : Mk K C fI)
    (kI : KBn K fdI ["self", "states", "ends", "start"] 3 ["start"] g (fun vs zs => vs ++ zs)) (gI : FnOk P w K mg base CX0 5 fI fdI ["self", "states", "ends", "start"] (spInit K C)) : OfFn P w K mg base 7 f C ["ends", "start"] (spOf K C) := by
  intro A outer s H us vs ws zs Q hr e0 rv rz lz ⟨ke, En, ds, rows, ns, b, ev, ez, m, o⟩
  obtain ⟨oc, od, dV, kV, doc, pm, an, cdv, ct, osl, rfl, lk, hcd, hD, hK⟩ := F.ex
  subst ev ez
  rcases hD with ⟨_, rfl⟩ | ⟨e, _⟩
  · cases rz with
    | cons re rz =>
      cases rz with
      | cons rb rz =>
        cases rz
        refine run_of lk hcd M kI gI hr e0 rv re rb (fun A' Ex Q' lu q => ?_) m o
        show wpAny (model P w) A' (bindArgs _ ⟨_ :: us, [("ends", _), ("start", _)]⟩) Q' Ex s
        rw [bind_ofK]
        exact wpAny_bind (wpAny_newTuple (wpAny_pure q) lu)
  · exact absurd rfl e
theorem ok_of0 {C fI f T0 : Addr} {fd fdI : FuncData} {g : List Value → List Value → List Value} (F : FunD K "of" "Reader.of" (defArgs sOf) (defBody sOf) (defScope sOf) [] [("ends", .ref T0), ("start", .int 0)] f fd) (M : Mk K C fI)
    (kI : KBn K fdI ["self", "states", "ends", "start"] 3 ["start"] g (fun vs zs => vs ++ zs)) (gI : FnOk P w K mg base CX0 5 fI fdI ["self", "states", "ends", "start"] (spInit K C)) : OfFn P w K mg base 7 f C [] (fun vs _ H Q => spOf K C vs [.ref T0, .int 0] H Q) := by
  intro A outer s H us vs ws zs Q hr e0 rv rz lz ⟨ke, En, ds, rows, ns, b, ev, ez, m, o⟩
  obtain ⟨oc, od, dV, kV, doc, pm, an, cdv, ct, osl, rfl, lk, hcd, hD, hK⟩ := F.ex
  subst ev
  injection ez with e1 e2
  cases e1
  injection e2 with e2 _
  cases e2
  rcases hD with ⟨_, rfl⟩ | ⟨e, _⟩
  · rcases hK with e | ⟨D, rfl, hq⟩
    · cases e
    · obtain ⟨u1, n1, r1⟩ := hq ("ends", .ref T0) List.mem_cons_self
      obtain ⟨u2, n2, r2⟩ := hq ("start", .int 0) (List.mem_cons_of_mem _ List.mem_cons_self)
      have KX : K.In s.heap := e0.mod.kin.keeps fun b o e => (e0.bs b o e).1
      refine run_of (args := ⟨.ref C :: us, []⟩) lk hcd M kI gI hr e0 rv r1 r2 (fun A' Ex Q' lu q => ?_) m o
      refine KwStar.wp KX lu q (l := [("ends", u1), ("start", u2)]) (fun p hp => ?_) (bind_of0 _ _ _ us)
      rcases List.mem_cons.mp hp with e | hp
      · rw [e]
        exact n1
      · rw [List.mem_singleton.mp hp]
        exact n2
  · exact absurd rfl e
end
end Sl
/-! ## Y6 -/
set_option Elab.async false
set_option linter.all false
set_option maxRecDepth 100000
set_option maxHeartbeats 4000000
/-! the readers that the law makes of its models -/
namespace Sl
open PySem PySem.Spec PyProof.Rows L2 TxS
theorem ModelAt.ext {H H' : Hp} {M L E : Addr} {ds : List Addr} {rows : List Rw} {ns : List Int} {b : Int} (m : ModelAt H M L E ds rows ns b) (x : Ext H H') : ModelAt H' M L E ds rows ns b := ⟨x _ _ m.h1, x _ _ m.h2, m.h3.ext x, m.h4, x _ _ m.h5⟩
theorem RowsAt.keepW {H H' : Hp} {W : Addr → Prop} (k : ∀ b o, H b = some o → ¬ W b → H' b = some o) (wt : ∀ b xs, W b → H b ≠ some (.tup xs)) : ∀ {ds : List Addr} {rows : List Rw}, (∀ d ∈ ds, ¬ W d) → RowsAt H ds rows → RowsAt H' ds rows
  | _, _, _, .nil => .nil
  | _, _, n, .cons ⟨es, e, b⟩ h => .cons ⟨es, k _ _ e (n _ List.mem_cons_self), b.ext fun t xs e => k _ _ e fun w => wt t xs w e⟩ (RowsAt.keepW k wt (fun d hd => n d (List.mem_cons_of_mem _ hd)) h)
theorem refs_inj : ∀ {a b : List Addr}, a.map V.ref = b.map V.ref → a = b
  | [], [], _ => rfl
  | x :: a, y :: b, h => by
    injection h with h1 h2
    injection h1 with h1
    rw [h1, refs_inj h2]
/-- things that were there before the reader may change -/
theorem ReaderX.keepW {C p : Addr} {H4 H H' : Hp} {rows : List Rw} {ends : List Int} {b : Int} {ys ts : List Str} {W : Addr → Prop} (h : ReaderX C H p rows ends b ys ts) (N : NewR C H4 H p) (np : H4 p = none) (k : ∀ b o, H b = some o → ¬ W b → H' b = some o)
    (wt : ∀ b xs, W b → H b ≠ some (.tup xs)) (wn : ∀ b, W b → H4 b ≠ none) : ReaderX C H' p rows ends b ys ts := by
  obtain ⟨dx, fs, L, ds, Te, M, a1, a2, a3, a4, a5, a6, a7, a8, a9, a10, a11, a12, a13⟩ := h.ex
  obtain ⟨dx2, fs2, L2, ds2, Te2, M2, b1, b2, b3, b4, b5, n1, n2, n3, n4⟩ := N
  rw [a1] at b1
  injection b1 with b1
  injection b1 with _ _ b1
  subst b1
  rw [a2] at b2
  injection b2 with b2
  injection b2 with b2
  subst b2
  rw [a3] at b3
  injection b3 with b3
  injection b3 with b3
  have b3 := refs_inj b3
  subst b3
  rw [a5] at b4
  injection b4 with b4
  injection b4 with b4
  subst b4
  rw [a10] at b5
  injection b5 with b5
  injection b5 with b5
  subst b5
  exact ⟨dx, fs, L, ds, Te, M, k _ _ a1 fun w => wn _ w np, a2, k _ _ a3 fun w => wn _ w n1, a4.keepW k wt fun d hd w => wn _ w (n4 d hd), a5, k _ _ a6 fun w => wn _ w n2, a7, a8, a9, a10, k _ _ a11 fun w => wn _ w n3, a12, a13⟩
def rot (vs zs : List V) : List V := vs ++ (zs.drop 1 ++ zs.take 1)
/-- a model that makes a reader -/
structure Md (rows : List Rw) (ns : List Int) (b : Int) : Prop where
  l1 : 1 ≤ rows.length
  l5 : rows.length ≤ 5
  ok : ∀ r ∈ rows, okRow rows.length r ∧ (r.map (·.1)).Nodup ∧ r.length ≤ 6
  nnd : ns.Nodup
  nl : ns.length ≤ 5
  nin : ∀ i ∈ ns, 0 ≤ i ∧ i < rows.length
  b0 : 0 ≤ b
  bn : b < rows.length
  AB : ∃ A B : List Str, (∀ z ∈ keysOf rows, z ∈ A) ∧ A.length ≤ 6 ∧ (∀ z ∈ toldsOf rows, z ∈ B) ∧ B.length < 64 ∧ (B.filter signS).length ≤ 4 ∧ (B.filter markS).length ≤ 6
theorem perms_ok {G : Rw → Prop} (hG : ∀ r r', r.Perm r' → G r → G r') : ∀ {rows rows' : List Rw}, Perms rows rows' → (∀ r ∈ rows, G r) → ∀ r ∈ rows', G r
  | _, _, .nil, _, _, h => nomatch h
  | _, _, .cons p t, h, r, hr => by
    rcases List.mem_cons.mp hr with e | hr
    · rw [e]
      exact hG _ _ p (h _ List.mem_cons_self)
    · exact perms_ok hG t (fun r hr => h r (List.mem_cons_of_mem _ hr)) r hr
theorem Md.perm {rows rows' : List Rw} {ns ns' : List Int} {b : Int} (m : Md rows ns b) (p : Perms rows rows') (q : ns'.Perm ns) : Md rows' ns' b := by
  have l := p.len
  obtain ⟨A, B, a1, a2, a3, a4⟩ := m.AB
  refine ⟨by rw [← l]; exact m.l1, by rw [← l]; exact m.l5, ?_, q.nodup_iff.mpr m.nnd, by rw [q.length_eq]; exact m.nl, fun i hi => by rw [← l]; exact m.nin i (q.mem_iff.mp hi), m.b0, by rw [← l]; exact m.bn, A, B, fun z hz => a1 z ((p.keys z).mp hz), a2, fun z hz => a3 z ((p.tolds z).mp hz), a4⟩
  rw [← l]
  refine perms_ok (G := fun r => okRow rows.length r ∧ (r.map (·.1)).Nodup ∧ r.length ≤ 6) (fun r r' pr h => ⟨fun e he => h.1 e (pr.mem_iff.mpr he), ((pr.map (·.1)).nodup_iff).mp h.2.1, by rw [← pr.length_eq]; exact h.2.2⟩) p m.ok
theorem Md.mkA {K : PySem.W.Frag} {H : Hp} {ke : Bool} {En : Addr} {ds : List Addr} {rows : List Rw} {ns : List Int} {b : Int} (m : Md rows ns b) (w : RowsAt H ds rows) (hE : SqK K ke H En (ns.map V.int)) : MkA K H ke En ds rows ns b :=
  ⟨w, m.l1, by have := m.l5; omega, fun r hr => ⟨(m.ok r hr).1, (m.ok r hr).2.1, by have := (m.ok r hr).2.2; omega⟩, hE, by have := m.nl; omega, m.nnd, m.nin, m.b0, m.bn, m.AB⟩
abbrev sReaderL : Stmt := top 34
abbrev sByOf : Stmt := top 36
def spReaderL (C : Addr) : Sp := fun vs H Q _ => ∃ (M L E : Addr) (ds : List Addr) (rows : List Rw) (ns : List Int) (b : Int), vs = [.ref M] ∧ ModelAt H M L E ds rows ns b ∧ Md rows ns b ∧ Out C H rows ns b Q
def spByOf (C : Addr) : Sp := fun vs H Q _ => ∃ (M L E : Addr) (ds : List Addr) (rows : List Rw) (ns : List Int) (b : Int), vs = [.ref M] ∧ ModelAt H M L E ds rows ns b ∧ Md rows ns b ∧ rows.length ≤ 4 ∧ Out C H rows ns b Q
theorem bind_ofK2 {doc pm cdv ct kV : Value} {an : Option Addr} (c e b : Value) : ∀ rest : List Value, bindArgs (fdOf kV doc pm an cdv ct) ⟨c :: rest, [("start", b), ("ends", e)]⟩ = (newTuple rest >>= fun t => pure (psOf.zip [c, e, b, t]))
  | [] => rfl
  | _ :: _ => rfl
section
variable {P : Program} {w : World} {K : PySem.W.Frag} {mg : Str → Option Value} {base : Heap}
theorem ok_ofK2 {C fI f T0 : Addr} {fd fdI : FuncData} {g : List Value → List Value → List Value} (F : FunD K "of" "Reader.of" (defArgs sOf) (defBody sOf) (defScope sOf) [] [("ends", .ref T0), ("start", .int 0)] f fd) (M : Mk K C fI)
    (kI : KBn K fdI ["self", "states", "ends", "start"] 3 ["start"] g (fun vs zs => vs ++ zs)) (gI : FnOk P w K mg base CX0 5 fI fdI ["self", "states", "ends", "start"] (spInit K C)) : OfFn P w K mg base 7 f C ["start", "ends"] (fun vs zs H Q => spOf K C vs zs.reverse H Q) := by
  intro A outer s H us vs ws zs Q hr e0 rv rz lz ⟨ke, En, ds, rows, ns, b, ev, ez, m, o⟩
  obtain ⟨oc, od, dV, kV, doc, pm, an, cdv, ct, osl, rfl, lk, hcd, hD, hK⟩ := F.ex
  subst ev
  have ez : zs = [.int b, .ref En] := by
    have k := congrArg List.reverse ez
    rw [List.reverse_reverse] at k
    exact k
  subst ez
  rcases hD with ⟨_, rfl⟩ | ⟨e, _⟩
  · cases rz with
    | cons rb rz =>
      cases rz with
      | cons re rz =>
        cases rz
        refine run_of lk hcd M kI gI hr e0 rv re rb (fun A' Ex Q' lu q => ?_) m o
        show wpAny (model P w) A' (bindArgs _ ⟨_ :: us, [("start", _), ("ends", _)]⟩) Q' Ex s
        rw [bind_ofK2]
        exact wpAny_bind (wpAny_newTuple (wpAny_pure q) lu)
  · exact absurd rfl e
theorem scReaderL : FnScope ["_law_model"] ["_law_model"] (defScope sReaderL) := ⟨rfl, rfl, rfl, by decide +kernel, rfl, by decide +kernel, by decide +kernel⟩
theorem ok_readerL {f C fI : Addr} {fd fdI : FuncData} {g1 : List Value → List Value → List Value} (F : Fun K "_law_reader" "_law_reader" sReaderL f fd) (gC : mg "Reader" = some (.ref C)) (M : Mk K C fI) (gI : FnOk P w K mg base CX0 5 fI fdI ["self", "states", "ends", "start"] (spInit K C))
    (k1 : KBn K fdI ["self", "states", "ends", "start"] 3 ["start"] g1 (fun vs zs => vs ++ zs)) : FnOk P w K mg base CX0 7 f fd ["_law_model"] (spReaderL C) := by
  refine F.ok scReaderL (fun vs H Q E h => ?_) (fun cdv A0 outer s H vs Q E0 hr h => ?_)
  · obtain ⟨M, L, E, ds, rows, ns, b, rfl, _⟩ := h
    rfl
  · obtain ⟨Mo, L, E, ds, rows, ns, b, rfl, hM, m, o⟩ := h
    refine ⟨_, pss_one (ps_ret (pe_makeK (E := fun _ _ _ => False) M gI hr (by rfl) gC k1 pass0 (pa_cons (pe_ix ix_tup (pv 0) pe_int (fun _ _ => rfl)) (pa_cons (pe_ix ix_tup (pv 0) pe_int (fun _ _ => rfl)) pa_nil)) (pk_cons (pe_ix ix_tup (pv 0) pe_int (fun _ _ => rfl)) pk_nil))), ?_⟩
    refine ⟨_, rfl, Mo, _, _, .ref L, rfl, rfl, SqT.of hM.h1, atI_nat (j := 0) rfl, _, rfl, Mo, _, _, .ref E, rfl, rfl, SqT.of hM.h1, atI_nat (j := 1) rfl, _, rfl, Mo, _, _, .int b, rfl, rfl, SqT.of hM.h1, atI_nat (j := 2) rfl, rfl, rfl, ?_⟩
    exact made_init (m.mkA hM.h3 (SqK.l hM.h5)) (SqK.l hM.h2) o
theorem scByOf : FnScope ["_law_model", "_law_rows", "_law_stops", "_law_begin"] ["_law_model"] (defScope sByOf) := ⟨rfl, rfl, rfl, by decide +kernel, rfl, by decide +kernel, by decide +kernel⟩
theorem len1 {α : Type} {l : List α} (h : l.length = 1) : ∃ a, l = [a] := by
  match l, h with
  | [a], _ => exact ⟨a, rfl⟩
theorem len2 {α : Type} {l : List α} (h : l.length = 2) : ∃ a b, l = [a, b] := by
  match l, h with
  | [a, b], _ => exact ⟨a, b, rfl⟩
theorem len3 {α : Type} {l : List α} (h : l.length = 3) : ∃ a b c, l = [a, b, c] := by
  match l, h with
  | [a, b, c], _ => exact ⟨a, b, c, rfl⟩
theorem len4 {α : Type} {l : List α} (h : l.length = 4) : ∃ a b c d, l = [a, b, c, d] := by
  match l, h with
  | [a, b, c, d], _ => exact ⟨a, b, c, d, rfl⟩
theorem ok_byOf {f C fO pO : Addr} {fd : FuncData} {mc : Value} (F : Fun K "_law_by_of" "_law_by_of" sByOf f fd) (gC : mg "Reader" = some (.ref C)) (rC : ClX.CRead K C mc) (cO : ClX.CMet K C mc "of" pO fO)
    (gO : OfFn P w K mg base 7 fO C ["ends", "start"] (spOf K C)) (gO2 : OfFn P w K mg base 7 fO C ["start", "ends"] (fun vs zs H Q => spOf K C vs zs.reverse H Q)) (zn : mg "len" = none) (zt : mg "tuple" = none) :
    FnOk P w K mg base CX0 8 f fd ["_law_model"] (spByOf C) := by
  refine F.ok scByOf (fun vs H Q E h => ?_) (fun cdv A0 outer s H vs Q E0 hr h => ?_)
  · obtain ⟨M, L, E, ds, rows, ns, b, rfl, _⟩ := h
    rfl
  · obtain ⟨Mo, L, E, ds, rows, ns, b, rfl, hM, m, l4, o⟩ := h
    refine ⟨_, pss_cons (ps_asg (pv 0) (pg_tup (by rfl) (pgs_cons (pg_name (i := 1) scByOf.nd rfl (.inl rfl)) (pgs_cons (pg_name (i := 2) scByOf.nd rfl (.inl rfl)) (pgs_cons (pg_name (i := 3) scByOf.nd rfl (.inl rfl)) pgs_nil)))))
      (pss_cons (ps_if (pt_cmpR op_eq (pe_callB call_len_seq (by rfl) zn PySem.boot_len (pa_cons (pv 1) pa_nil)) pe_int (nomark _))
        (pss_one (ps_ret (pe_of (pe_glob (v := .ref C) (by rfl) gC (show RelV (V.ref C) (Value.ref C) from rfl)) rC cO gO hr (pa_cons (pe_ix ix_list (pv 1) pe_int (fun _ _ => rfl)) pa_nil) (pk_cons (pv 2) (pk_cons (pv 3) pk_nil))))) pss_nil)
      (pss_cons (ps_if (pt_cmpR op_eq (pe_callB call_len_seq (by rfl) zn PySem.boot_len (pa_cons (pv 1) pa_nil)) pe_int (nomark _))
        (pss_one (ps_ret (pe_of (pe_glob (v := .ref C) (by rfl) gC (show RelV (V.ref C) (Value.ref C) from rfl)) rC cO gO2 hr (pa_cons (pe_ix ix_list (pv 1) pe_int (fun _ _ => rfl)) (pa_cons (pe_ix ix_list (pv 1) pe_int (fun _ _ => rfl)) pa_nil)) (pk_cons (pv 3) (pk_cons (pe_callTy call_tuple_of (by rfl) zt (by decide +kernel) (pa_cons (pv 2) pa_nil)) pk_nil))))) pss_nil)
      (pss_cons (ps_if (pt_cmpR op_eq (pe_callB call_len_seq (by rfl) zn PySem.boot_len (pa_cons (pv 1) pa_nil)) pe_int (nomark _))
        (pss_one (ps_ret (pe_of (pe_glob (v := .ref C) (by rfl) gC (show RelV (V.ref C) (Value.ref C) from rfl)) rC cO gO hr (pa_cons (pe_ix ix_list (pv 1) pe_int (fun _ _ => rfl)) (pa_cons (pe_ix ix_list (pv 1) pe_int (fun _ _ => rfl)) (pa_cons (pe_ix ix_list (pv 1) pe_int (fun _ _ => rfl)) pa_nil))) (pk_cons (pv 2) (pk_cons (pv 3) pk_nil))))) pss_nil)
      (pss_one (ps_ret (pe_of (pe_glob (v := .ref C) (by rfl) gC (show RelV (V.ref C) (Value.ref C) from rfl)) rC cO gO2 hr (pa_cons (pe_ix ix_list (pv 1) pe_int (fun _ _ => rfl)) (pa_cons (pe_ix ix_list (pv 1) pe_int (fun _ _ => rfl)) (pa_cons (pe_ix ix_list (pv 1) pe_int (fun _ _ => rfl)) (pa_cons (pe_ix ix_list (pv 1) pe_int (fun _ _ => rfl)) pa_nil)))) (pk_cons (pv 3) (pk_cons (pv 2) pk_nil)))))))), ?_⟩
    have l1 := m.l1
    have ld := hM.h3.len
    refine ⟨_, rfl, Mo, _, rfl, SqT.of hM.h1, rfl, _, _, rfl, _, _, rfl, _, _, rfl, rfl, ?_⟩
    have dec : ∀ {n : Nat}, decide (V.int ((ds.map V.ref).length : Nat) = V.int (n : Int)) = true → ds.length = n := fun {n} c => by
      have q := of_decide_eq_true c
      injection q with q
      rw [List.length_map] at q
      omega
    have ndec : ∀ {n : Nat}, decide (V.int ((ds.map V.ref).length : Nat) = V.int (n : Int)) = false → ds.length ≠ n := fun {n} c e => by
      refine of_decide_eq_false c ?_
      rw [List.length_map, e]
    have hL := hM.h2
    refine ⟨_, rfl, L, _, rfl, .inl (SqL.of hL), rfl, _, rfl, ?_⟩
    refine ite2 (fun c1 => ?_) (fun c1 => ?_)
    · obtain ⟨d0, e⟩ := len1 (dec (n := 1) c1)
      have hw := hM.h3
      rw [e] at hL hw
      refine ⟨rfl, _, rfl, L, _, _, _, rfl, rfl, SqL.of hL, atI_nat (j := 0) rfl, _, rfl, _, rfl, rfl, ?_⟩
      exact ⟨true, E, [d0], rows, ns, b, rfl, rfl, m.mkA hw (SqK.l hM.h5), o⟩
    refine ⟨_, rfl, L, _, rfl, .inl (SqL.of hL), rfl, _, rfl, ?_⟩
    refine ite2 (fun c2 => ?_) (fun c2 => ?_)
    · obtain ⟨d0, d1, e⟩ := len2 (dec (n := 2) c2)
      have hw := hM.h3
      rw [e] at hL hw
      refine ⟨rfl, _, rfl, L, _, _, _, rfl, rfl, SqL.of hL, atI_nat (j := 0) rfl, _, rfl, L, _, _, _, rfl, rfl, SqL.of hL, atI_nat (j := 1) rfl, _, rfl, _, rfl, E, _, rfl, .inl ⟨SqL.of hM.h5, fun T nT => ?_⟩⟩
      have xT := Ext.new nT (o := .tup (ns.map V.int))
      have t5 : (upd H T (.tup (ns.map V.int))) T = some (.tup (ns.map V.int)) := upd_same
      generalize upd H T (.tup (ns.map V.int)) = H6 at xT t5 ⊢
      refine ⟨rfl, ?_⟩
      exact ⟨false, T, [d0, d1], rows, ns, b, rfl, rfl, m.mkA (hw.ext xT) (SqK.t t5), o.ext xT⟩
    refine ⟨_, rfl, L, _, rfl, .inl (SqL.of hL), rfl, _, rfl, ?_⟩
    refine ite2 (fun c3 => ?_) (fun c3 => ?_)
    · obtain ⟨d0, d1, d2, e⟩ := len3 (dec (n := 3) c3)
      have hw := hM.h3
      rw [e] at hL hw
      refine ⟨rfl, _, rfl, L, _, _, _, rfl, rfl, SqL.of hL, atI_nat (j := 0) rfl, _, rfl, L, _, _, _, rfl, rfl, SqL.of hL, atI_nat (j := 1) rfl, _, rfl, L, _, _, _, rfl, rfl, SqL.of hL, atI_nat (j := 2) rfl, _, rfl, _, rfl, rfl, ?_⟩
      exact ⟨true, E, [d0, d1, d2], rows, ns, b, rfl, rfl, m.mkA hw (SqK.l hM.h5), o⟩
    have n1 := ndec (n := 1) (Bool.eq_false_iff.mpr c1)
    have n2 := ndec (n := 2) (Bool.eq_false_iff.mpr c2)
    have n3 := ndec (n := 3) (Bool.eq_false_iff.mpr c3)
    obtain ⟨d0, d1, d2, d3, e⟩ := len4 (l := ds) (by omega)
    have hw := hM.h3
    rw [e] at hL hw
    refine ⟨rfl, _, rfl, L, _, _, _, rfl, rfl, SqL.of hL, atI_nat (j := 0) rfl, _, rfl, L, _, _, _, rfl, rfl, SqL.of hL, atI_nat (j := 1) rfl, _, rfl, L, _, _, _, rfl, rfl, SqL.of hL, atI_nat (j := 2) rfl, _, rfl, L, _, _, _, rfl, rfl, SqL.of hL, atI_nat (j := 3) rfl, _, rfl, _, rfl, rfl, ?_⟩
    exact ⟨true, E, [d0, d1, d2, d3], rows, ns, b, rfl, rfl, m.mkA hw (SqK.l hM.h5), o⟩
end
end Sl
/-! ## Y7 -/
set_option Elab.async false
set_option linter.all false
set_option maxRecDepth 100000
set_option maxHeartbeats 1000000
/-! what is shown of a model is short -/
namespace Sl
open PySem PySem.Spec PyProof.Rows L2
open PySem.W TL
theorem rest_len {α : Type} {f : α → List Nat} {z B : Nat} : ∀ (l : List α), (∀ x ∈ l, (f x).length ≤ B) → (restL f z l).length ≤ 1 + l.length * (B + 2)
  | [], _ => by simp [restL]
  | x :: l, h => by
    have ih := rest_len (z := z) l fun y hy => h y (List.mem_cons_of_mem _ hy)
    have hx := h x List.mem_cons_self
    have e : (l.length + 1) * (B + 2) = l.length * (B + 2) + (B + 2) := Nat.succ_mul _ _
    simp only [restL, List.length_cons, List.length_append]
    omega
theorem whole_len {α : Type} {f : α → List Nat} {z B : Nat} : ∀ (l : List α), (∀ x ∈ l, (f x).length ≤ B) → (wholeL f z l).length ≤ 1 + l.length * (B + 2)
  | [], _ => by simp [wholeL]
  | x :: l, h => by
    have ih := rest_len (z := z) l fun y hy => h y (List.mem_cons_of_mem _ hy)
    have hx := h x List.mem_cons_self
    have e : (l.length + 1) * (B + 2) = l.length * (B + 2) + (B + 2) := Nat.succ_mul _ _
    simp only [wholeL, List.length_cons, List.length_append]
    omega
theorem tup_len {α : Type} {f : α → List Nat} {B : Nat} : ∀ (l : List α), (∀ x ∈ l, (f x).length ≤ B) → (tupL f l).length ≤ 2 + l.length * (B + 2)
  | [], _ => by simp [tupL]
  | [x], h => by
    have hx := h x List.mem_cons_self
    simp only [tupL, List.length_cons, List.length_append, List.length_nil]
    omega
  | x :: y :: l, h => by
    have ih := rest_len (z := 41) (y :: l) fun y hy => h y (List.mem_cons_of_mem _ hy)
    have hx := h x List.mem_cons_self
    have e : ((y :: l).length + 1) * (B + 2) = (y :: l).length * (B + 2) + (B + 2) := Nat.succ_mul _ _
    have e2 : (x :: y :: l).length = (y :: l).length + 1 := rfl
    rw [e2]
    simp only [tupL, List.length_append]
    omega
theorem name_word {z : Str} (h : nameS z = true) : isWordS z = true := (Bool.and_eq_true_iff.mp h).1
theorem sign_word {z : Str} (h : signS z = true) : isWordS z = true := (Bool.and_eq_true_iff.mp h).1
theorem Md.okn {rows : List Rw} {ns : List Int} {b : Int} (m : Md rows ns b) : Okn rows ns b := by
  have l5 := m.l5
  refine ⟨fun r hr e he => ?_, fun i hi => ?_, ⟨m.b0, ?_⟩⟩
  · obtain ⟨⟨s1, _⟩, ⟨g0, g1⟩, hz⟩ := (m.ok r hr).1 e he
    exact ⟨sign_word s1, ⟨g0, by omega⟩, fun z h => name_word (hz z h).1⟩
  · obtain ⟨h1, h2⟩ := m.nin i hi
    exact ⟨h1, by omega⟩
  · have := m.bn
    omega
theorem log_small {i : Int} (h : okI i) : i.natAbs.log2 < 1920 := by
  obtain ⟨h0, h1⟩ := h
  have k : i.natAbs < 10 := by omega
  exact Nat.lt_of_le_of_lt (Nat.log2_le_self _) (by omega)
theorem mv_show {m : Mv} (h : okM m) : (mvD m).showable = true ∧ (mvD m).depth ≤ 4 := by
  obtain ⟨g, o⟩ := m
  have k := log_small h.1
  cases o <;> simp [mvD, toldD, PyData.showable, PyData.showableAll, PyData.depth, PyData.depthAll] at k ⊢ <;> exact k
theorem ents_show : ∀ {r : Rw}, okR r → PyData.showableKv (r.map entD) = true ∧ PyData.depthKv (r.map entD) ≤ 5
  | [], _ => ⟨rfl, by simp [PyData.depthKv]⟩
  | e :: r, h => by
    obtain ⟨i1, i2⟩ := ents_show (r := r) fun e he => h e (List.mem_cons_of_mem _ he)
    obtain ⟨k1, k2⟩ := mv_show (h e List.mem_cons_self).2
    refine ⟨?_, ?_⟩
    · simp only [List.map_cons, entD, PyData.showableKv, PyData.showable]
      rw [k1]
      exact i1
    · simp only [List.map_cons, entD, PyData.depthKv, PyData.depth]
      omega
theorem rows_show : ∀ {rows : List Rw}, (∀ r ∈ rows, okR r) → PyData.showableAll (rows.map rowD) = true ∧ PyData.depthAll (rows.map rowD) ≤ 8
  | [], _ => ⟨rfl, by simp [PyData.depthAll]⟩
  | r :: rows, h => by
    obtain ⟨i1, i2⟩ := rows_show (rows := rows) fun r hr => h r (List.mem_cons_of_mem _ hr)
    obtain ⟨k1, k2⟩ := ents_show (h r List.mem_cons_self)
    refine ⟨?_, ?_⟩
    · simp only [List.map_cons, rowD, PyData.showableAll, PyData.showable]
      rw [k1]
      exact i1
    · simp only [List.map_cons, rowD, PyData.depthAll, PyData.depth]
      omega
theorem ints_show : ∀ {ns : List Int}, (∀ i ∈ ns, okI i) → PyData.showableAll (ns.map PyData.int) = true
  | [], _ => rfl
  | i :: ns, h => by
    simp only [List.map_cons, PyData.showableAll, PyData.showable]
    rw [decide_eq_true (log_small (h i List.mem_cons_self)), ints_show fun j hj => h j (List.mem_cons_of_mem _ hj)]
    rfl
theorem Md.lens {rows : List Rw} {ns : List Int} {b : Int} (m : Md rows ns b) : (rowsD rows).shown.length ≤ 900 ∧ (PyData.tuple (ns.map PyData.int)).shown.length ≤ 30 ∧ (shownR rows ns b).length ≤ 1000 := by
  have ok := m.okn
  have l5 := m.l5
  have n5 := m.nl
  have hz : ∀ z : Str, z.length ≤ 8 → (fz z).length ≤ 10 := fun z h => by
    have h : (tl z).length ≤ 8 := h
    simp only [fz, List.length_cons, List.length_append, List.length_nil]
    omega
  have hr : ∀ r ∈ rows, (fr r).length ≤ 176 := fun r hr => by
    have k := whole_len (f := fe) (z := 125) (B := 27) r fun e he => by
      obtain ⟨⟨_, s1⟩, _, ho⟩ := (m.ok r hr).1 e he
      have a1 := hz e.1 (by omega)
      have a2 : (ft e.2.2).length ≤ 10 := by
        cases h : e.2.2 with
        | none => show (4 : Nat) ≤ 10; decide
        | some z => exact hz z (ho z h).2
      simp only [fe, fm, fdI, List.length_cons, List.length_append, List.length_nil]
      omega
    have l6 := (m.ok r hr).2.2
    simp only [fr, List.length_cons]
    omega
  have k1 := whole_len (f := fr) (z := 93) (B := 176) rows hr
  have e1 : (rowsD rows).shown.length = (frs rows).length := by
    rw [← rowsD_shown ok.r]
    rfl
  have k2 := tup_len (f := fdI) (B := 1) ns fun i _ => by simp [fdI]
  have e2 : (PyData.tuple (ns.map PyData.int)).shown.length = (fen ns).length := by
    rw [← endsD_shown ok.e]
    rfl
  have e3 : (shownR rows ns b).length = (tl (shownR rows ns b)).length := rfl
  have e4 : (tl ("Reader(" : Str)).length = 7 := rfl
  have e5 : (tl (", start=" : Str)).length = 8 := rfl
  have f1 : (frs rows).length ≤ 892 := by
    simp only [frs, List.length_cons]
    omega
  have f2 : (fen ns).length ≤ 18 := by
    simp only [fen, List.length_cons]
    omega
  refine ⟨by omega, by omega, ?_⟩
  rw [e3, shownR_tl ok]
  simp only [List.length_append, List.length_cons, List.length_nil, fdI]
  omega
theorem Md.show {rows : List Rw} {ns : List Int} {b : Int} (m : Md rows ns b) : RdShow rows ns b := by
  have ok := m.okn
  obtain ⟨k1, k2⟩ := rows_show ok.r
  refine ⟨?_, ?_, ?_, log_small ok.b, small_size (by have := m.lens.2.2; omega)⟩
  · simp only [rowsD, PyData.showable]
    exact k1
  · simp only [rowsD, PyData.depth]
    omega
  · simp only [PyData.showable]
    exact ints_show ok.e
end Sl
/-! ## Y8 -/
set_option Elab.async false
set_option linter.all false
set_option maxRecDepth 100000
set_option maxHeartbeats 4000000
/-! _law_shown -/
namespace Sl
open PySem PySem.Spec PyProof.Rows L2 TxS
abbrev sShown : Stmt := top 38
def rShowRows : List V → Hp → VK → Prop := fun xs H Q => ∃ (L : Addr) (ds : List Addr) (rows : List Rw), xs = [.ref L] ∧ H L = some (.lst (ds.map V.ref)) ∧ RowsAt H ds rows ∧ (rowsD rows).showable = true ∧ (rowsD rows).depth ≤ 60 ∧ (rowsD rows).shown.length ≤ sizeLine ∧ Q (.str (rowsD rows).shown) H
theorem cr_showRows {X : Cx} (gd : X.A.guards = some []) (hu : X.A.units + 64 < cLine) (sys : ∃ o, X.base.get? sysModules = some o) : CallR X (.builtin "repr") rShowRows := by
  intro pins s σ H xs us Q I r h
  obtain ⟨L, ds, rows, rfl, hL, a, sh, dp, sz, q⟩ := h
  obtain rfl := Vals.ref1 r
  exact repr_of_reads' (rows_reads I (SqL.of (K := X.K) hL) a) sh (fun _ => rows_sys sys I hL a) gd (by omega) (fun _ _ z => z) (fun h' u tk kk => ⟨.str _, H, I.kept (t' := tk) kk, ⟨_, rfl⟩, q⟩) sz
def spShown : Sp := fun vs H Q _ => ∃ (M L E : Addr) (ds : List Addr) (rows : List Rw) (ns : List Int) (b : Int), vs = [.ref M] ∧ ModelAt H M L E ds rows ns b ∧ Md rows ns b ∧
  ∀ (H' : Hp) (rowsC : List Rw) (nsC : List Int), Ext H H' → Ascs rows rowsC → nsC.Perm ns → nsC.Pairwise (· ≤ ·) → Q (.str (shownR rowsC nsC b)) H'
def rSortD : List V → Hp → VK → Prop := fun xs H Q => ∃ (a : Addr) (kvs : List (Key × V)) (ks : List Str), xs = [.ref a] ∧ Rd H a (.dK kvs) ∧ kvs.map (·.1) = ks.map Sum.inr ∧ ks.length < 64 ∧
  ∀ (ys : List Str) (p : Addr), ys.Perm ks → sortedS ys = true → H p = none → Q (.ref p) (upd H p (.lst (ys.map V.str)))
theorem cr_sortD {X : Cx} (hc : X.calm = true) : CallR X (.builtin "sorted") rSortD := call_sortedD hc
/-- the pairs of a row by ascending signs: the row in slot i, its sign in slot j -/
def tPairs (K : PySem.W.Frag) (i j : Nat) : TE := tLc (iList K (tCB rSortD (tCons (tVar i) tNil))) (gName j) tYes (tTup (tCons (tVar j) (tCons (tDGet (tVar i) (tVar j)) tNil))) [j]
def scRows : Scope := { kind := .function, names := [(".0", .local), ("_law_line", .cell), ("dict", .globalImplicit), ("sorted", .globalImplicit)], isGenerator := false, isCoroutine := false }
theorem pairs_run {K : PySem.W.Frag} {H : Hp} {d : Addr} {es : List (Str × Addr)} {v0 v1 v2 v4 : Option V} {Q : VK} (hd : H d = some (.dK (kvsOf es))) (nd : (es.map (·.1)).Nodup) (hl : es.length < 64)
    (q : ∀ (H' : Hp) (D : Addr) (ts : List Addr) (es' : List (Str × Addr)), Ext H H' → H D = none → H' D = some (.lst (ts.map V.ref)) → Paired (fun (t : Addr) (q : Str × Addr) => H' t = some (.tup [.str q.1, .ref q.2])) ts es' → sortedS (es'.map (·.1)) = true → es'.Perm es → Q (.ref D) H') :
    tPairs K 3 4 [v0, v1, v2, some (.ref d), v4] H Q := by
  refine ⟨_, rfl, d, _, es.map (·.1), rfl, Rd.of hd, (by unfold kvsOf; rw [List.map_map, List.map_map]; rfl), (by rw [List.length_map]; exact hl), fun ys L pm sr hL => ?_⟩
  have ly : ys.length < 64 := by
    rw [pm.length_eq, List.length_map]
    exact hl
  refine ⟨L, rfl, ⟨_, SqL.of upd_same⟩, fun D hD => ?_⟩
  have nLD : L ≠ D := ne_of_none upd_same hD
  have hD0 : H D = none := (Ext.new hL).free hD
  refine lc_it (walk_list (xs := ys.map V.str)) (fun i H' => Ext H H' ∧ H' L = some (.lst (ys.map V.str)) ∧ ∃ ts es', H' D = some (.lst (ts.map V.ref)) ∧ Paired (fun (t : Addr) (q : Str × Addr) => H' t = some (.tup [.str q.1, .ref q.2])) ts es' ∧ es'.map (·.1) = ys.take i ∧ ∀ e ∈ es', e ∈ es)
    ⟨(Ext.new hL).trans (Ext.new hD), by rw [upd_ne nLD]; exact upd_same, [], [], upd_same, .nil, rfl, fun e h => nomatch h⟩ (fun i H' _ h => SqL.of h.2.1) ?_ ?_
  · rintro i x H1' H1 hi ⟨h1, h2, ts, es', h3, h4, h5, h6⟩ ⟨rfl, hx⟩
    obtain ⟨z, hz, rfl⟩ := at_map hx
    obtain ⟨⟨z', t⟩, m1, e⟩ := List.mem_map.mp (pm.mem_iff.mp (List.mem_of_getElem? hz))
    have e : z' = z := e
    subst e
    have hil : i < ys.length := (List.getElem?_eq_some_iff.mp hz).1
    have hg : DGet H1 d (V.str z') (some (.ref t)) := by
      rw [← val_at nd m1]
      exact DGet.k (k := Sum.inr z') (h1 _ _ hd)
    have lt : ts.length = i := by
      have a := Paired.length h4
      have b := congrArg List.length h5
      rw [List.length_map, List.length_take] at b
      omega
    refine ⟨rfl, _, rfl, _, rfl, _, rfl, d, _, rfl, hg, by show 2 ≤ sizeLine; decide, fun T nT => ?_⟩
    have xT : Ext H1 (upd H1 T (.tup [.str z', .ref t])) := Ext.new nT
    have hT : (upd H1 T (.tup [.str z', .ref t])) T = some (.tup [.str z', .ref t]) := upd_same
    generalize upd H1 T (.tup [.str z', .ref t]) = H2 at xT hT ⊢
    have h32 := xT _ _ h3
    refine ⟨_, h32, by rw [List.length_map]; exact small_list (by omega), fun b o e => by rw [upd_ne (ne_of_none e hD0)]; exact xT _ _ (h1 _ _ e), by rw [upd_ne nLD]; exact xT _ _ h2, ts ++ [T], es' ++ [(z', t)], by rw [upd_same, List.map_append]; rfl, ?_, ?_, ?_⟩
    · have keep : ∀ (t : Addr) (q : Str × Addr), H2 t = some (.tup [.str q.1, .ref q.2]) → upd H2 D (.lst (ts.map V.ref ++ [V.ref T])) t = some (.tup [.str q.1, .ref q.2]) := fun t q e => by
        rw [upd_ne (ne_of e h32 (by intro w; cases w))]
        exact e
      exact Paired.snoc (paired_mono (fun t q e => keep t q (xT _ _ e)) h4) (keep T (z', t) hT)
    · rw [List.map_append, h5, take_more hz]
      rfl
    · intro e he
      rcases List.mem_append.mp he with c | c
      · exact h6 e c
      · rw [List.mem_singleton.mp c]
        exact m1
  · rintro H' ⟨h1, h2, ts, es', h3, h4, h5, h6⟩
    rw [List.length_map, List.take_length] at h5
    refine q H' D ts es' h1 hD0 h3 h4 (by rw [h5]; exact sr) ?_
    have nde' : (es'.map (·.1)).Nodup := by
      rw [h5]
      exact pm.nodup_iff.mpr nd
    have el : es'.length = es.length := by
      have k := congrArg List.length h5
      rw [List.length_map, pm.length_eq, List.length_map] at k
      exact k
    exact (perm_sub (nodup_of_keys nde') h6 el.symm).symm
theorem empty_app (x : Str) : Str.empty ++ x = x := by
  obtain ⟨⟨l⟩⟩ := x
  show Str.mk (#[] ++ ⟨l⟩) = _
  rw [Array.empty_append]
theorem ints_nodict : ∀ ns : List Int, PyData.hasDictAll (ns.map PyData.int) = false
  | [] => rfl
  | i :: ns => by
    simp only [List.map_cons, PyData.hasDictAll, PyData.hasDict, ints_nodict ns]
    rfl
abbrev nShown : List Str := ["_law_model", "_law_rows", "_law_stops", "_law_line", "_law_letter"]
section
variable {P : Program} {w : World} {K : PySem.W.Frag} {mg : Str → Option Value} {base : Heap}
theorem scShown : FnScope nShown ["_law_model"] (defScope sShown) := ⟨rfl, rfl, rfl, by decide +kernel, rfl, by decide +kernel, by decide +kernel⟩
theorem ok_shown {f : Addr} {fd : FuncData} (F : Fun K "_law_shown" "_law_shown" sShown f fd) (sys : ∃ o, base.get? sysModules = some o) (zs : mg "sorted" = none) (zd : mg "dict" = none) (zt : mg "tuple" = none) (zp : mg "repr" = none) (zstr : mg "str" = none) :
    FnG P w K mg base CX0 1 f fd ["_law_model"] spShown := by
  refine Sl.Fun.okG F scShown (fun vs H Q E h => ?_) (fun cdv A0 outer s H vs Q E gd hr h => ?_)
  · obtain ⟨M, L, E, ds, rows, ns, b, rfl, _⟩ := h
    rfl
  · obtain ⟨Mo, L, En, ds, rows, ns, b, rfl, hM, m, k⟩ := h
    have hu0 := hr.units
    have hu := hu_of hr
    refine ⟨_, pss_cons (ps_setLc (i := 1) (own := [("_law_line", 3)]) (g := gName 3) (tt := tYes) (te := tCB (rDictP K) (tCons (tPairs K 3 4) tNil)) rfl scShown.nd rfl rfl (sw_true rfl rfl rfl (by decide +kernel)) (pi_list (pe_ix ix_tup (pv 0) pe_int (fun _ _ => rfl))) (blkOk_by (N := nShown) (sc := defScope sShown) (by decide +kernel))
          (fun _ _ _ _ _ => pg_name (i := 3) scShown.nd rfl (Or.inr rfl)) (fun _ _ _ _ _ => pts_nil)
          (fun _ _ _ _ _ => pe_callTy (T := "dict") (r := rDictP K) (cr_dictP rfl) (by rfl) zd (by decide +kernel) (pa_cons
            (show PE _ _ (tPairs K 3 4) from pe_lc (own := [("_law_letter", 4)]) (g := gName 4) (tt := tYes) (te := tTup (tCons (tVar 4) (tCons (tDGet (tVar 3) (tVar 4)) tNil))) rfl scShown.nd (pi_list (pe_callB (r := rSortD) (cr_sortD rfl) (by rfl) zs (by decide +kernel) (pa_cons (pv 3) pa_nil))) (blkOk_by (N := nShown) (sc := scRows) (by decide +kernel))
              (fun _ _ _ _ _ => pg_name (i := 4) scShown.nd rfl (Or.inl rfl)) (fun _ _ _ _ _ => pts_nil) (fun _ _ _ _ _ => pe_tup (pa_cons (pv 4) (pa_cons (pe_dget hu (pv 3) (pv 4) (fun _ _ => rfl)) pa_nil)))) pa_nil)))
      (pss_cons (ps_set (i := 2) scShown.nd rfl (.inl rfl) (pe_callTy call_tuple_of (by rfl) zt (by decide +kernel) (pa_cons (pe_callB cr_sortedK (by rfl) zs (by decide +kernel) (pa_cons (pe_ix ix_tup (pv 0) pe_int (fun _ _ => rfl)) pa_nil)) pa_nil)))
      (pss_one (ps_ret (pe_op op_add_str (pe_op op_add_str (pe_op op_add_str (pe_op op_add_str (pe_op op_add_str (pe_op op_add_str pe_str (pe_callB (cr_showRows gd hu0 sys) (by rfl) zp (by decide +kernel) (pa_cons (pv 1) pa_nil))) pe_str) (pe_callB (cr_shown gd hu0) (by rfl) zp (by decide +kernel) (pa_cons (pv 2) pa_nil))) pe_str) (pe_callTy call_str_int (by rfl) zstr (by decide +kernel) (pa_cons (pe_ix ix_tup (pv 0) pe_int (fun _ _ => rfl)) pa_nil))) pe_str)))), ?_⟩
    refine ⟨_, rfl, Mo, _, _, .ref L, rfl, rfl, SqT.of hM.h1, atI_nat (j := 0) rfl, L, rfl, ⟨_, SqL.of hM.h2⟩, fun D nD => ?_⟩
    refine lc_it (walk_list (xs := ds.map V.ref)) (fun i H' => Ext H H' ∧ ∃ ds' rows', H' D = some (.lst (ds'.map V.ref)) ∧ RowsAt H' ds' rows' ∧ Ascs (rows.take i) rows') ⟨Ext.new nD, [], [], upd_same, .nil, .nil⟩ (fun i H' _ h => SqL.of (h.1 _ _ hM.h2)) ?_ ?_
    · rintro i x H1' H1 hi ⟨x1, ds', rows', l1, w1, a1⟩ ⟨rfl, hx⟩
      obtain ⟨d, hd, rfl⟩ := at_map hx
      obtain ⟨r, hri, es, he1, he2⟩ := hM.h3.at_ hd
      have hil : i < rows.length := (List.getElem?_eq_some_iff.mp hri).1
      obtain ⟨_, ndr, l6⟩ := m.ok r (List.mem_of_getElem? hri)
      have nde : (es.map (·.1)).Nodup := by
        rw [he2.keys]
        exact ndr
      refine ⟨rfl, ?_⟩
      dsimp only [tYes]
      rw [if_pos rfl]
      dsimp only [tCB, tCons]
      refine pairs_run (x1 _ _ he1) nde (by rw [he2.len]; omega) fun H2 D2 ts es' x2 nD2 hD2 hts so pm => ?_
      refine ⟨D2, ts, kvsOf es', rfl, SqL.of hD2, ?_, fun p np => ?_⟩
      · have gen : ∀ {ts : List Addr} {es : List (Str × Addr)}, Paired (fun (t : Addr) (q : Str × Addr) => H2 t = some (.tup [.str q.1, .ref q.2])) ts es → Paired (fun p kv => SqT K H2 p [kV kv.1, kv.2]) ts (kvsOf es) := by
          intro ts es h
          induction h with
          | nil => exact .nil
          | cons a t ih => exact .cons (SqT.of a) ih
        exact gen hts
      rw [merge_nil (((pm.map (·.1)).nodup_iff).mpr nde)]
      obtain ⟨r', en1, pr⟩ := (he2.ext fun t xs e => x2 _ _ (x1 _ _ e)).perm pm
      have xp : Ext H2 (upd H2 p (.dK (kvsOf es'))) := Ext.new np
      have dp : (upd H2 p (.dK (kvsOf es'))) p = some (.dK (kvsOf es')) := upd_same
      have l4 := xp _ _ (x2 _ _ l1)
      have w4 := (w1.ext x2).ext xp
      have en4 : Ents (upd H2 p (.dK (kvsOf es'))) es' r' := en1.ext fun t xs e => xp _ _ e
      have x04 : Ext H (upd H2 p (.dK (kvsOf es'))) := (x1.trans x2).trans xp
      generalize upd H2 p (.dK (kvsOf es')) = H4 at xp dp l4 w4 en4 x04 ⊢
      have npD : p ≠ D := ne_of dp l4 (by intro q; cases q)
      have r5 := m.l5
      have ld : ds'.length = i := by
        rw [w1.len, ← a1.perms.len, List.length_take]
        omega
      refine ⟨_, l4, by rw [List.length_map]; exact small_list (by omega), fun b o e => by rw [upd_ne (ne_of_none e nD)]; exact x04 _ _ e, ds' ++ [p], rows' ++ [r'], by rw [upd_same, List.map_append]; rfl, ?_, ?_⟩
      · refine RowsAt.snoc ?_ ?_
        · refine ⟨es', by rw [upd_ne npD]; exact dp, en4.ext fun t xs e => ?_⟩
          rw [upd_ne (ne_of e l4 (by intro q; cases q))]
          exact e
        · refine w4.keepN Keep.at_ (fun xs e => by rw [l4] at e; cases e) fun hm => ?_
          obtain ⟨kvs, e⟩ := w4.mem hm
          rw [l4] at e
          cases e
      · rw [take_more hri]
        refine a1.snoc pr.symm ?_
        rw [← en1.keys]
        exact so
    rintro H1 ⟨x1, ds', rows', l1, w1, a1⟩
    rw [List.length_map, hM.h3.len, List.take_length] at a1
    have hM1 := hM.ext x1
    -- the ends
    refine ⟨_, rfl, Mo, _, _, .ref En, rfl, rfl, SqT.of hM1.h1, atI_nat (j := 1) rfl, ?_⟩
    refine ⟨true, En, ns, rfl, SqK.l hM1.h5, by have := m.nl; omega, fun ns' pa pm rising na => ⟨pa, _, rfl, .inl ⟨SqL.of upd_same, fun Te nTe => ?_⟩⟩⟩
    have x2 : Ext H1 (upd (upd H1 pa (.lst (ns'.map V.int))) Te (.tup (ns'.map V.int))) := (Ext.new na).trans (Ext.new nTe)
    have t2 : (upd (upd H1 pa (.lst (ns'.map V.int))) Te (.tup (ns'.map V.int))) Te = some (.tup (ns'.map V.int)) := upd_same
    generalize upd (upd H1 pa (.lst (ns'.map V.int))) Te (.tup (ns'.map V.int)) = H2 at x2 t2 ⊢
    have mC := m.perm a1.perms pm
    obtain ⟨s1, s2, s3, s4, s5⟩ := mC.show
    obtain ⟨n1, n2, n3⟩ := mC.lens
    have l9 : ∀ {n : Nat}, n ≤ 1000 → n ≤ sizeLine := fun h => small_size (by omega)
    have bl := n3
    unfold shownR at bl
    simp only [strLen_append] at bl
    have z0 : Str.empty.length = 0 := rfl
    have l2 := x2 _ _ l1
    have w2 := w1.ext x2
    have hM2 := hM1.ext x2
    refine ⟨_, rfl, D, ds', rows', rfl, l2, w2, s1, s2, l9 (by omega), _, _, rfl, rfl, l9 (by omega), _, _, rfl, rfl, l9 (by simp only [strLen_append]; omega), ?_⟩
    refine ⟨_, rfl, Te, _, rfl, .tup (SqT.of t2) (ints_dp ns'), s3, ?_, ?_, l9 (by omega), _, _, rfl, rfl, l9 (by simp only [strLen_append]; omega), _, _, rfl, rfl, l9 (by simp only [strLen_append]; omega), ?_⟩
    · simp only [PyData.hasDict]
      exact ints_nodict ns'
    · have := (ints_can ns').2
      simp only [PyData.depth]
      omega
    refine ⟨_, rfl, Mo, _, _, .int b, rfl, rfl, SqT.of hM2.h1, atI_nat (j := 2) rfl, b, rfl, s4, _, _, rfl, rfl, l9 (by simp only [strLen_append]; omega), _, _, rfl, rfl, l9 (by simp only [strLen_append]; omega), ?_⟩
    have e0 : shownR rows' ns' b = ((("Reader(" : Str)) ++ (rowsD rows').shown ++ (", " : Str) ++ (PyData.tuple (ns'.map PyData.int)).shown ++ (", start=" : Str) ++ toString b) ++ (")" : Str) := by
      unfold shownR
      rw [empty_app]
    have fin := k H2 rows' ns' (x1.trans x2) a1 pm rising
    rw [e0] at fin
    exact fin
end
end Sl
/-! ## Y9 -/
set_option Elab.async false
set_option linter.all false
set_option maxRecDepth 100000
set_option maxHeartbeats 4000000
/-! _law_other -/
namespace Sl
open PySem PySem.Spec PyProof.Rows L2 TxS
abbrev sOther : Stmt := top 37
/-- x != {} -/
def rNeE : R2 := fun x y H Q => ∃ (a b : Addr) (kvs : List (Key × V)), x = .ref a ∧ y = .ref b ∧ H a = some (.dK kvs) ∧ H b = some (.dK []) ∧ Q (.bl (!decide (kvs.length = 0))) H
theorem op_neE {X : Cx} (hu : X.A.units + 64 < cLine) : OpR X (compareOp .NotEq) rNeE := by
  intro pins s σ H x y v u Q I rx ry h
  obtain ⟨a, b, kvs, rfl, rfl, ha, hb, q⟩ := h
  cases (show v = Value.ref a from rx)
  cases (show u = Value.ref b from ry)
  obtain ⟨_, ya, va, ra, da⟩ := dk_of I.hok ha
  obtain ⟨_, yb, vb, rb, db⟩ := dk_of I.hok hb
  cases rb
  have l : kvs.length = va.length := Paired.length ra
  refine PySem.W.keq_ne (r := true) ya yb da db (by omega) (fun e => ?_) ?_
  · have e0 : va = [] := List.eq_nil_of_length_eq_zero e
    rw [e0]
    exact .nil
  · have e : (va.length == ([] : List (Key × Value)).length && true) = decide (kvs.length = 0) := by
      rw [Bool.and_true, l]
      show (va.length == 0) = _
      rw [Bool.eq_iff_iff]
      simp
    rw [e]
    exact ⟨.bl _, H, I, rfl, q⟩
/-- a drawn model of at most four states -/
structure Dr4 (paper tells marks : List Str) (rows : List Rw) (ns : List Int) (b : Int) : Prop where
  ok : okModel 4 paper (tells ++ marks) rows ns b
  lp : paper.length ≤ 6
  pin : ∀ z ∈ paper, z ∈ abcL
  lt : tells.length ≤ 4
  tin : ∀ z ∈ tells, z ∈ abcL
  lm : marks.length ≤ 5
  min : ∀ z ∈ marks, markS z = true ∧ z.length ≤ 8
theorem ok_md {cap : Nat} {paper tells marks : List Str} {rows : List Rw} {ns : List Int} {b : Int} (m : okModel cap paper (tells ++ marks) rows ns b) (hc : cap ≤ 5) (lp : paper.length ≤ 6) (hp : ∀ z ∈ paper, z ∈ abcL) (lt : tells.length ≤ 4) (ht : ∀ z ∈ tells, z ∈ abcL)
    (lm : marks.length ≤ 6) (hm : ∀ z ∈ marks, markS z = true ∧ z.length ≤ 8) : Md rows ns b := by
  obtain ⟨f1, f2⟩ := names_few ht hm lt lm
  refine ⟨m.lo, Nat.le_trans m.hi hc, fun r hr => ⟨fun e he => ?_, (m.rw_ r hr).1, row_len (m.rw_ r hr) lp⟩, m.nd, Nat.le_trans m.len hc, m.inn, m.b0, m.b1, paper, tells ++ marks, keys_in m, lp, tolds_in m, by rw [List.length_append]; omega, f1, f2⟩
  obtain ⟨k1, k2, k3⟩ := (m.rw_ r hr).2 e he
  refine ⟨letter_sign (hp _ k1), k2, fun z hz => ?_⟩
  rcases List.mem_append.mp (k3 z hz) with q | q
  · exact sign_name (letter_sign (ht z q)).1
  · exact ⟨mark_name (hm z q).1, (hm z q).2⟩
theorem Dr4.md {paper tells marks : List Str} {rows : List Rw} {ns : List Int} {b : Int} (d : Dr4 paper tells marks rows ns b) : Md rows ns b := ok_md d.ok (by decide) d.lp d.pin d.lt d.tin (by have := d.lm; omega) d.min
def zz : Str := "zzzz"
theorem zz_mark : markS zz = true ∧ zz.length ≤ 8 := by decide +kernel
theorem rowOver.mono {paper names names' : List Str} {n n' : Int} {r : Rw} (h : rowOver paper names n r) (s : ∀ z ∈ names, z ∈ names') (hn : n ≤ n') : rowOver paper names' n' r :=
  ⟨h.1, fun e he => ⟨(h.2 e he).1, ⟨(h.2 e he).2.1.1, Int.lt_of_lt_of_le (h.2 e he).2.1.2 hn⟩, fun z hz => s z ((h.2 e he).2.2 z hz)⟩⟩
def spOther : Sp := fun vs H Q _ => ∃ (a M L E : Addr) (ds : List Addr) (rows : List Rw) (ns : List Int) (b : Int) (paper tells marks : List Str), vs = [.ref a, .ref M] ∧ Rng H a ∧ ModelAt H M L E ds rows ns b ∧ L ≠ a ∧ E ≠ a ∧ Dr4 paper tells marks rows ns b ∧
  ∀ (H' : Hp) (M' L' E' : Addr) (ds' : List Addr) (rows' : List Rw) (ns' : List Int) (b' : Int), Keep a H H' → ModelAt H' M' L' E' ds' rows' ns' b' → Md rows' ns' b' → Q (.ref M') H'
theorem ifAndH {G : Hp → Prop} {c : Bool} {A X : Prop} (H6 : Hp) (hB : ∀ H7, Ext H6 H7 → G H7) (hX : c = true → (∀ H7, Ext H6 H7 → G H7) → X) : (if c = true then X else if false = true then A else G H6) := by
  cases c
  · exact hB H6 (Ext.refl _)
  · exact hX rfl hB
abbrev nOther : List Str := ["_law_rng_here", "_law_model", "_law_rows", "_law_stops", "_law_begin", "_law_way", "_law_at", "_law_letter", "_law_line", "_law_spot"]
section
variable {P : Program} {w : World} {K : PySem.W.Frag} {mg : Str → Option Value} {base : Heap}
theorem scOther : FnScope nOther ["_law_rng_here", "_law_model"] (defScope sOther) := ⟨rfl, rfl, rfl, by decide +kernel, rfl, by decide +kernel, by decide +kernel⟩
theorem ok_other {f fD fC : Addr} {fd fdD fdC : FuncData} (F : Fun K "_law_other" "_law_other" sOther f fd) (aD : At K mg "_law_draw" fD fdD ["_law_rng_here", "_law_many"] []) (gD : FnOk P w K mg base CX0 1 fD fdD ["_law_rng_here", "_law_many"] spDraw)
    (aC : At K mg "_law_choice" fC fdC ["_law_rng_here", "_law_some"] []) (gC : FnOk P w K mg base CX0 2 fC fdC ["_law_rng_here", "_law_some"] spChoice) (zd : mg "dict" = none) (zn : mg "len" = none) (zl : mg "list" = none) (zs : mg "sorted" = none) (zr : mg "range" = none) :
    FnOk P w K mg base CX0 3 f fd ["_law_rng_here", "_law_model"] spOther := by
  refine F.ok scOther (fun vs H Q E h => ?_) (fun cdv A0 outer s H vs Q E0 hr h => ?_)
  · obtain ⟨a, M, L, E', ds, rows, ns, b, paper, tells, marks, rfl, _⟩ := h
    rfl
  · obtain ⟨a, M, L, En, ds, rows, ns, b, paper, tells, marks, rfl, hR, hM, nLa, nEa, dr, k⟩ := h
    have hr1 : Room 1 _ := hr.mono (by decide)
    have hu := hu_of hr
    have hu0 := hr.units
    refine ⟨_, pss_cons (ps_asg (pe_tup (pa_cons (pe_lc (own := [("_law_line", 8)]) (g := gName 8) (tt := tYes) (te := tCB rDictD (tCons (tVar 8) tNil)) rfl scOther.nd (pi_list (pe_ix ix_tup (pv 1) pe_int (fun _ _ => rfl))) (blkOk_by (N := nOther) (sc := defScope sOther) (by decide +kernel))
          (fun _ _ _ _ _ => pg_name (i := 8) scOther.nd rfl (Or.inl rfl)) (fun _ _ _ _ _ => pts_nil) (fun _ _ _ _ _ => pe_callTy (T := "dict") (r := rDictD) call_dictD (by rfl) zd (by decide +kernel) (pa_cons (pv 8) pa_nil)))
        (pa_cons (pe_callTy call_list_of (by rfl) zl (by decide +kernel) (pa_cons (pe_ix ix_tup (pv 1) pe_int (fun _ _ => rfl)) pa_nil)) (pa_cons (pe_ix ix_tup (pv 1) pe_int (fun _ _ => rfl)) pa_nil))))
        (pg_tup (by rfl) (pgs_cons (pg_name (i := 2) scOther.nd rfl (.inl rfl)) (pgs_cons (pg_name (i := 3) scOther.nd rfl (.inr rfl)) (pgs_cons (pg_name (i := 4) scOther.nd rfl (.inl rfl)) pgs_nil)))))
      (pss_cons (ps_asg (pe_tup (pa_cons (pe_call gD hr1 (by rfl) aD.g aD.kp aD.b .nil pass0 (pa_cons (pv 0) (pa_cons pe_int pa_nil))) (pa_cons (pe_call gD hr1 (by rfl) aD.g aD.kp aD.b .nil pass0 (pa_cons (pv 0) (pa_cons (pe_callB call_len_seq (by rfl) zn PySem.boot_len (pa_cons (pv 2) pa_nil)) pa_nil))) pa_nil)))
        (pg_tup (by rfl) (pgs_cons (pg_name (i := 5) scOther.nd rfl (.inl rfl)) (pgs_cons (pg_name (i := 6) scOther.nd rfl (.inr rfl)) pgs_nil))))
      (pss_cons (ps_if (PW.pt (pw_and (pt_cmpR op_eq (pv 5) pe_int (nomark _)) (pw_and1 (pt_cmpR (op_neE hu0) (pe_ix ix_list (pv 2) (pv 6) (fun _ _ => rfl)) pe_dnewK (nomark _)))))
        (pss_cons (ps_set (i := 7) scOther.nd rfl (.inl rfl) (pe_call gC hr (by rfl) aC.g aC.kp aC.b .nil pass0 (pa_cons (pv 0) (pa_cons (pe_callB (cr_sortD rfl) (by rfl) zs (by decide +kernel) (pa_cons (pe_ix ix_list (pv 2) (pv 6) (fun _ _ => rfl)) pa_nil)) pa_nil))))
        (pss_one (ps_dput hu (pe_ix ix_list (pv 2) (pv 6) (fun _ _ => rfl)) (pv 7) (pe_tup (pa_cons (pe_ix ix_tup (pe_dget hu (pe_ix ix_list (pv 2) (pv 6) (fun _ _ => rfl)) (pv 7) (fun _ _ => rfl)) pe_int (fun _ _ => rfl)) (pa_cons pe_str pa_nil))) rfl)))
        (pss_one (ps_if (PW.pt (pw_and (pt_cmpR op_eq (pv 5) pe_int (nomark _)) (pw_and1 (pt_cmpR (op_neE hu0) (pe_ix ix_list (pv 2) (pv 6) (fun _ _ => rfl)) pe_dnewK (nomark _)))))
          (pss_one (ps_expr (pe_dpop1 (pe_ix ix_list (pv 2) (pv 6) (fun _ _ => rfl)) (pe_call gC hr (by rfl) aC.g aC.kp aC.b .nil pass0 (pa_cons (pv 0) (pa_cons (pe_callB (cr_sortD rfl) (by rfl) zs (by decide +kernel) (pa_cons (pe_ix ix_list (pv 2) (pv 6) (fun _ _ => rfl)) pa_nil)) pa_nil))) ⟨rfl, rfl, rfl, rfl⟩)))
          (pss_one (ps_if (pt_cmpR op_eq (pv 5) pe_int (nomark _))
            (pss_one (ps_set (i := 3) scOther.nd rfl (.inr rfl) (pe_lc (own := [("_law_spot", 9)]) (g := gName 9) (tt := tTest (tOp rNe (tOp (rIn K false) (tVar 9) (tVar 3)) (tOp rEq (tVar 9) (tVar 6)))) (te := tVar 9) rfl scOther.nd (pi_range1 rfl zr (pa_cons (pe_callB call_len_seq (by rfl) zn PySem.boot_len (pa_cons (pv 2) pa_nil)) pa_nil)) (blkOk_by (N := nOther) (sc := defScope sOther) (by decide +kernel))
              (fun _ _ _ _ _ => pg_name (i := 9) scOther.nd rfl (Or.inl rfl)) (fun _ _ _ _ _ => pts_one (pt_cmpR op_ne (pe_cmpR op_in_seq (pv 9) (pv 3) (by rfl)) (pe_cmpR op_eq (pv 9) (pv 6) (nomark _)) (nomark _))) (fun _ _ _ _ _ => pv 9))))
            (pss_one (ps_if (pt_cmpR op_eq (pv 5) pe_int (nomark _)) (pss_one (ps_set (i := 4) scOther.nd rfl (.inl rfl) (pv 6)))
              (pss_one (ps_if (pt_cmpR op_eq (pv 5) pe_int (nomark _)) (pss_one (ps_expr (pe_bm PySem.F.plainAttrs_list PySem.F.slot_list_append PySem.F.type_list_append mt_append (pv 2) (pa_cons pe_dnewK pa_nil)))) pss_nil)))))))))
      (pss_one (ps_ret (pe_tup (pa_cons (pv 2) (pa_cons (pv 3) (pa_cons (pv 4) pa_nil)))))))), ?_⟩
    have phi := dr.lp
    have tl2 := dr.lt
    have ml2 := dr.lm
    have ok := dr.ok
    have rhi := ok.hi
    have rlo := ok.lo
    have ok5 : ∀ r ∈ rows, ∀ n : Int, (rows.length : Int) ≤ n → rowOver paper (tells ++ (marks ++ [zz])) n r := fun r hr n hn => (ok.rw_ r hr).mono (fun z hz => by
      rcases List.mem_append.mp hz with c | c
      · exact List.mem_append_left _ c
      · exact List.mem_append_right _ (List.mem_append_left _ c)) hn
    -- the rows again
    refine ⟨_, rfl, M, _, _, .ref L, rfl, rfl, SqT.of hM.h1, atI_nat (j := 0) rfl, L, rfl, ⟨_, SqL.of hM.h2⟩, fun L2 nL2 => ?_⟩
    refine lc_it (walk_list (xs := ds.map V.ref)) (fun i H' => Ext H H' ∧ ∃ ds', H' L2 = some (.lst (ds'.map V.ref)) ∧ RowsAt H' ds' (rows.take i) ∧ ds'.Nodup ∧ (∀ d ∈ ds', H d = none)) ⟨Ext.new nL2, [], upd_same, .nil, List.nodup_nil, fun d h => nomatch h⟩ (fun i H' _ h => SqL.of (h.1 _ _ hM.h2)) ?_ ?_
    · rintro i x H1' H1 hi ⟨x1, ds', l1, w1, nd1, f1⟩ ⟨rfl, hx⟩
      obtain ⟨d, hd, rfl⟩ := at_map hx
      obtain ⟨r, hri, es, he1, he2⟩ := hM.h3.at_ hd
      have hil : i < rows.length := (List.getElem?_eq_some_iff.mp hri).1
      refine ⟨rfl, _, rfl, d, _, rfl, Rd.of (x1 _ _ he1), fun p np => ?_⟩
      have xp : Ext H1 (upd H1 p (.dK (kvsOf es))) := Ext.new np
      have lp1 := xp _ _ l1
      have w2 := w1.ext xp
      have ld : ds'.length = i := by
        rw [w1.len, List.length_take]
        omega
      refine ⟨_, lp1, by rw [List.length_map]; exact small_list (by omega), fun b' o e => by rw [upd_ne (ne_of_none e nL2)]; exact xp _ _ (x1 _ _ e), ds' ++ [p], by rw [upd_same, List.map_append]; rfl, ?_, ?_, fun d' hd' => ?_⟩
      · rw [take_more hri]
        refine RowsAt.snoc ?_ ?_
        · refine RowAt.same (H := upd H1 p (.dK (kvsOf es))) ⟨es, upd_same, he2.ext fun t xs e => xp _ _ (x1 _ _ e)⟩ (upd_ne (fun e => by rw [e, l1] at np; cases np)) fun t xs e => ?_
          rw [upd_ne (ne_of e lp1 (by intro q; cases q))]
          exact e
        · refine w2.keepN Keep.at_ (fun xs e => by rw [lp1] at e; cases e) fun hm => ?_
          obtain ⟨kvs, e⟩ := w2.mem hm
          rw [lp1] at e
          cases e
      · refine List.nodup_append.mpr ⟨nd1, by simp, fun p1 hp1 q hq e => ?_⟩
        obtain ⟨kvs, e'⟩ := w1.mem hp1
        rw [e, List.mem_singleton.mp hq, np] at e'
        cases e'
      · rcases List.mem_append.mp hd' with c | c
        · exact f1 d' c
        · rw [List.mem_singleton.mp c]
          exact x1.free np
    rintro H1 ⟨x1, ds', l1, w1, nd1, f1⟩
    rw [List.length_map, hM.h3.len, List.take_length] at w1
    have ld : ds'.length = rows.length := w1.len
    have hM1 := hM.ext x1
    -- the ends, the start; the three names
    refine ⟨_, rfl, M, _, _, .ref En, rfl, rfl, SqT.of hM1.h1, atI_nat (j := 1) rfl, En, _, rfl, .inl (SqL.of hM1.h5), fun S2 nS2 => ?_⟩
    have xS : Ext H1 (upd H1 S2 (.lst (ns.map V.int))) := Ext.new nS2
    have s2 : (upd H1 S2 (.lst (ns.map V.int))) S2 = some (.lst (ns.map V.int)) := upd_same
    have nSL : S2 ≠ L2 := fun e => by
      rw [e, l1] at nS2
      cases nS2
    have nSd : ∀ d ∈ ds', S2 ≠ d := fun d hd e => by
      obtain ⟨kvs, e'⟩ := w1.mem hd
      rw [← e, nS2] at e'
      cases e'
    generalize upd H1 S2 (.lst (ns.map V.int)) = H2 at xS s2 ⊢
    have hM2 := hM1.ext xS
    refine ⟨_, rfl, M, _, _, .int b, rfl, rfl, SqT.of hM2.h1, atI_nat (j := 2) rfl, by show 3 ≤ sizeLine; decide, fun T nT => ?_⟩
    have xT : Ext H2 (upd H2 T (.tup [.ref L2, .ref S2, .int b])) := Ext.new nT
    have tT : (upd H2 T (.tup [.ref L2, .ref S2, .int b])) T = some (.tup [.ref L2, .ref S2, .int b]) := upd_same
    generalize upd H2 T (.tup [.ref L2, .ref S2, .int b]) = H3 at xT tT ⊢
    refine ⟨T, _, rfl, SqT.of tT, rfl, _, _, rfl, _, _, rfl, _, _, rfl, rfl, ?_⟩
    have x3 : Ext H H3 := (x1.trans xS).trans xT
    have r3 := hR.ext x3
    have l3 := xT _ _ (xS _ _ l1)
    have s3 := xT _ _ s2
    have w3 := (w1.ext xS).ext xT
    have nL2a : L2 ≠ a := hR.new nL2
    have nS2a : S2 ≠ a := (hR.ext x1).new nS2
    have nda : ∀ d ∈ ds', d ≠ a := fun d hd => hR.new (f1 d hd)
    -- _law_way, _law_at
    refine ⟨_, rfl, a, 5, rfl, r3, by decide, by decide, fun way H4 wy0 wy1 r4 k4 => ?_⟩
    have l4 := k4 _ _ l3 nL2a
    refine ⟨_, rfl, _, rfl, L2, _, rfl, .inl (SqL.of l4), a, _, rfl, r4, by rw [List.length_map]; omega, by rw [List.length_map]; omega, fun d0 H5 e0 e1 r5 k5 => ?_⟩
    rw [List.length_map, ld] at e1
    obtain ⟨j, rfl⟩ : ∃ j : Nat, d0 = (j : Int) := ⟨d0.toNat, by omega⟩
    refine ⟨by show 2 ≤ sizeLine; decide, fun T2 nT2 => ?_⟩
    have x6 : Ext H5 (upd H5 T2 (.tup [.int way, .int (j : Nat)])) := Ext.new nT2
    have t6 : (upd H5 T2 (.tup [.int way, .int (j : Nat)])) T2 = some (.tup [.int way, .int (j : Nat)]) := upd_same
    generalize upd H5 T2 (.tup [.int way, .int (j : Nat)]) = H6 at x6 t6 ⊢
    refine ⟨T2, _, rfl, SqT.of t6, rfl, _, _, rfl, _, _, rfl, rfl, ?_⟩
    have k36 : Keep a H3 H6 := (k4.trans k5).trans (Keep.of x6)
    have r6 := r5.ext x6
    have l6 := k36 _ _ l3 nL2a
    have s6 := k36 _ _ s3 nS2a
    have w6 : RowsAt H6 ds' rows := w3.keepN k36 r3.notup fun hm => nda a hm rfl
    have k06 : Keep a H H6 := (Keep.of x3).trans k36
    have hj : j < ds'.length := by omega
    have hdj : ds'[j]? = some ds'[j] := List.getElem?_eq_getElem hj
    have hjm := List.getElem_mem hj
    obtain ⟨r, hrj, es, hd, he⟩ := w6.at_ hdj
    have hrm := List.mem_of_getElem? hrj
    have okr := ok.rw_ r hrm
    have rl6 := row_len okr phi
    have hat : atI (ds'.map V.ref) (j : Int) = some (.ref ds'[j]) := atI_nat (by rw [List.getElem?_map, hdj]; rfl)
    have nde : (es.map (·.1)).Nodup := by
      rw [he.keys]
      exact okr.1
    have kes : (kvsOf es).map (·.1) = (es.map (·.1)).map Sum.inr := by
      unfold kvsOf
      rw [List.map_map, List.map_map]
      rfl
    have lkv : (kvsOf es).length = es.length := by
      unfold kvsOf
      rw [List.length_map]
    -- the end
    have fin : ∀ (H8 : Hp) (v7 : Option V) (ds8 : List Addr) (rows8 : List Rw) (S8 : Addr) (ns8 : List Int) (b8 : Int), Keep a H H8 → H8 L2 = some (.lst (ds8.map V.ref)) → RowsAt H8 ds8 rows8 → ds8.Nodup → H8 S8 = some (.lst (ns8.map V.int)) → okModel 5 paper (tells ++ (marks ++ [zz])) rows8 ns8 b8 →
        tRet (tTup (tCons (tVar 2) (tCons (tVar 3) (tCons (tVar 4) tNil)))) { nx := fun _ H' => Q .non H', rt := Q } [some (.ref a), some (.ref M), some (.ref L2), some (.ref S8), some (.int b8), some (.int way), some (.int (j : Nat)), v7, none, none] H8 := by
      intro H8 v7 ds8 rows8 S8 ns8 b8 k8 l8 w8 nd8 s8 ok8
      refine ⟨_, rfl, _, rfl, _, rfl, by show 3 ≤ sizeLine; decide, fun M' nM' => ?_⟩
      have x9 : Ext H8 (upd H8 M' (.tup [.ref L2, .ref S8, .int b8])) := Ext.new nM'
      refine k _ M' L2 S8 ds8 rows8 ns8 b8 (k8.trans (Keep.of x9)) ⟨upd_same, x9 _ _ l8, w8.ext x9, nd8, x9 _ _ s8⟩ (ok_md ok8 (by decide) phi dr.pin tl2 dr.tin (by rw [List.length_append]; show marks.length + 1 ≤ 6; omega) fun z hz => ?_)
      rcases List.mem_append.mp hz with c | c
      · exact dr.min z c
      · rw [List.mem_singleton.mp c]
        exact zz_mark
    have okAll : ∀ {rows8 : List Rw} {ns8 : List Int} {b8 : Int}, rows8.length = rows.length → (∀ r ∈ rows8, rowOver paper (tells ++ (marks ++ [zz])) rows.length r) → ns8.Nodup → ns8.length ≤ 5 → (∀ i ∈ ns8, 0 ≤ i ∧ i < rows.length) → 0 ≤ b8 → b8 < rows.length → okModel 5 paper (tells ++ (marks ++ [zz])) rows8 ns8 b8 := fun {rows8 ns8 b8} e h1 h2 h3 h4 h5 h6 =>
      ⟨by omega, by omega, by rw [e]; exact h1, h2, h3, by rw [e]; exact h4, h5, by rw [e]; exact h6⟩
    have okSame : okModel 5 paper (tells ++ (marks ++ [zz])) rows ns b := okAll rfl (fun r hr => ok5 r hr _ (Int.le_refl _)) ok.nd (by have := ok.len; omega) ok.inn ok.b0 ok.b1
    -- one row changed
    have rowCh : ∀ (H7 H8 : Hp) (v7 : Option V) (es' : List (Str × Addr)) (r' : Rw), Keep a H6 H7 → H8 = upd H7 ds'[j] (.dK (kvsOf es')) → Ents H7 es' r' → rowOver paper (tells ++ (marks ++ [zz])) rows.length r' →
        tRet (tTup (tCons (tVar 2) (tCons (tVar 3) (tCons (tVar 4) tNil)))) { nx := fun _ H' => Q .non H', rt := Q } [some (.ref a), some (.ref M), some (.ref L2), some (.ref S2), some (.int b), some (.int way), some (.int (j : Nat)), v7, none, none] H8 := by
      intro H7 H8 v7 es' r' k7 e8 en ok7
      have d7 := k7 _ _ hd (nda _ hjm)
      have l7 := k7 _ _ l6 nL2a
      have s7 := k7 _ _ s6 nS2a
      have w7 : RowsAt H7 ds' rows := w6.keepN k7 r6.notup fun hm => nda a hm rfl
      subst e8
      refine fin _ v7 ds' (rows.set j r') S2 ns b (fun b' o e nb => ?_) ?_ ?_ nd1 ?_ (okAll (by rw [List.length_set]) (fun r0 hr0 => ?_) ok.nd (by have := ok.len; omega) ok.inn ok.b0 ok.b1)
      · rw [upd_ne (fun q => by have := f1 _ hjm; rw [← q, e] at this; cases this)]
        exact k7 _ _ (k06 _ _ e nb) nb
      · rw [upd_ne (ne_of l7 d7 (by intro q; cases q))]
        exact l7
      · refine RowsAt.set (H := H7) (d := ds'[j]) (fun t xs e => ?_) (fun b' nb kvs e => ?_) ⟨es', upd_same, en.ext fun t xs e => ?_⟩ w7 nd1 hdj
        · rw [upd_ne (ne_of e d7 (by intro q; cases q))]
          exact e
        · rw [upd_ne nb]
          exact e
        · rw [upd_ne (ne_of e d7 (by intro q; cases q))]
          exact e
      · rw [upd_ne (ne_of s7 d7 (by intro q; cases q))]
        exact s7
      · rcases List.mem_or_eq_of_mem_set hr0 with c | c
        · exact ok5 r0 c _ (Int.le_refl _)
        · rw [c]
          exact ok7
    -- the row is not empty: what is asked of it
    have pick : ∀ (H7 : Hp) (Q0 : VK), Ext H6 H7 → (kvsOf es).length ≠ 0 → (∀ (z : Str) (t : Addr) (m : Mv) (H9 : Hp), z ∈ es.map (·.1) → (z, t) ∈ es → (z, m) ∈ r → MvAt H6 t m → Rng H9 a → Keep a H7 H9 → Q0 (.str z) H9) →
        ∀ (ys : List Str) (Ls : Addr), ys.Perm (es.map (·.1)) → H7 Ls = none → spChoice [.ref a, .ref Ls] (upd H7 Ls (.lst (ys.map V.str))) Q0 (fun _ _ _ => False) := by
      intro H7 Q0 x7 ne q ys Ls pm nLs
      have r7 := r6.ext x7
      have ly : ys.length = es.length := by rw [pm.length_eq, List.length_map]
      refine ⟨a, Ls, _, rfl, r7.upd (r7.new nLs), upd_same, r7.new nLs, by rw [List.length_map, ly, ← lkv]; omega, by rw [List.length_map, ly, he.len]; omega, fun i v H9 hv r9 k9 => ?_⟩
      obtain ⟨z, hz, rfl⟩ := at_map hv
      have hzm := pm.mem_iff.mp (List.mem_of_getElem? hz)
      obtain ⟨t, m, m1, m2, m3⟩ := he.mem hzm
      exact q z t m H9 hzm m1 m2 m3 r9 ((Keep.of (Ext.new nLs)).trans k9)
    refine ⟨_, rfl, rfl, _, rfl, ?_⟩
    refine ifAndH H6 (fun H7 x7 => ?_) fun c0 hB => ?_
    · refine ⟨_, rfl, rfl, _, rfl, ?_⟩
      refine ifAndH H7 (fun H8 x8 => ?_) fun c0 hB => ?_
      · have x68 := x7.trans x8
        have l8 := x68 _ _ l6
        have s8 := x68 _ _ s6
        have w8 := w6.ext x68
        have k08 : Keep a H H8 := k06.trans (Keep.of x68)
        refine ⟨_, rfl, rfl, _, rfl, ?_⟩
        refine ite2 (fun c2 => ?_) (fun c2 => ?_)
        · -- other ends
          refine ⟨_, rfl, L2, _, rfl, .inl (SqL.of l8), (ds'.map V.ref).length, rfl, by rw [List.length_map]; omega, by rw [List.length_map]; omega, fun D nD => ?_⟩
          have hn : (ds'.map V.ref).length = rows.length := by rw [List.length_map, ld]
          refine lc_range (n := (ds'.map V.ref).length) (fun i H' => Ext H8 H' ∧ ∃ l : List Int, H' D = some (.lst (l.map V.int)) ∧ l.Nodup ∧ l.length ≤ i ∧ ∀ x ∈ l, 0 ≤ x ∧ x < (i : Int)) ⟨Ext.new nD, [], upd_same, List.nodup_nil, Nat.le_refl _, fun x h => nomatch h⟩ ?_ ?_
          · rintro i H9 hi ⟨x9, l, hl, nd, ll, bd⟩
            refine ⟨rfl, _, rfl, _, rfl, S2, ns.map V.int, rfl, .inl (SqL.of (x9 _ _ s8)), rfl, List.all_eq_true.mpr (fun v hv => by obtain ⟨i, _, rfl⟩ := List.mem_map.mp hv; rfl), _, rfl, _, rfl, rfl, rfl, _, rfl, ?_⟩
            refine ite2 (fun c3 => ?_) (fun c3 => ?_)
            · refine ⟨_, rfl, _, hl, by rw [List.length_map]; exact small_list (by omega), fun b' o e => by rw [upd_ne (ne_of_none e nD)]; exact x9 _ _ e, l ++ [(i : Int)], by rw [upd_same, List.map_append, Int.zero_add]; rfl, ?_, by rw [List.length_append]; show l.length + 1 ≤ i + 1; omega, fun x hx => ?_⟩
              · refine List.nodup_append.mpr ⟨nd, by simp, fun p hp q hq e => ?_⟩
                have h1 := (bd p hp).2
                rw [e, List.mem_singleton.mp hq] at h1
                omega
              · rcases List.mem_append.mp hx with c | c
                · have := bd x c
                  omega
                · rw [List.mem_singleton.mp c]
                  omega
            · exact ⟨x9, l, hl, nd, by omega, fun x hx => by have := bd x hx; omega⟩
          · rintro H9 ⟨x9, l, hl, nd, ll, bd⟩
            rw [hn] at ll bd
            exact fin H9 _ ds' rows D l b (k08.trans (Keep.of x9)) (x9 _ _ l8) (w8.ext x9) nd1 hl (okAll rfl (fun r hr => ok5 r hr _ (Int.le_refl _)) nd (by omega) bd ok.b0 ok.b1)
        · refine ⟨_, rfl, rfl, _, rfl, ?_⟩
          refine ite2 (fun c3 => ?_) (fun c3 => ?_)
          · exact ⟨_, rfl, fin H8 _ ds' rows S2 ns (j : Nat) k08 l8 w8 nd1 s8 (okAll rfl (fun r hr => ok5 r hr _ (Int.le_refl _)) ok.nd (by have := ok.len; omega) ok.inn (by omega) (by omega))⟩
          · refine ⟨_, rfl, rfl, _, rfl, ?_⟩
            refine ite2 (fun c4 => ?_) (fun c4 => fin H8 _ ds' rows S2 ns b k08 l8 w8 nd1 s8 okSame)
            refine ⟨_, rfl, .inl ⟨rfl, _, SqL.of l8⟩, fun p np => ?_⟩
            have xp := Ext.new np (o := .dK [])
            have dp : (upd H8 p (.dK [])) p = some (.dK []) := upd_same
            generalize upd H8 p (.dK []) = H9 at xp dp ⊢
            have l9 := xp _ _ l8
            have npL : p ≠ L2 := ne_of dp l9 (by intro q; cases q)
            refine ⟨L2, _, _, rfl, rfl, l9, by rw [List.length_map]; exact small_list (by omega), ?_⟩
            have w9 := w8.ext xp
            refine fin _ _ (ds' ++ [p]) (rows ++ [[]]) S2 ns b (fun b' o e nb => ?_) ?_ ?_ ?_ ?_ ?_
            · rw [upd_ne (ne_of_none e nL2)]
              exact xp _ _ (k08 _ _ e nb)
            · rw [upd_same, List.map_append]
              rfl
            · refine RowsAt.snoc ⟨[], by rw [upd_ne npL]; exact dp, .nil⟩ ?_
              refine w9.keepN Keep.at_ (fun xs e => by rw [l9] at e; cases e) fun hm => ?_
              obtain ⟨kvs, e⟩ := w9.mem hm
              rw [l9] at e
              cases e
            · refine List.nodup_append.mpr ⟨nd1, by simp, fun p1 hp1 q hq e => ?_⟩
              obtain ⟨kvs, e'⟩ := w8.mem hp1
              rw [e, List.mem_singleton.mp hq, np] at e'
              cases e'
            · have s9 := xp _ _ s8
              rw [upd_ne (fun q => nSL q)]
              exact s9
            · have l1 : (rows ++ [[]]).length = rows.length + 1 := by rw [List.length_append]; rfl
              refine ⟨by omega, by omega, fun r0 hr0 => ?_, ok.nd, by have := ok.len; omega, fun i hi => ?_, ok.b0, ?_⟩
              · rw [l1]
                rcases List.mem_append.mp hr0 with c | c
                · exact ok5 r0 c _ (by omega)
                · rw [List.mem_singleton.mp c]
                  exact ⟨List.nodup_nil, fun e he => nomatch he⟩
              · have := ok.inn i hi
                omega
              · have := ok.b1
                omega
      · -- a move left out
        have l7 := x7 _ _ l6
        have d7 := x7 _ _ hd
        refine ⟨_, rfl, _, rfl, L2, _, _, _, rfl, rfl, SqL.of l7, hat, fun p np => ?_⟩
        have xp := Ext.new np (o := .dK [])
        have dp : (upd H7 p (.dK [])) p = some (.dK []) := upd_same
        generalize upd H7 p (.dK []) = H8 at xp dp ⊢
        have x68 := x7.trans xp
        have l8 := x68 _ _ l6
        have d8 := x68 _ _ hd
        refine ⟨_, p, _, rfl, rfl, d8, dp, _, rfl, ?_⟩
        refine ite2 (fun c1 => ?_) (fun c1 => hB _ xp)
        have ne : (kvsOf es).length ≠ 0 := fun e => by
          rw [decide_eq_true e] at c1
          cases c1
        refine ⟨_, rfl, _, rfl, L2, _, _, _, rfl, rfl, SqL.of l8, hat, ds'[j], rfl, .inl ⟨_, Rd.of d8⟩, _, rfl, _, rfl, _, rfl, L2, _, _, _, rfl, rfl, SqL.of l8, hat, ds'[j], kvsOf es, es.map (·.1), rfl, Rd.of d8, kes, by rw [List.length_map, he.len]; omega, fun ys Ls pm so nLs => ?_⟩
        refine pick H8 _ x68 ne (fun z t m H9 hz m1 m2 m3 r9 k9 => ?_) ys Ls pm nLs
        have k69 : Keep a H6 H9 := (Keep.of x68).trans k9
        refine ⟨kvsOf es, Sum.inr z, .ref t, k69 _ _ hd (nda _ hjm), rfl, val_at nde m1, ?_⟩
        rw [drop_kvs]
        refine rowCh H9 _ _ _ _ k69 rfl (he.drop.ext fun t xs e => k69 _ _ e fun q => r6.notup _ (by rw [← q]; exact e)) ?_
        exact (ok5 r hrm _ (Int.le_refl _)).drop
    · -- a move told otherwise
      refine ⟨_, rfl, _, rfl, L2, _, _, _, rfl, rfl, SqL.of l6, hat, fun p np => ?_⟩
      have xp := Ext.new np (o := .dK [])
      have dp : (upd H6 p (.dK [])) p = some (.dK []) := upd_same
      generalize upd H6 p (.dK []) = H8 at xp dp ⊢
      have l8 := xp _ _ l6
      have d8 := xp _ _ hd
      refine ⟨_, p, _, rfl, rfl, d8, dp, _, rfl, ?_⟩
      refine ite2 (fun c1 => ?_) (fun c1 => hB _ xp)
      have ne : (kvsOf es).length ≠ 0 := fun e => by
        rw [decide_eq_true e] at c1
        cases c1
      refine ⟨_, rfl, _, rfl, _, rfl, L2, _, _, _, rfl, rfl, SqL.of l8, hat, ds'[j], kvsOf es, es.map (·.1), rfl, Rd.of d8, kes, by rw [List.length_map, he.len]; omega, fun ys Ls pm so nLs => ?_⟩
      refine pick H8 _ xp ne (fun z t m H9 hz m1 m2 m3 r9 k9 => ?_) ys Ls pm nLs
      have k69 : Keep a H6 H9 := (Keep.of xp).trans k9
      have l9 := k69 _ _ l6 nL2a
      have d9 := k69 _ _ hd (nda _ hjm)
      have m9 : MvAt H9 t m := k69 _ _ m3 fun q => r6.notup _ (by rw [← q]; exact m3)
      have hg : DGet H9 ds'[j] (V.str z) (some (.ref t)) := by
        rw [← val_at nde m1]
        exact DGet.k (k := Sum.inr z) d9
      have okm := (okr.2 _ m2).2
      refine ⟨_, rfl, _, rfl, L2, _, _, _, rfl, rfl, SqL.of l9, hat, _, rfl, ds'[j], _, rfl, hg, t, _, _, .int m.1, rfl, rfl, SqT.of m9, atI_nat (j := 0) rfl, by show 2 ≤ sizeLine; decide, fun T3 nT3 => ?_⟩
      have xT3 : Ext H9 (upd H9 T3 (.tup [.int m.1, .str "zzzz"])) := Ext.new nT3
      have hT3 : MvAt (upd H9 T3 (.tup [.int m.1, .str "zzzz"])) T3 (m.1, some zz) := upd_same
      generalize upd H9 T3 (.tup [.int m.1, .str "zzzz"]) = H10 at xT3 hT3 ⊢
      have k610 : Keep a H6 H10 := k69.trans (Keep.of xT3)
      refine ⟨_, rfl, _, rfl, L2, _, _, _, rfl, rfl, SqL.of (xT3 _ _ l9), hat, _, rfl, ds'[j], _, rfl, DPut.k (k := Sum.inr z) (xT3 _ _ d9) (by rw [lkv, he.len]; exact small_list (by omega)), ?_⟩
      rw [put_kvs]
      refine rowCh H10 _ _ _ _ k610 rfl ((he.ext fun t xs e => k610 _ _ e fun q => r6.notup _ (by rw [← q]; exact e)).put hT3) ?_
      refine (ok5 r hrm _ (Int.le_refl _)).put (okr.2 _ m2).1 ⟨okm.1, fun y hy => ?_⟩
      injection hy with hy
      rw [← hy]
      exact List.mem_append_right _ (List.mem_append_right _ (List.mem_singleton.mpr rfl))
end
end Sl
/-! ## Z1 -/
set_option Elab.async false
set_option linter.all false
set_option maxRecDepth 100000
set_option maxHeartbeats 4000000
/-! what a reader tells of itself: start, ends, names, its length, whether a value is in it; rows -/
namespace Sl
open PySem PySem.Spec PyProof.Rows L2 TxS
abbrev sPaperM : Stmt := inClass (top 22) 9
abbrev sTextsM : Stmt := inClass (top 22) 10
abbrev sMarksM : Stmt := inClass (top 22) 11
abbrev sLenR : Stmt := inClass (top 22) 12
abbrev sHasM : Stmt := inClass (top 22) 13
theorem ReaderX.ext {C : Addr} {H H' : Hp} {p : Addr} {rows : List Rw} {ends : List Int} {b : Int} {ys ts : List Str} (x : Ext H H') (h : ReaderX C H p rows ends b ys ts) : ReaderX C H' p rows ends b ys ts := by
  obtain ⟨dx, fs, L, ds, Te, M, a1, a2, a3, a4, a5, a6, a7, a8, a9, a10, a11, a12, a13⟩ := h.ex
  exact ⟨dx, fs, L, ds, Te, M, x _ _ a1, a2, x _ _ a3, a4.ext x, a5, x _ _ a6, a7, a8, a9, a10, x _ _ a11, a12, a13⟩
def spStart (C : Addr) : Sp := fun vs H Q _ => ∃ (p : Addr) (rows : List Rw) (ends : List Int) (b : Int), vs = [.ref p] ∧ ReaderAt C H p rows ends b ∧ Q (.int b) H
def spEnds (C : Addr) : Sp := fun vs H Q _ => ∃ (p : Addr) (rows : List Rw) (ends : List Int) (b : Int), vs = [.ref p] ∧ ReaderAt C H p rows ends b ∧ ∀ Te, H Te = some (.tup (ends.map V.int)) → Q (.ref Te) H
def spLenR (C : Addr) : Sp := fun vs H Q _ => ∃ (p : Addr) (rows : List Rw) (ends : List Int) (b : Int), vs = [.ref p] ∧ ReaderAt C H p rows ends b ∧ Q (.int (rows.length : Nat)) H
def spHas (K : PySem.W.Frag) (C : Addr) : Sp := fun vs H Q _ => ∃ (p : Addr) (x : V) (rows : List Rw) (ends : List Int) (b : Int), vs = [.ref p, x] ∧ ReaderAt C H p rows ends b ∧ Val K H x ∧ Q (.bl (below x rows.length)) H
def spPaper (C : Addr) : Sp := fun vs H Q _ => ∃ (p : Addr) (rows : List Rw) (ends : List Int) (b : Int) (ys ts : List Str), vs = [.ref p] ∧ ReaderX C H p rows ends b ys ts ∧ Q (.str (Txt.join "" ys)) H
def spTextsM (C : Addr) : Sp := fun vs H Q _ => ∃ (p : Addr) (rows : List Rw) (ends : List Int) (b : Int) (ys ts : List Str), vs = [.ref p] ∧ ReaderX C H p rows ends b ys ts ∧ Q (.str (Txt.join "" (ts.filter signS))) H
def spMarksM (C : Addr) : Sp := fun vs H Q _ => ∃ (p : Addr) (rows : List Rw) (ends : List Int) (b : Int) (ys ts : List Str), vs = [.ref p] ∧ ReaderX C H p rows ends b ys ts ∧ ∀ l, H l = none → Q (.ref l) (upd H l (.lst ((ts.filter markS).map V.str)))
section
variable {P : Program} {w : World} {K : PySem.W.Frag} {mg : Str → Option Value} {base : Heap}
theorem scStart : FnScope ["self"] ["self"] (defScope sStart) := ⟨rfl, rfl, rfl, by decide +kernel, rfl, by decide +kernel, by decide +kernel⟩
theorem ok_start {f C : Addr} {fd : FuncData} (F : Fun K "start" "Reader.start" sStart f fd) (T : RdC K C) : FnOk P w K mg base CX0 1 f fd ["self"] (spStart C) := by
  refine F.ok scStart (fun vs H Q E h => ?_) (fun cdv A0 outer s H vs Q E hr h => ?_)
  · obtain ⟨p, rows, ends, b, rfl, _⟩ := h
    rfl
  · obtain ⟨p, rows, ends, b, rfl, RA, q⟩ := h
    obtain ⟨dx, fs, L, ds, Te, a1, a2, a3, a4, a5, a6, a7, a8⟩ := RA.ex
    exact ⟨_, pss_one (ps_ret (pe_fld (pv 0) rfl)), _, rfl, p, C, dx, _, _, rfl, a1, T.cl, T.nB, a7, q⟩
theorem scEnds : FnScope ["self"] ["self"] (defScope sEnds) := ⟨rfl, rfl, rfl, by decide +kernel, rfl, by decide +kernel, by decide +kernel⟩
theorem ok_ends {f C : Addr} {fd : FuncData} (F : Fun K "ends" "Reader.ends" sEnds f fd) (T : RdC K C) : FnOk P w K mg base CX0 1 f fd ["self"] (spEnds C) := by
  refine F.ok scEnds (fun vs H Q E h => ?_) (fun cdv A0 outer s H vs Q E hr h => ?_)
  · obtain ⟨p, rows, ends, b, rfl, _⟩ := h
    rfl
  · obtain ⟨p, rows, ends, b, rfl, RA, q⟩ := h
    obtain ⟨dx, fs, L, ds, Te, a1, a2, a3, a4, a5, a6, a7, a8⟩ := RA.ex
    exact ⟨_, pss_one (ps_ret (pe_fld (pv 0) rfl)), _, rfl, p, C, dx, _, _, rfl, a1, T.cl, T.nE, a5, q Te a6⟩
theorem scPaperM : FnScope ["self"] ["self"] (defScope sPaperM) := ⟨rfl, rfl, rfl, by decide +kernel, rfl, by decide +kernel, by decide +kernel⟩
theorem ok_paper {f C : Addr} {fd : FuncData} (F : Fun K "page_signs" "Reader.page_signs" sPaperM f fd) (T : RdC K C) : FnOk P w K mg base CX0 1 f fd ["self"] (spPaper C) := by
  refine F.ok scPaperM (fun vs H Q E h => ?_) (fun cdv A0 outer s H vs Q E hr h => ?_)
  · obtain ⟨p, rows, ends, b, ys, ts, rfl, _⟩ := h
    rfl
  · obtain ⟨p, rows, ends, b, ys, ts, rfl, RX, q⟩ := h
    obtain ⟨dx, fs, L, ds, Te, M, a1, a2, a3, a4, a5, a6, a7, a8, _⟩ := RX.ex
    exact ⟨_, pss_one (ps_ret (pe_fld (pv 0) rfl)), _, rfl, p, C, dx, _, _, rfl, a1, T.cl, T.nP, a8, q⟩
theorem scTextsM : FnScope ["self"] ["self"] (defScope sTextsM) := ⟨rfl, rfl, rfl, by decide +kernel, rfl, by decide +kernel, by decide +kernel⟩
theorem ok_textsM {f C : Addr} {fd : FuncData} (F : Fun K "text_signs" "Reader.text_signs" sTextsM f fd) (T : RdC K C) : FnOk P w K mg base CX0 1 f fd ["self"] (spTextsM C) := by
  refine F.ok scTextsM (fun vs H Q E h => ?_) (fun cdv A0 outer s H vs Q E hr h => ?_)
  · obtain ⟨p, rows, ends, b, ys, ts, rfl, _⟩ := h
    rfl
  · obtain ⟨p, rows, ends, b, ys, ts, rfl, RX, q⟩ := h
    obtain ⟨dx, fs, L, ds, Te, M, a1, a2, a3, a4, a5, a6, a7, a8, a9, _⟩ := RX.ex
    exact ⟨_, pss_one (ps_ret (pe_fld (pv 0) rfl)), _, rfl, p, C, dx, _, _, rfl, a1, T.cl, T.nT, a9, q⟩
theorem scMarksM : FnScope ["self"] ["self"] (defScope sMarksM) := ⟨rfl, rfl, rfl, by decide +kernel, rfl, by decide +kernel, by decide +kernel⟩
theorem ok_marksM {f C : Addr} {fd : FuncData} (F : Fun K "marks" "Reader.marks" sMarksM f fd) (T : RdC K C) (zl : mg "list" = none) : FnOk P w K mg base CX0 1 f fd ["self"] (spMarksM C) := by
  refine F.ok scMarksM (fun vs H Q E h => ?_) (fun cdv A0 outer s H vs Q E hr h => ?_)
  · obtain ⟨p, rows, ends, b, ys, ts, rfl, _⟩ := h
    rfl
  · obtain ⟨p, rows, ends, b, ys, ts, rfl, RX, q⟩ := h
    obtain ⟨dx, fs, L, ds, Te, M, a1, a2, a3, a4, a5, a6, a7, a8, a9, a10, a11, _⟩ := RX.ex
    exact ⟨_, pss_one (ps_ret (pe_callTy call_list_of (by rfl) zl (by decide +kernel) (pa_cons (pe_fld (pv 0) rfl) pa_nil))), _, rfl, p, C, dx, _, _, rfl, a1, T.cl, T.nM, a10, M, _, rfl, .inl (SqL.of a11), q⟩
theorem scLenR : FnScope ["self"] ["self"] (defScope sLenR) := ⟨rfl, rfl, rfl, by decide +kernel, rfl, by decide +kernel, by decide +kernel⟩
theorem ok_lenR {f C : Addr} {fd : FuncData} (F : Fun K "__len__" "Reader.__len__" sLenR f fd) (T : RdC K C) (zn : mg "len" = none) : FnOk P w K mg base CX0 1 f fd ["self"] (spLenR C) := by
  refine F.ok scLenR (fun vs H Q E h => ?_) (fun cdv A0 outer s H vs Q E hr h => ?_)
  · obtain ⟨p, rows, ends, b, rfl, _⟩ := h
    rfl
  · obtain ⟨p, rows, ends, b, rfl, RA, k⟩ := h
    obtain ⟨dx, fs, L, ds, Te, hp, hst, hL, hrw, _⟩ := RA.ex
    refine ⟨_, pss_one (ps_ret (pe_callB call_len_seq (by rfl) zn PySem.boot_len (pa_cons (pe_fld (pv 0) rfl) pa_nil))), ?_⟩
    refine ⟨_, rfl, p, C, dx, _, _, rfl, hp, T.cl, T.nS, hst, L, _, rfl, .inl (SqL.of hL), ?_⟩
    rw [List.length_map, hrw.len]
    exact k
theorem scHasM : FnScope ["self", "value"] ["self", "value"] (defScope sHasM) := ⟨rfl, rfl, rfl, by decide +kernel, rfl, by decide +kernel, by decide +kernel⟩
theorem ok_hasM {f C fB : Addr} {fd fdB : FuncData} (F : Fun K "__contains__" "Reader.__contains__" sHasM f fd) (T : RdC K C) (aB : At K mg "is_below" fB fdB ["value", "limit"] []) (gB : FnOk P w K mg base CX0 2 fB fdB ["value", "limit"] (spBelow K)) (zn : mg "len" = none) :
    FnOk P w K mg base CX0 3 f fd ["self", "value"] (spHas K C) := by
  refine F.ok scHasM (fun vs H Q E h => ?_) (fun cdv A0 outer s H vs Q E hr h => ?_)
  · obtain ⟨p, x, rows, ends, b, rfl, _⟩ := h
    rfl
  · obtain ⟨p, x, rows, ends, b, rfl, RA, hv, k⟩ := h
    obtain ⟨dx, fs, L, ds, Te, hp, hst, hL, hrw, _⟩ := RA.ex
    refine ⟨_, pss_one (ps_ret (pe_call gB hr (by rfl) aB.g aB.kp aB.b .nil pass0 (pa_cons (pv 1) (pa_cons (pe_callB call_len_seq (by rfl) zn PySem.boot_len (pa_cons (pe_fld (pv 0) rfl) pa_nil)) pa_nil)))), ?_⟩
    refine ⟨_, rfl, _, rfl, p, C, dx, _, _, rfl, hp, T.cl, T.nS, hst, L, _, rfl, .inl (SqL.of hL), x, _, rfl, hv, ?_⟩
    rw [List.length_map, hrw.len]
    exact k
end
end Sl
/-! ## Z2 -/
set_option Elab.async false
set_option linter.all false
set_option maxRecDepth 100000
set_option maxHeartbeats 4000000
/-! a value in an own object -/
namespace Sl
open PySem PySem.Spec PyProof.Rows L2
def rInO (C : Addr) (sp : Sp) : R2 := fun x y H Q => ∃ (a dx : Addr) (fs : List (Str × V)), y = .ref a ∧ H a = some (.ins C dx fs) ∧ sp [.ref a, x] H (fun v H' => ∃ b : Bool, v = .bl b ∧ Q (.bl b) H') fun _ _ _ => False
theorem op_inO {X : Cx} {C g : Addr} {k : Nat} {fd : FuncData} {sp : Sp} (m : L2.Meth X.K C "__contains__" g) (F : FnOk X.prog X.w X.K X.mg X.base CX0 k g fd ["self", "value"] sp) (hr : Room k X.A) (hb : L2.Binds X.K fd ["self", "value"] []) :
    OpR X (compareOp .In) (rInO C sp) := by
  intro pins s σ H x y v u Q I rx ry h
  obtain ⟨a, dx, fs, rfl, e, q⟩ := h
  cases (show u = Value.ref a from ry)
  obtain ⟨mA, O, rr, _, _, _⟩ := ins_get I.hok e
  obtain ⟨od, J, hl⟩ := O.look
  show wpAny _ _ (do return Value.bool (← contains (.ref a) v)) _ _ _
  refine wpAny_bind (m := contains (.ref a) v) ?_
  unfold contains
  refine wpAny_holding ?_
  refine wpAny_bind (m := specialOf (.ref a) (Str.ofString "__contains__")) ?_
  unfold specialOf
  refine wpAny_bind (J.type.here ((PySem.W.looks_findIn I.kIn m.at_).here ?_))
  rw [if_neg (by simp)]
  refine wpAny_bind (m := callSpecialUnlessNone? (.ref a) (Str.ofString "__contains__") [v] _) ?_
  unfold callSpecialUnlessNone? specialOf
  refine wpAny_bind (wpAny_bind (J.type.here ((PySem.W.looks_findIn I.kIn m.at_).here ?_)))
  refine wpAny_holding (wpAny_bind ?_)
  unfold bindSpecial
  refine wpAny_bind ((PySem.W.looks_typeIn I.kIn (beq_iff_eq.mp m.fn)).here ?_)
  rw [if_pos (by decide)]
  refine wpAny_pure ?_
  dsimp only
  rw [if_neg (by simp)]
  refine wpAny_bind (wpAny_call (codeAny_mono (F.run X.A X.stack s H ⟨[.ref a, v], []⟩ [.ref a, v] [.ref a, x] _ _ hr I.env0 (hb s [.ref a, v] I.kIn rfl) (.cons rfl (.cons rx .nil)) q) fun c s' hq => ?_))
  cases c with
  | error er => exact (show False from hq).elim
  | ok fl =>
    cases fl with
    | ret u =>
      obtain ⟨v', H', I', rv, b, rfl, q'⟩ := I.after hq
      obtain rfl : u = Value.bool b := rv
      refine wpAny_pure ?_
      exact wpAny_pure (wpAny_pure ⟨.bl b, H', I', rfl, q'⟩)
    | next => exact hq.elim
    | brk => exact hq.elim
    | cont => exact hq.elim
end Sl
/-! ## Z3 -/
set_option Elab.async false
set_option linter.all false
set_option maxRecDepth 100000
set_option maxHeartbeats 4000000
/-! len of an own object; what is told of a reader, as data; names that are signs or marks -/
namespace Sl
open PySem PySem.Spec PyProof.Rows L2 TxS
def rLenO (C : Addr) (sp : Sp) : List V → Hp → VK → Prop := fun xs H Q => ∃ (a dx : Addr) (fs : List (Str × V)), xs = [.ref a] ∧ H a = some (.ins C dx fs) ∧ sp [.ref a] H (fun v H' => ∃ n : Nat, v = .int (n : Nat) ∧ n < 2 ^ 62 ∧ Q (.int (n : Nat)) H') (fun _ _ _ => False)
theorem env0_in1' {P : Program} {w : World} {K : PySem.W.Frag} {mg : Str → Option Value} {base : Heap} {A : Around} {outer : List Env} {s : Shared} {H : Hp} (e : Env0 P w K mg base A outer s H) : Env0 P w K mg base A.in1 outer s H :=
  ⟨e.frames, e.mod, e.bs, e.bsz, e.funs, e.frf, e.hok, e.bare⟩
theorem call_lenO {X : Cx} {C g : Addr} {k : Nat} {fd : FuncData} {sp : Sp} (m : L2.Meth X.K C "__len__" g) (F : FnOk X.prog X.w X.K X.mg X.base CX0 k g fd ["self"] sp) (hr : Room (k + 1) X.A) (hb : L2.Binds X.K fd ["self"] []) : CallR X (.builtin "len") (rLenO C sp) := by
  intro pins s σ H xs us Q I r h
  obtain ⟨a, dx, fs, rfl, e, q⟩ := h
  obtain rfl := Vals.ref1 r
  obtain ⟨mA, O, rr, _, _, _⟩ := ins_get I.hok e
  obtain ⟨od, J, hl⟩ := O.look
  refine Calls.call_function_entry kind_len plain_len entry_len (args_len1 _) ?_
  unfold Builtin.«len»
  refine wpAny_bind (m := oneArg "len" _) (wpAny_pure ?_)
  refine wpAny_bind (m := callSpecial? (.ref a) (Str.ofString "__len__")) ?_
  unfold callSpecial? specialOf
  refine wpAny_bind (wpAny_bind (J.type.here ((PySem.W.looks_findIn I.kIn m.at_).here ?_)))
  refine wpAny_holding (wpAny_bind ?_)
  unfold bindSpecial
  refine wpAny_bind ((PySem.W.looks_typeIn I.kIn (beq_iff_eq.mp m.fn)).here ?_)
  rw [if_pos (by decide)]
  refine wpAny_pure (wpAny_bind ?_)
  refine wpAny_call (codeAny_mono (F.run X.A.in1 X.stack s H ⟨[.ref a], []⟩ [.ref a] [.ref a] _ _ hr.in1 (env0_in1' I.env0) (hb s [.ref a] I.kIn rfl) (.cons rfl .nil) q) fun c s' hq => ?_)
  cases c with
  | error er => exact (show False from hq).elim
  | ok fl =>
    cases fl with
    | ret u =>
      obtain ⟨v, H', I', rv, n, rfl, hn, q'⟩ := I.after hq
      obtain ⟨t, rfl⟩ := rv
      refine wpAny_pure ?_
      refine wpAny_bind (wpAny_holding (wpAny_pure ?_))
      refine wpAny_bind (wpAny_letGo ?_)
      show wpAny _ _ (if ((n : Nat) : Int) < 0 then _ else _) _ _ _
      rw [if_neg (by omega)]
      show wpAny _ _ (if ((n : Nat) : Int) ≥ 2 ^ 63 then _ else _) _ _ _
      rw [if_neg (by omega)]
      exact wpAny_bind (wpAny_mkInt (wpAny_pure ⟨_, rfl, .int (n : Nat), H', I'.tok _, ⟨_, rfl⟩, q'⟩))
    | next => exact hq.elim
    | brk => exact hq.elim
    | cont => exact hq.elim
def rLenS : List V → Hp → VK → Prop := fun xs H Q => ∃ z, xs = [.str z] ∧ z.length ≤ sizeLine ∧ Q (.int z.length) H
theorem word_ok {z : Str} (h : isWordS z = true) : PyData.strOk z = true := by
  unfold PyData.strOk
  rw [← Array.all_toList, List.all_eq_true]
  intro c hc
  have k := List.all_eq_true.mp h c hc
  unfold lowC at k
  simp only [Bool.and_eq_true, decide_eq_true_eq] at k ⊢
  omega
theorem name_ok {z : Str} (h : nameS z = true) : PyData.strOk z = true := by
  unfold nameS at h
  simp only [Bool.and_eq_true] at h
  first
    | exact word_ok h.1
    | exact word_ok h.1.1
def strsD (l : List Str) : PyData := .list (l.map PyData.str)
theorem strs_dp {K : PySem.W.Frag} {H : Hp} : ∀ l : List Str, DpAll K H (l.map V.str) (l.map PyData.str)
  | [] => .nil
  | i :: ns => .cons (.str i) (strs_dp ns)
theorem strs_can : ∀ {l : List Str}, (∀ z ∈ l, nameS z = true) → PyData.canLayAll0 (l.map PyData.str) = true ∧ PyData.depthAll (l.map PyData.str) ≤ 2
  | [], _ => ⟨rfl, by simp [PyData.depthAll]⟩
  | z :: l, h => by
    obtain ⟨k1, k2⟩ := strs_can fun y hy => h y (List.mem_cons_of_mem _ hy)
    refine ⟨?_, ?_⟩
    · show (PyData.canLay0 (.str z) && PyData.canLayAll0 (l.map PyData.str)) = true
      rw [k1, Bool.and_true]
      simpa [PyData.canLay0] using name_ok (h z List.mem_cons_self)
    · simp only [List.map_cons, PyData.depthAll, PyData.depth]
      omega
theorem strs_shaped {l : List Str} (h : ∀ z ∈ l, nameS z = true) : SeqAt.shaped (strsD l) = true ∧ PyData.eqv (strsD l) (strsD l) = true := by
  obtain ⟨k1, k2⟩ := strs_can h
  have c0 : PyData.canLay0 (strsD l) = true := by
    show PyData.canLay0 (.list (l.map PyData.str)) = true
    rw [PyData.canLay0]
    exact k1
  refine ⟨?_, SeqAt.eqv_refl _ c0⟩
  show (PyData.canLay0 _ && decide _) = true
  rw [c0, Bool.true_and, decide_eq_true_eq]
  simp only [strsD, PyData.depth]
  omega
/-! ### names -/
theorem gath_perm {a b S : List Str} (g : Gath a S) (h : Gath b S) : a.Perm b :=
  perm_of_all h.1 (fun k hk => (g.2 k).mpr ((h.2 k).mp hk)) (Nat.le_antisymm (len_le g.1 fun z hz => (h.2 z).mpr ((g.2 z).mp hz)) (len_le h.1 fun z hz => (g.2 z).mpr ((h.2 z).mp hz)))
theorem told_names {n : Int} {rows : List Rw} (h : ∀ r ∈ rows, okRow n r) : ∀ z ∈ toldsOf rows, nameS z = true ∧ z.length ≤ 8 := fun z hz => by
  unfold toldsOf at hz
  obtain ⟨r, hr, h2⟩ := List.mem_flatMap.mp hz
  obtain ⟨e, he, h3⟩ := List.mem_filterMap.mp h2
  exact (h r hr e he).2.2 z h3
theorem sign_len {z : Str} (h : nameS z = true) : signS z = decide (V.int (z.length : Nat) = V.int 1) := by
  have w1 : isWordS z = true := (Bool.and_eq_true_iff.mp h).1
  unfold signS
  rw [w1, Bool.true_and]
  by_cases c : z.length = 1
  · rw [decide_eq_true c, c]
    rfl
  · rw [decide_eq_false c, decide_eq_false fun e => c (by injection e with e; omega)]
theorem mark_len {z : Str} (h : nameS z = true) : markS z = decide ((1 : Int) < (z.length : Nat)) := by
  unfold markS
  first
    | rw [h, Bool.true_and]
  by_cases c : 1 < z.length
  · rw [decide_eq_true (show (1 : Int) < (z.length : Nat) by omega)]
    simp
    omega
  · rw [decide_eq_false (show ¬ (1 : Int) < (z.length : Nat) by omega)]
    simp
    omega
end Sl
/-! ## Z4 -/
set_option Elab.async false
set_option linter.all false
set_option maxRecDepth 100000
set_option maxHeartbeats 4000000
/-! _law_things -/
namespace Sl
open PySem PySem.Spec PyProof.Rows L2 TxS
abbrev sThings : Stmt := top 40
/-- the short or the long ones -/
def shortS (sh : Bool) (z : Str) : Bool := decide (z.length = 1) == sh
def spThings : Sp := fun vs H Q _ => ∃ (M L E : Addr) (ds : List Addr) (rows : List Rw) (ns : List Int) (b : Int) (sh : Bool), vs = [.ref M, .bl sh] ∧ ModelAt H M L E ds rows ns b ∧ Md rows ns b ∧
  ∀ (H' : Hp) (p : Addr) (ts : List Str), Ext H H' → H p = none → H' p = some (.lst (ts.map V.str)) → Gath ts ((toldsOf rows).filter (shortS sh)) → sortedS ts = true → Q (.ref p) H'
abbrev nThings : List Str := ["_law_model", "_law_short", "_law_found", "_law_line", "_law_told", "_law_move", "_law_one"]
section
variable {P : Program} {w : World} {K : PySem.W.Frag} {mg : Str → Option Value} {base : Heap}
theorem scThings : FnScope nThings ["_law_model", "_law_short"] (defScope sThings) := ⟨rfl, rfl, rfl, by decide +kernel, rfl, by decide +kernel, by decide +kernel⟩
theorem ok_things {f : Addr} {fd : FuncData} (F : Fun K "_law_things" "_law_things" sThings f fd) (zs : mg "sorted" = none) (zt : mg "set" = none) (zn : mg "len" = none) :
    FnOk P w K mg base CX0 1 f fd ["_law_model", "_law_short"] spThings := by
  refine F.ok scThings (fun vs H Q E h => ?_) (fun cdv A0 outer s H vs Q E0 hr h => ?_)
  · obtain ⟨M, L, E, ds, rows, ns, b, sh, rfl, _⟩ := h
    rfl
  · obtain ⟨M, L, E, ds, rows, ns, b, sh, rfl, hM, md, q⟩ := h
    refine ⟨_, pss_cons (ps_set (i := 2) scThings.nd rfl (.inl rfl) (pe_lst pa_nil))
      (pss_cons (ps_for PassesOwn.never rfl (pi_list (pe_ix ix_tup (pv 0) pe_int (fun _ _ => rfl))) (pg_name (i := 3) scThings.nd rfl (.inl rfl))
        (pss_cons (ps_lock (ps_setLc (i := 4) (own := [("_law_move", 5)]) (g := gName 5) (tt := tTest (tOp rNotN (tOp (rIxT K) (tVar 5) (tC (.int 1))) (tC .non))) (te := tOp (rIxT K) (tVar 5) (tC (.int 1))) rfl scThings.nd rfl rfl (sw_true rfl rfl rfl (by decide +kernel)) (pi_values (pv 3))
          (blkOk_by (N := nThings) (sc := defScope sThings) (by decide +kernel))
          (fun _ _ _ _ _ => pg_name (i := 5) scThings.nd rfl (Or.inl rfl)) (fun _ _ _ _ _ => pts_one (pt_cmpR op_notN (pe_ix ix_tup (pv 5) pe_int (fun _ _ => rfl)) pe_non (nomark _))) (fun _ _ _ _ _ => pe_ix ix_tup (pv 5) pe_int (fun _ _ => rfl))))
        (pss_one (ps_set (i := 2) scThings.nd rfl (.inl rfl) (pe_op op_cat (pv 2) (pe_lc (own := [("_law_one", 6)]) (g := gName 6) (tt := tTest (tOp rEq (tOp rEq (tCB rLenS (tCons (tVar 6) tNil)) (tC (.int 1))) (tVar 1))) (te := tVar 6) rfl scThings.nd (pi_list (pv 4)) (blkOk_by (N := nThings) (sc := defScope sThings) (by decide +kernel))
          (fun _ _ _ _ _ => pg_name (i := 6) scThings.nd rfl (Or.inl rfl)) (fun _ _ _ _ _ => pts_one (pt_cmpR op_eq (pe_cmpR op_eq (pe_callB (r := rLenS) call_len_str (by rfl) zn PySem.boot_len (pa_cons (pv 6) pa_nil)) pe_int (nomark _)) (pv 1) (nomark _))) (fun _ _ _ _ _ => pv 6)))))))
      (pss_one (ps_ret (pe_callB (cr_sortedTx rfl) (by rfl) zs (by decide +kernel) (pa_cons (pe_callTy (cr_setTx rfl) (by rfl) zt (by decide +kernel) (pa_cons (pv 2) pa_nil)) pa_nil))))), ?_⟩
    have l5 := md.l5
    have l6 : ∀ r ∈ rows, r.length < 64 := fun r hr => by have := (md.ok r hr).2.2; omega
    have nms : ∀ z ∈ toldsOf rows, nameS z = true ∧ z.length ≤ 8 := told_names fun r hr => (md.ok r hr).1
    refine ⟨(by show 0 ≤ sizeLine; omega), fun F nF => ⟨_, rfl, ?_⟩⟩
    have x1 := Ext.new nF (o := .lst [])
    have hF1 : (upd H F (.lst [])) F = some (.lst (([] : List Str).map V.str)) := upd_same
    generalize upd H F (.lst []) = H1 at x1 hF1 ⊢
    refine ⟨M, _, _, .ref L, rfl, rfl, SqT.of (x1 _ _ hM.h1), atI_nat (j := 0) rfl, L, rfl, ⟨_, SqL.of (x1 _ _ hM.h2)⟩, ?_⟩
    refine for_it (walk_list (xs := ds.map V.ref)) (fun i σ H' => ∃ F v3 v4, σ = [some (.ref M), some (.bl sh), some (.ref F), v3, v4, none, none] ∧ Ext H H' ∧ H' F = some (.lst (((toldsOf (rows.take i)).filter (shortS sh)).map V.str)))
      ⟨F, none, none, rfl, x1, hF1⟩ (fun i σ H' _ ⟨_, _, _, _, x, _⟩ => SqL.of (x _ _ hM.h2)) ?_ ?_
    · rintro i x σ H2 H3 hi ⟨F2, v3, v4, rfl, x2, hF2⟩ ⟨rfl, hx⟩
      obtain ⟨d, hd, rfl⟩ := at_map hx
      obtain ⟨r, hri, es, he1, he2⟩ := hM.h3.at_ hd
      have hrm := List.mem_of_getElem? hri
      have d2 := x2 _ _ he1
      refine ⟨d, _, d2, trivial, fun od => ?_⟩
      have dl : (upd H3 d (.frz od (.dK (kvsOf es)))) d = some (.frz od (.dK (kvsOf es))) := upd_same
      have out : ∀ b o, H3 b = some o → b ≠ d → (upd H3 d (.frz od (.dK (kvsOf es)))) b = some o := fun b o e n => by
        rw [upd_ne n]
        exact e
      have nFd : F2 ≠ d := ne_of hF2 d2 (by intro z; cases z)
      generalize upd H3 d (.frz od (.dK (kvsOf es))) = Hl at dl out ⊢
      refine ⟨_, rfl, d, od, kvsOf es, rfl, dl, fun D nD => ?_⟩
      have nDd : D ≠ d := fun z => by
        rw [z, dl] at nD
        cases nD
      refine lc_it walk_values (fun j H' => Ext Hl H' ∧ H' D = some (.lst ((tellsAll (r.take j)).map V.str))) ⟨Ext.new nD, upd_same⟩ (fun j H' _ h => h.1 _ _ dl) ?_ ?_
      · rintro j x H4 H5 hj ⟨g1, g2⟩ ⟨rfl, k, hk⟩
        unfold kvsOf at hk
        rw [List.getElem?_map] at hk
        cases e : es[j]? with
        | none =>
          rw [e] at hk
          cases hk
        | some e0 =>
          rw [e] at hk
          have hk := Option.some.inj hk
          obtain ⟨rfl, rfl⟩ := Prod.mk.inj hk
          obtain ⟨m, hm, mt⟩ := he2.at_ e
          have mt : H e0.2 = some (.tup [.int m.1, toldV m.2]) := mt
          have mt2 := x2 _ _ mt
          have mt4 := g1 _ _ (out _ _ mt2 (ne_of mt2 d2 (by intro z; cases z)))
          have e2 : tellsAll (r.take (j + 1)) = tellsAll (r.take j) ++ m.2.toList := by
            unfold tellsAll
            rw [take_more hm, List.filterMap_append]
            obtain ⟨mg, mo⟩ := m
            cases mo <;> rfl
          refine ⟨rfl, _, rfl, e0.2, _, _, toldV m.2, rfl, rfl, SqT.of mt4, atI_nat (j := 1) rfl, ?_⟩
          obtain ⟨mg, mo⟩ := m
          cases mo with
          | none =>
            refine ⟨rfl, false, rfl, ?_⟩
            refine ⟨g1, ?_⟩
            have e3 : tellsAll (r.take (j + 1)) = tellsAll (r.take j) := by
              rw [e2]
              exact List.append_nil _
            rw [e3]
            exact g2
          | some z0 =>
            refine ⟨rfl, true, rfl, ?_⟩
            refine ⟨_, rfl, e0.2, _, _, .str z0, rfl, rfl, SqT.of mt4, atI_nat (j := 1) rfl, _, g2, ?_, fun b o eb => by rw [upd_ne (ne_of_none eb nD)]; exact g1 b o eb, ?_⟩
            · rw [List.length_map]
              exact small_list (Nat.le_trans (List.length_filterMap_le ..) (by rw [List.length_take]; have := l6 r hrm; omega))
            · rw [upd_same, e2, List.map_append]
              rfl
      · rintro H4 ⟨g1, g2⟩
        have e1 : (kvsOf es).length = r.length := by
          unfold kvsOf
          rw [List.length_map, he2.len]
        rw [e1, List.take_length] at g2
        refine ⟨g1 _ _ dl, ?_⟩
        have x4 : Ext H3 (upd H4 d (.dK (kvsOf es))) := fun b o e => by
          by_cases c : b = d
          · rw [c, upd_same, ← d2, ← c]
            exact e
          · rw [upd_ne c]
            exact g1 _ _ (out _ _ e c)
        have hF4 := x4 _ _ hF2
        have hD4 : (upd H4 d (.dK (kvsOf es))) D = some (.lst ((tellsAll r).map V.str)) := by
          rw [upd_ne nDd]
          exact g2
        generalize upd H4 d (.dK (kvsOf es)) = H6 at x4 hF4 hD4 ⊢
        have lt2 : (tellsAll r).length ≤ 64 := Nat.le_trans (List.length_filterMap_le ..) (Nat.le_of_lt (l6 r hrm))
        have tn : ∀ z ∈ tellsAll r, z.length ≤ 8 := fun z hz => by
          refine (nms z ?_).2
          unfold toldsOf
          exact List.mem_flatMap.mpr ⟨r, hrm, hz⟩
        have e2 : toldsOf (rows.take (i + 1)) = toldsOf (rows.take i) ++ tellsAll r := by
          unfold toldsOf tellsAll
          rw [take_more hri, List.flatMap_append]
          simp
        have lt1 : (toldsOf (rows.take i)).length ≤ 64 * 5 := told_len (by rw [List.length_take]; omega) fun r hr => l6 r (List.mem_of_mem_take hr)
        have lf1 : ((toldsOf (rows.take i)).filter (shortS sh)).length ≤ (toldsOf (rows.take i)).length := List.length_filter_le _ _
        refine ⟨_, rfl, _, rfl, D, rfl, ⟨_, SqL.of hD4⟩, fun D2 nD2 => ?_⟩
        refine lc_it (walk_list (xs := (tellsAll r).map V.str)) (fun j H' => Ext H6 H' ∧ H' D2 = some (.lst ((((tellsAll r).take j).filter (shortS sh)).map V.str))) ⟨Ext.new nD2, upd_same⟩ (fun j H' _ h => SqL.of (h.1 _ _ hD4)) ?_ ?_
        · rintro j x H7 H8 hj ⟨h1, h2⟩ ⟨rfl, hx⟩
          obtain ⟨z, hz, rfl⟩ := at_map hx
          have zm := List.mem_of_getElem? hz
          refine ⟨rfl, _, rfl, z, rfl, small_size (by have := tn z zm; omega), rfl, _, rfl, rfl, _, rfl, ?_⟩
          have eb : decide (V.bl (decide (V.int (z.length : Nat) = V.int 1)) = V.bl sh) = shortS sh z := by
            unfold shortS
            rw [dec_bl, show decide (V.int (z.length : Nat) = V.int 1) = decide (z.length = 1) from decide_eq_decide.mpr ⟨fun k => by injection k with k; omega, fun k => by rw [k]; rfl⟩]
          rw [eb, take_more hz, List.filter_append]
          have li : (((tellsAll r).take j).filter (shortS sh)).length ≤ (tellsAll r).length := Nat.le_trans (List.length_filter_le _ _) (by rw [List.length_take]; omega)
          cases ct : shortS sh z with
          | false =>
            have e1 : List.filter (shortS sh) [z] = [] := by rw [List.filter_cons_of_neg (by rw [ct]; exact Bool.false_ne_true)]; rfl
            rw [e1, List.append_nil]
            exact ⟨h1, h2⟩
          | true =>
            have e1 : List.filter (shortS sh) [z] = [z] := by rw [List.filter_cons_of_pos ct]; rfl
            rw [e1, List.map_append]
            exact ⟨_, rfl, _, h2, by rw [List.length_map]; exact small_list (by omega), fun b o e => by rw [upd_ne (ne_of_none e nD2)]; exact h1 _ _ e, upd_same⟩
        · rintro H7 ⟨h1, h2⟩
          rw [List.length_map, List.take_length] at h2
          have lf2 : ((tellsAll r).filter (shortS sh)).length ≤ (tellsAll r).length := List.length_filter_le _ _
          refine ⟨F2, D2, _, _, rfl, rfl, h1 _ _ hF4, h2, by rw [List.length_map, List.length_map]; exact Nat.le_of_lt (small_list (by omega)), fun p np => ?_⟩
          refine ⟨p, _, _, rfl, ((x2.trans x4).trans h1).trans (Ext.new np), ?_⟩
          rw [upd_same, e2, List.filter_append, List.map_append]
    · rintro σ H2 ⟨F2, v3, v4, rfl, x2, hF2⟩
      have le : (ds.map V.ref).length = rows.length := by rw [List.length_map, hM.h3.len]
      rw [le, List.take_length] at hF2
      have lt1 : (toldsOf rows).length ≤ 64 * 5 := told_len l5 l6
      have lf1 : ((toldsOf rows).filter (shortS sh)).length ≤ (toldsOf rows).length := List.length_filter_le _ _
      refine ⟨_, rfl, F2, _, rfl, hF2, by unfold scanBound; omega, fun S nS => ?_⟩
      have g : Gath (addAll [] ((toldsOf rows).filter (shortS sh))) ((toldsOf rows).filter (shortS sh)) := ⟨addAll_nodup _ _ List.nodup_nil, fun z => by rw [addAll_mem]; simp⟩
      have x3 := x2.trans (Ext.new nS (o := SetSO P w S (addAll [] ((toldsOf rows).filter (shortS sh)))))
      obtain ⟨A, B, _, _, hB, hB64, _, _⟩ := md.AB
      refine ⟨S, _, rfl, upd_same, (g.room (A := B) (fun z hz => hB z (List.mem_filter.mp hz).1) hB64).1, fun ys p pm sr np => ?_⟩
      exact q _ p ys (x3.trans (Ext.new np)) (x3.free np) upd_same (g.perm pm) sr
end
end Sl
/-! ## Z5 -/
set_option Elab.async false
set_option linter.all false
set_option maxRecDepth 100000
set_option maxHeartbeats 4000000
/-! whether a value of any kind, an own one too, is in a reader -/
namespace Sl
open PySem PySem.Spec PyProof.Rows L2 TxS
/-- a value whose type is none of numbers -/
def NoInt (K : PySem.W.Frag) (H : Hp) (x : V) : Prop := ∃ t, TyX K H x t ∧ PySem.W.kitOne K t (.type "int") = some false
def spIsIntX (K : PySem.W.Frag) : Sp := fun vs H Q _ => ∃ x, vs = [x] ∧ ((∃ k : Kd, Is K H x k ∧ Q (.bl k.num) H) ∨ (NoInt K H x ∧ Q (.bl false) H))
def spBelowX (K : PySem.W.Frag) : Sp := fun vs H Q _ => ∃ (x : V) (n : Int), vs = [x, .int n] ∧ ((Val K H x ∧ Q (.bl (below x n)) H) ∨ (NoInt K H x ∧ Q (.bl false) H))
def spHasX (K : PySem.W.Frag) (C : Addr) : Sp := fun vs H Q _ => ∃ (p : Addr) (x : V) (rows : List Rw) (ends : List Int) (b : Int), vs = [.ref p, x] ∧ ReaderAt C H p rows ends b ∧ ((Val K H x ∧ Q (.bl (below x rows.length)) H) ∨ (NoInt K H x ∧ Q (.bl false) H))
section
variable {P : Program} {w : World} {K : PySem.W.Frag} {mg : Str → Option Value} {base : Heap}
theorem ok_isintX {f : Addr} {fd : FuncData} (F : Fun K "is_integer" "is_integer" sIsInt f fd) (zz : mg "isinstance" = none) (zi : mg "int" = none) (zb : mg "bool" = none) : FnOk P w K mg base CX0 1 f fd ["value"] (spIsIntX K) := by
  refine F.ok scIsInt (fun vs H Q E h => ?_) (fun cdv A outer s H vs Q E hr h => ?_)
  · obtain ⟨x, rfl, _⟩ := h
    rfl
  · obtain ⟨x, rfl, h⟩ := h
    refine ⟨_, pss_one (ps_ret (pe_and (pe_callB call_isi (by rfl) zz (by decide +kernel) (pa_cons (pv 0) (pa_cons (pe_bltn (by rfl) zi (by decide +kernel) (rel_ty "int")) pa_nil)))
      (pe_one (pe_not (pe_callB call_isi (by rfl) zz (by decide +kernel) (pa_cons (pv 0) (pa_cons (pe_bltn (by rfl) zb (by decide +kernel) (rel_ty "bool")) pa_nil))))))), ?_⟩
    rcases h with ⟨k, hk, q⟩ | ⟨⟨t, ty, hk⟩, q⟩
    · cases k with
      | int => exact ⟨_, rfl, _, _, _, _, true, rfl, .ty _, hk, kit_ty (by decide +kernel), true, rfl, _, rfl, _, _, _, _, false, rfl, .ty _, hk, kit_ty (by decide +kernel), _, rfl, q⟩
      | bl => exact ⟨_, rfl, _, _, _, _, true, rfl, .ty _, hk, kit_ty (by decide +kernel), true, rfl, _, rfl, _, _, _, _, true, rfl, .ty _, hk, kit_ty (by decide +kernel), _, rfl, q⟩
      | _ => exact ⟨_, rfl, _, _, _, _, false, rfl, .ty _, hk, kit_ty (by decide +kernel), false, rfl, q⟩
    · exact ⟨_, rfl, _, _, _, _, false, rfl, .ty _, ty, hk, false, rfl, q⟩
theorem ok_belowX {f fI : Addr} {fd fdI : FuncData} (F : Fun K "is_below" "is_below" sBelow f fd) (aI : At K mg "is_integer" fI fdI ["value"] []) (gI : FnOk P w K mg base CX0 1 fI fdI ["value"] (spIsIntX K)) :
    FnOk P w K mg base CX0 2 f fd ["value", "limit"] (spBelowX K) := by
  refine F.ok scBelow (fun vs H Q E h => ?_) (fun cdv A outer s H vs Q E hr h => ?_)
  · obtain ⟨x, n, rfl, _⟩ := h
    rfl
  · obtain ⟨x, n, rfl, h⟩ := h
    refine ⟨_, pss_one (ps_ret (pe_and (pe_call gI hr (by rfl) aI.g aI.kp aI.b .nil pass0 (pa_cons (pv 0) pa_nil)) (pe_one (pe_chain op_le op_lt pe_int (pv 0) (pv 1))))), ?_⟩
    rcases h with ⟨hk, q⟩ | ⟨hn, q⟩
    · rcases hk with ⟨i, rfl⟩ | ⟨hn, k, ek, ik⟩
      · refine ⟨_, rfl, _, rfl, .inl ⟨.int, .base (.int i), true, rfl, ?_⟩⟩
        refine ⟨_, rfl, _, _, rfl, rfl, _, rfl, ?_⟩
        have e : below (.int i) n = (decide (0 ≤ i) && decide (i < n)) := rfl
        rw [e] at q
        by_cases c : 0 ≤ i
        · simp only [c, decide_true, Bool.true_and, if_true] at q ⊢
          exact ⟨_, rfl, _, _, rfl, rfl, q⟩
        · simp only [c, decide_false, Bool.false_and, Bool.false_eq_true, if_false] at q ⊢
          exact q
      · refine ⟨_, rfl, _, rfl, .inl ⟨k, ik, false, by rw [ek], ?_⟩⟩
        have e : below x n = false := by
          cases x with
          | int i => exact absurd rfl (hn i)
          | _ => rfl
        rw [e] at q
        exact q
    · exact ⟨_, rfl, _, rfl, .inr ⟨hn, false, rfl, q⟩⟩
theorem ok_hasX {f C fB : Addr} {fd fdB : FuncData} (F : Fun K "__contains__" "Reader.__contains__" sHasM f fd) (T : RdC K C) (aB : At K mg "is_below" fB fdB ["value", "limit"] []) (gB : FnOk P w K mg base CX0 2 fB fdB ["value", "limit"] (spBelowX K)) (zn : mg "len" = none) :
    FnOk P w K mg base CX0 3 f fd ["self", "value"] (spHasX K C) := by
  refine F.ok scHasM (fun vs H Q E h => ?_) (fun cdv A0 outer s H vs Q E hr h => ?_)
  · obtain ⟨p, x, rows, ends, b, rfl, _⟩ := h
    rfl
  · obtain ⟨p, x, rows, ends, b, rfl, RA, k⟩ := h
    obtain ⟨dx, fs, L, ds, Te, hp, hst, hL, hrw, _⟩ := RA.ex
    refine ⟨_, pss_one (ps_ret (pe_call gB hr (by rfl) aB.g aB.kp aB.b .nil pass0 (pa_cons (pv 1) (pa_cons (pe_callB call_len_seq (by rfl) zn PySem.boot_len (pa_cons (pe_fld (pv 0) rfl) pa_nil)) pa_nil)))), ?_⟩
    refine ⟨_, rfl, _, rfl, p, C, dx, _, _, rfl, hp, T.cl, T.nS, hst, L, _, rfl, .inl (SqL.of hL), x, _, rfl, ?_⟩
    rw [List.length_map, hrw.len]
    exact k
end
end Sl
/-! ## Z6 -/
set_option Elab.async false
set_option linter.all false
set_option maxRecDepth 100000
set_option maxHeartbeats 4000000
set_option pp.maxSteps 1500
set_option pp.deepTerms false
/-! _law_tells -/
namespace Sl
open PySem PySem.Spec PyProof.Rows L2 TxS
/-- the reader at p, made of the model at M -/
structure Both (C : Addr) (H : Hp) (p M : Addr) : Prop where
  ex : ∃ (L E : Addr) (ds : List Addr) (rows rows' : List Rw) (ns ns' : List Int) (b : Int) (ys ts : List Str), ReaderX C H p rows' ns' b ys ts ∧ Ascs rows rows' ∧ ns'.Perm ns ∧ ns'.Pairwise (· ≤ ·) ∧
    Gath ys (keysOf rows) ∧ sortedS ys = true ∧ Gath ts (toldsOf rows) ∧ sortedS ts = true ∧ ModelAt H M L E ds rows ns b ∧ Md rows ns b
theorem Both.ext {C : Addr} {H H' : Hp} {p M : Addr} (h : Both C H p M) (x : Ext H H') : Both C H' p M := by
  obtain ⟨L, E, ds, rows, rows', ns, ns', b, ys, ts, a1, a2, a3, a4, a5, a6, a7, a8, a9, a10⟩ := h.ex
  exact ⟨L, E, ds, rows, rows', ns, ns', b, ys, ts, ReaderX.ext x a1, a2, a3, a4, a5, a6, a7, a8, a9.ext x, a10⟩
theorem below_out {i : Int} {n : Nat} (h : i < 0 ∨ (n : Int) ≤ i) : below (.int i) n = false := by
  unfold below
  simp
  omega
theorem gath_row {rows : List Rw} {acc : List Str} {i : Nat} {r : Rw} (g : Gath acc (keysOf (rows.take i))) (nd : (r.map (·.1)).Nodup) (hr : rows[i]? = some r) :
    Gath (acc ++ ((r.map (·.1)).filter fun z => !decide (z ∈ acc))) (keysOf (rows.take (i + 1))) := by
  have e2 : keysOf (rows.take (i + 1)) = keysOf (rows.take i) ++ r.map (·.1) := by
    unfold keysOf
    rw [take_more hr, List.flatMap_append]
    simp
  rw [e2]
  refine ⟨List.nodup_append.mpr ⟨g.1, nd.filter _, ?_⟩, fun z => ?_⟩
  · intro a ha b hb e
    rw [← e] at hb
    have := (List.mem_filter.mp hb).2
    simp [ha] at this
  · rw [List.mem_append, List.mem_append, List.mem_filter, ← g.2 z]
    by_cases c : z ∈ acc
    · simp [c]
    · simp [c]
theorem sorted_filter {l : List Str} (h : sortedS l = true) (f : Str → Bool) : sortedS (l.filter f) = true := sortedS_of_pairwise _ ((pair_of_sorted h).filter _)
theorem gath_filter {l S : List Str} (g : Gath l S) (f : Str → Bool) : Gath (l.filter f) (S.filter f) := ⟨g.1.filter _, fun z => by rw [List.mem_filter, List.mem_filter, g.2 z]⟩
theorem short_sign {z : Str} (h : nameS z = true) : signS z = shortS true z := by
  rw [sign_len h]
  unfold shortS
  by_cases c : z.length = 1
  · rw [decide_eq_true c, c]
    rfl
  · rw [decide_eq_false c, decide_eq_false fun e => c (by injection e with e; omega)]
    rfl
theorem name_pos {z : Str} (h : nameS z = true) : 1 ≤ z.length := by
  unfold nameS at h
  simp at h
  omega
theorem short_mark {z : Str} (h : nameS z = true) : markS z = shortS false z := by
  rw [mark_len h]
  have := name_pos h
  unfold shortS
  by_cases c : z.length = 1
  · rw [decide_eq_true c, c]
    rfl
  · rw [decide_eq_false c, decide_eq_true (show (1 : Int) < (z.length : Nat) by omega)]
    rfl
abbrev sTells : Stmt := top 41
def spTells (C : Addr) : Sp := fun vs H Q _ => ∃ (p M : Addr), vs = [.ref p, .ref M] ∧ Both C H p M ∧ ∀ H', Ext H H' → Q (.bl true) H'
abbrev nTells : List Str := ["_law_made", "_law_model", "_law_many", "_law_odd", "_law_abc", "_law_line", "_law_marks_here", "_law_spot", "_law_one", "_law_letter"]
section
variable {P : Program} {w : World} {K : PySem.W.Frag} {mg : Str → Option Value} {base : Heap}
theorem scTells : FnScope nTells ["_law_made", "_law_model"] (defScope sTells) := ⟨rfl, rfl, rfl, by decide +kernel, rfl, by decide +kernel, by decide +kernel⟩
theorem ok_tells {f C fE fL fP fT fMk fTh fH : Addr} {fd fdE fdL fdP fdT fdMk fdTh fdH : FuncData} (F : Fun K "_law_tells" "_law_tells" sTells f fd) (T : RdC K C) (iC : C8.InsC K C) (kC : PySem.W.kitOne K (.ref C) (.type "int") = some false)
    (mE : L2.Meth K C "ends" fE) (bE : L2.Binds K fdE ["self"] []) (gE : FnOk P w K mg base CX0 1 fE fdE ["self"] (spEnds C))
    (mL : L2.Meth K C "__len__" fL) (bL : L2.Binds K fdL ["self"] []) (gL : FnOk P w K mg base CX0 1 fL fdL ["self"] (spLenR C))
    (mP : L2.Meth K C "page_signs" fP) (bP : L2.Binds K fdP ["self"] []) (gP : FnOk P w K mg base CX0 1 fP fdP ["self"] (spPaper C))
    (mT : L2.Meth K C "text_signs" fT) (bT : L2.Binds K fdT ["self"] []) (gT : FnOk P w K mg base CX0 1 fT fdT ["self"] (spTextsM C))
    (mM : L2.Meth K C "marks" fMk) (bM : L2.Binds K fdMk ["self"] []) (gM : FnOk P w K mg base CX0 1 fMk fdMk ["self"] (spMarksM C))
    (mH : L2.Meth K C "__contains__" fH) (bH : L2.Binds K fdH ["self", "value"] []) (gH : FnOk P w K mg base CX0 3 fH fdH ["self", "value"] (spHasX K C))
    (aTh : At K mg "_law_things" fTh fdTh ["_law_model", "_law_short"] []) (gTh : FnOk P w K mg base CX0 1 fTh fdTh ["_law_model", "_law_short"] spThings)
    (zs : mg "sorted" = none) (zn : mg "len" = none) (zt : mg "tuple" = none) (za : mg "all" = none) (zy : mg "any" = none) (zr : mg "range" = none) :
    FnOk P w K mg base CX0 4 f fd ["_law_made", "_law_model"] (spTells C) := by
  refine F.ok scTells (fun vs H Q E h => ?_) (fun cdv A0 outer s H vs Q E1 hr h => ?_)
  · obtain ⟨p, M, rfl, _⟩ := h
    rfl
  · obtain ⟨p, M, rfl, B, k⟩ := h
    obtain ⟨L, E0, ds, rows, rows', ns, ns', b, ys, ts, RX, asc, pn, rise, gy, sy, gt, st, hM, md⟩ := B.ex
    have hr1 : Room 1 _ := hr.mono (by decide)
    have hr2 : Room 2 _ := hr.mono (by decide)
    have hu0 := hr.units
    refine ⟨_, pss_cons (ps_set (i := 2) scTells.nd rfl (.inl rfl) (pe_callB call_len_seq (by rfl) zn PySem.boot_len (pa_cons (pe_ix ix_tup (pv 1) pe_int (fun _ _ => rfl)) pa_nil)))
      (pss_cons (ps_set (i := 3) scTells.nd rfl (.inl rfl) (pe_lst (pa_cons (pv 2) (pa_cons (pe_un un_neg pe_int) (pa_cons pe_bl (pa_cons pe_bl (pa_cons pe_non (pa_cons pe_str (pa_cons pe_str (pa_cons (pe_lst pa_nil) (pa_cons (pe_tup pa_nil) (pa_cons pe_dnewK (pa_cons (pe_tup (pa_cons pe_int pa_nil)) (pa_cons (pe_lst (pa_cons pe_int pa_nil)) (pa_cons (pe_op op_pow pe_int pe_int) (pa_cons (pv 0) pa_nil))))))))))))))))
      (pss_cons (ps_if (PW.pt (pw_or (pt_cmpR op_ne (pe_callB (call_lenO mL gL hr2 bL) (by rfl) zn PySem.boot_len (pa_cons (pv 0) pa_nil)) (pv 2) (nomark _))
          (pw_or1 (pt_not (pt_val (pe_callB (cr_all rfl) (by rfl) za (by decide +kernel) (pa_cons (pe_lc (own := [("_law_spot", 7)]) (g := gName 7) (tt := tYes) (te := tOp (rInO C (spHasX K C)) (tVar 7) (tVar 0)) rfl scTells.nd (pi_range1 rfl zr (pa_cons (pv 2) pa_nil)) (blkOk_by (N := nTells) (sc := defScope sTells) (by decide +kernel))
            (fun _ _ _ _ _ => pg_name (i := 7) scTells.nd rfl (Or.inl rfl)) (fun _ _ _ _ _ => pts_nil) (fun _ _ _ _ _ => pe_cmpR (op_inO mH gH hr bH) (pv 7) (pv 0) (by rfl))) pa_nil))))))) (pss_one (ps_ret pe_bl)) pss_nil)
      (pss_cons (ps_if (pt_val (pe_callB (cr_any rfl) (by rfl) zy (by decide +kernel) (pa_cons (pe_lc (own := [("_law_one", 8)]) (g := gName 8) (tt := tYes) (te := tOp (rInO C (spHasX K C)) (tVar 8) (tVar 0)) rfl scTells.nd (pi_list (pv 3)) (blkOk_by (N := nTells) (sc := defScope sTells) (by decide +kernel))
            (fun _ _ _ _ _ => pg_name (i := 8) scTells.nd rfl (Or.inl rfl)) (fun _ _ _ _ _ => pts_nil) (fun _ _ _ _ _ => pe_cmpR (op_inO mH gH hr bH) (pv 8) (pv 0) (by rfl))) pa_nil))) (pss_one (ps_ret pe_bl)) pss_nil)
      (pss_cons (ps_set (i := 4) scTells.nd rfl (.inr rfl) (pe_lst pa_nil))
      (pss_cons (ps_for PassesOwn.never rfl (pi_list (pe_ix ix_tup (pv 1) pe_int (fun _ _ => rfl))) (pg_name (i := 5) scTells.nd rfl (.inl rfl)) (pss_one (ps_set (i := 4) scTells.nd rfl (.inr rfl) (pe_op op_cat (pv 4) (pe_lock (pe_lc (own := [("_law_letter", 9)]) (g := gName 9) (tt := tTest (tOp (rIn K true) (tVar 9) (tVar 4))) (te := tVar 9) rfl scTells.nd (pi_keys (pv 5)) (blkOk_by (N := nTells) (sc := defScope sTells) (by decide +kernel))
            (fun _ _ _ _ _ => pg_name (i := 9) scTells.nd rfl (Or.inl rfl)) (fun _ _ _ _ _ => pts_one (pt_cmpR op_notIn_seq (pv 9) (pv 4) (by rfl))) (fun _ _ _ _ _ => pv 9)))))))
      (pss_cons (ps_if (PW.pt (pw_or (pt_cmpR op_ne (pe_meth0 (pv 0) T.cl mP gP hr1 bP .nil pass0) (pe_join pe_str (pe_callB cr_sortedS (by rfl) zs (by decide +kernel) (pa_cons (pv 4) pa_nil))) (by rfl))
          (pw_or1 (pt_cmpR op_ne (pe_meth0 (pv 0) T.cl mT gT hr1 bT .nil pass0) (pe_join pe_str (pe_call gTh hr1 (by rfl) aTh.g aTh.kp aTh.b .nil pass0 (pa_cons (pv 1) (pa_cons pe_bl pa_nil)))) (by rfl))))) (pss_one (ps_ret pe_bl)) pss_nil)
      (pss_cons (ps_set (i := 6) scTells.nd rfl (.inl rfl) (pe_meth0 (pv 0) T.cl mM gM hr1 bM .nil pass0))
      (pss_cons (ps_expr (pe_bm PySem.F.plainAttrs_list PySem.F.slot_list_append PySem.F.type_list_append mt_append (pv 6) (pa_cons pe_str pa_nil)))
      (pss_one (ps_ret (pe_and (pe_cmpR (op_eqD hu0) (pe_meth0 (pv 0) T.cl mM gM hr1 bM .nil pass0) (pe_call gTh hr1 (by rfl) aTh.g aTh.kp aTh.b .nil pass0 (pa_cons (pv 1) (pa_cons pe_bl pa_nil))) (nomark _))
        (pe_and (pe_cmpR (op_eqD hu0) (pe_meth0 (pv 0) T.cl mE gE hr1 bE .nil pass0) (pe_callTy call_tuple_of (by rfl) zt (by decide +kernel) (pa_cons (pe_callB cr_sortedK (by rfl) zs (by decide +kernel) (pa_cons (pe_ix ix_tup (pv 1) pe_int (fun _ _ => rfl)) pa_nil)) pa_nil)) (nomark _))
          (pe_one (pe_cmpR op_eq (pe_ix ix_list (pv 6) (pe_un un_neg pe_int) (fun _ _ => rfl)) pe_str (nomark _))))))))))))))), ?_⟩
    have RA := RX.plain
    have l1 := md.l1
    have l5 := md.l5
    have lr : (ds.map V.ref).length = rows.length := by rw [List.length_map, hM.h3.len]
    have e12 : rows'.length = rows.length := asc.perms.len.symm
    have l6 : ∀ r ∈ rows, r.length < 64 := fun r hr => by have := (md.ok r hr).2.2; omega
    obtain ⟨A, B0, hA, hA6, hB, hB64, _, _⟩ := md.AB
    obtain ⟨dx, fs, L0, ds0, Te0, a1, a2, a3, a4, a5, a6, a7, a8⟩ := RA.ex
    have sz0 : (0 : Nat) ≤ sizeLine := by decide
    have sz1 : (1 : Nat) ≤ sizeLine := by decide
    -- many, odd
    refine ⟨_, rfl, M, _, _, .ref L, rfl, rfl, SqT.of hM.h1, atI_nat (j := 0) rfl, L, _, rfl, .inl (SqL.of hM.h2), ?_⟩
    rw [lr]
    refine ⟨_, rfl, 1, rfl, sz0, fun b1 n1 => ⟨sz0, fun b2 n2 => fun b3 n3 => ⟨sz1, fun b4 n4 => ⟨sz1, fun b5 n5 => ⟨_, _, rfl, rfl, ⟨by decide, by decide, by decide⟩, _, rfl, by show 14 ≤ sizeLine; decide, fun O nO => ?_⟩⟩⟩⟩⟩
    have y1 := Ext.new n1 (o := .lst [])
    have g1 : (upd H b1 (.lst [])) b1 = some (.lst []) := upd_same
    generalize upd H b1 (.lst []) = G1 at y1 g1 n2 n3 n4 n5 nO ⊢
    have y2 := Ext.new n2 (o := .tup [])
    have g2 : (upd G1 b2 (.tup [])) b2 = some (.tup []) := upd_same
    generalize upd G1 b2 (.tup []) = G2 at y2 g2 n3 n4 n5 nO ⊢
    have y3 := Ext.new n3 (o := .dK [])
    have g3 : (upd G2 b3 (.dK [])) b3 = some (.dK []) := upd_same
    generalize upd G2 b3 (.dK []) = G3 at y3 g3 n4 n5 nO ⊢
    have y4 := Ext.new n4 (o := .tup [.int 0])
    have g4 : (upd G3 b4 (.tup [.int 0])) b4 = some (.tup [V.int 0]) := upd_same
    generalize upd G3 b4 (.tup [.int 0]) = G4 at y4 g4 n5 nO ⊢
    have y5 := Ext.new n5 (o := .lst [.int 0])
    have g5 : (upd G4 b5 (.lst [.int 0])) b5 = some (.lst [V.int 0]) := upd_same
    generalize upd G4 b5 (.lst [.int 0]) = G5 at y5 g5 nO ⊢
    generalize hE : ([.int (rows.length : Nat), .int (-1), .bl true, .bl false, .non, .str "0", .str "", .ref b1, .ref b2, .ref b3, .ref b4, .ref b5, (fun (i j : Int) => V.int (i ^ j.toNat)) 10 20, .ref p] : List V) = E
    have y6 := Ext.new nO (o := .lst E)
    have g6 : (upd G5 O (.lst E)) O = some (.lst E) := upd_same
    generalize upd G5 O (.lst E) = G6 at y6 g6 ⊢
    have z5 := y5.trans y6
    have z4 := y4.trans z5
    have z3 := y3.trans z4
    have z2 := y2.trans z3
    have x6 := y1.trans z2
    have e1 := z2 _ _ g1
    have e2 := z3 _ _ g2
    have e3 := z4 _ _ g3
    have e4 := z5 _ _ g4
    have e5 := y6 _ _ g5
    have p6 := x6 _ _ a1
    have R6 := RA.ext x6
    -- its length, its states
    refine ⟨_, rfl, p, dx, fs, rfl, p6, p, rows', ns', b, rfl, R6, rows'.length, rfl, by omega, _, rfl, rfl, _, rfl, ?_⟩
    rw [e12, show ∀ y : V, (!decide (y = y)) = false from fun y => by simp]
    refine iteF ?_
    refine ⟨_, rfl, ((rows.length : Nat) : Int), rfl, by omega, by omega, fun D nD => ?_⟩
    refine lc_range (n := rows.length) (fun i H' => Ext G6 H' ∧ H' D = some (.lst ((List.replicate i true).map V.bl))) ⟨Ext.new nD, upd_same⟩ ?_ ?_
    · rintro i H1 hi ⟨x1, d1⟩
      refine ⟨rfl, _, rfl, _, rfl, p, dx, fs, rfl, x1 _ _ p6, p, _, rows', ns', b, rfl, R6.ext x1, .inl ⟨.inl ⟨_, rfl⟩, _, rfl, ?_⟩⟩
      rw [show below (.int (0 + (i : Nat))) rows'.length = true by unfold below; simp; omega]
      refine ⟨_, d1, by rw [List.length_map, List.length_replicate]; exact small_list (by omega), fun b o e => by rw [upd_ne (ne_of_none e nD)]; exact x1 b o e, ?_⟩
      rw [upd_same, List.replicate_succ', List.map_append]
      rfl
    rintro H7 ⟨x7, d7⟩
    refine ⟨D, List.replicate rows.length true, rfl, SqL.of d7, true, by simp, iteF ?_⟩
    have x07 := x6.trans x7
    -- nothing else
    have vals : ∀ H', Ext G6 H' → ∀ x ∈ E, (Val K H' x ∧ below x rows'.length = false) ∨ NoInt K H' x := fun H' xx x hx => by
      rw [← hE] at hx
      simp only [List.mem_cons, List.not_mem_nil, or_false] at hx
      rcases hx with rfl | rfl | rfl | rfl | rfl | rfl | rfl | rfl | rfl | rfl | rfl | rfl | rfl | rfl
      · exact .inl ⟨.inl ⟨_, rfl⟩, below_out (.inr (by omega))⟩
      · exact .inl ⟨.inl ⟨_, rfl⟩, below_out (.inl (by decide))⟩
      · exact .inl ⟨.inr ⟨fun i z => (by cases z), .bl, rfl, .base (.bl _)⟩, rfl⟩
      · exact .inl ⟨.inr ⟨fun i z => (by cases z), .bl, rfl, .base (.bl _)⟩, rfl⟩
      · exact .inl ⟨.inr ⟨fun i z => (by cases z), .non, rfl, .base .non⟩, rfl⟩
      · exact .inl ⟨.inr ⟨fun i z => (by cases z), .str, rfl, .base (.str _)⟩, rfl⟩
      · exact .inl ⟨.inr ⟨fun i z => (by cases z), .str, rfl, .base (.str _)⟩, rfl⟩
      · exact .inl ⟨.inr ⟨fun i z => (by cases z), .lst, rfl, .base (.lst (xx _ _ e1))⟩, rfl⟩
      · exact .inl ⟨.inr ⟨fun i z => (by cases z), .tup, rfl, .base (.tup (xx _ _ e2))⟩, rfl⟩
      · exact .inl ⟨.inr ⟨fun i z => (by cases z), .dct, rfl, .base (.dK (xx _ _ e3))⟩, rfl⟩
      · exact .inl ⟨.inr ⟨fun i z => (by cases z), .tup, rfl, .base (.tup (xx _ _ e4))⟩, rfl⟩
      · exact .inl ⟨.inr ⟨fun i z => (by cases z), .lst, rfl, .base (.lst (xx _ _ e5))⟩, rfl⟩
      · exact .inl ⟨.inl ⟨_, rfl⟩, below_out (.inr (by show ((rows'.length : Nat) : Int) ≤ 10 ^ 20; omega))⟩
      · exact .inr ⟨.ref C, (R6.ext xx).ty iC, kC⟩
    refine ⟨_, rfl, O, rfl, ⟨_, SqL.of (x7 _ _ g6)⟩, fun D2 nD2 => ?_⟩
    have lE : E.length = 14 := by rw [← hE]; rfl
    refine lc_it (walk_list (xs := E)) (fun i H' => Ext H7 H' ∧ H' D2 = some (.lst ((List.replicate i false).map V.bl))) ⟨Ext.new nD2, upd_same⟩ (fun i H' _ h => SqL.of (h.1 _ _ (x7 _ _ g6))) ?_ ?_
    · rintro i x H8 H9 hi ⟨x8, d8⟩ ⟨rfl, hx⟩
      have x78 := x7.trans x8
      refine ⟨rfl, _, rfl, _, rfl, p, dx, fs, rfl, x78 _ _ p6, p, x, rows', ns', b, rfl, R6.ext x78, ?_⟩
      have fin : ∃ acc, H9 D2 = some (.lst acc) ∧ acc.length < sizeLine ∧ Ext H7 (upd H9 D2 (.lst (acc ++ [V.bl false]))) ∧ (upd H9 D2 (.lst (acc ++ [V.bl false]))) D2 = some (.lst ((List.replicate (i + 1) false).map V.bl)) := by
        refine ⟨_, d8, by rw [List.length_map, List.length_replicate]; exact small_list (by omega), fun b o e => by rw [upd_ne (ne_of_none e nD2)]; exact x8 b o e, ?_⟩
        rw [upd_same, List.replicate_succ', List.map_append]
        rfl
      rcases vals _ x78 x (List.mem_of_getElem? hx) with ⟨hv, hb⟩ | hn
      · refine .inl ⟨hv, _, rfl, ?_⟩
        rw [hb]
        exact fin
      · exact .inr ⟨hn, _, rfl, fin⟩
    rintro H8 ⟨x8, d8⟩
    refine ⟨D2, List.replicate E.length false, rfl, SqL.of d8, false, by simp, iteF ?_⟩
    have x08 := x07.trans x8
    -- the letters
    refine ⟨sz0, fun F0 nF => ?_⟩
    have x9 := Ext.new nF (o := .lst [])
    have hF0 : (upd H8 F0 (.lst [])) F0 = some (.lst (([] : List Str).map V.str)) := upd_same
    generalize upd H8 F0 (.lst []) = H9 at x9 hF0 ⊢
    have x09 := x08.trans x9
    have hM9 := hM.ext x09
    have kin : ∀ i, ∀ z ∈ keysOf (rows.take i), z ∈ A := fun i z hz => hA z (by
      unfold keysOf at hz ⊢
      obtain ⟨r, hr, h⟩ := List.mem_flatMap.mp hz
      exact List.mem_flatMap.mpr ⟨r, List.mem_of_mem_take hr, h⟩)
    refine ⟨_, rfl, M, _, _, .ref L, rfl, rfl, SqT.of hM9.h1, atI_nat (j := 0) rfl, L, rfl, ⟨_, SqL.of hM9.h2⟩, ?_⟩
    refine for_it (walk_list (xs := ds.map V.ref)) (fun i σ H' => ∃ F v5 acc, σ = [some (.ref p), some (.ref M), some (.int (rows.length : Nat)), some (.ref O), some (.ref F), v5, none, none, none, none] ∧ Ext H9 H' ∧ H' F = some (.lst (acc.map V.str)) ∧ Gath acc (keysOf (rows.take i)))
      ⟨F0, none, [], rfl, Ext.refl _, hF0, List.nodup_nil, fun z => by simp [keysOf]⟩ (fun i σ H' _ ⟨_, _, _, _, x, _⟩ => SqL.of (x _ _ hM9.h2)) ?_ ?_
    · rintro i x σ H2 H3 hi ⟨F2, v5, acc, rfl, x2, hF2, ga⟩ ⟨rfl, hx⟩
      obtain ⟨d, hd, rfl⟩ := at_map hx
      obtain ⟨r, hri, es, he1, he2⟩ := hM9.h3.at_ hd
      have hrm := List.mem_of_getElem? hri
      have d2 := x2 _ _ he1
      refine ⟨_, rfl, d, _, d2, trivial, fun od => ?_⟩
      have dl : (upd H3 d (.frz od (.dK (kvsOf es)))) d = some (.frz od (.dK (kvsOf es))) := upd_same
      have out : ∀ b o, H3 b = some o → b ≠ d → (upd H3 d (.frz od (.dK (kvsOf es)))) b = some o := fun b o e n => by
        rw [upd_ne n]
        exact e
      have nFd : F2 ≠ d := ne_of hF2 d2 (by intro z; cases z)
      have hFl := out _ _ hF2 nFd
      generalize upd H3 d (.frz od (.dK (kvsOf es))) = Hl at dl out hFl ⊢
      refine ⟨_, rfl, d, od, rfl, .inl ⟨kvsOf es, dl, fun D nD => ?_⟩⟩
      have nDd : D ≠ d := fun z => by
        rw [z, dl] at nD
        cases nD
      have lacc : acc.length ≤ 6 := Nat.le_trans (len_le ga.1 fun z hz => kin i z ((ga.2 z).mp hz)) hA6
      have lrr := l6 r hrm
      refine lc_it walk_keys (fun j H' => Ext Hl H' ∧ H' D = some (.lst (((((r.map (·.1)).take j).filter fun z => !decide (z ∈ acc))).map V.str))) ⟨Ext.new nD, upd_same⟩ (fun j H' _ h => h.1 _ _ dl) ?_ ?_
      · rintro j x H4 H5 hj ⟨q1, q2⟩ ⟨rfl, k, v, hk, rfl⟩
        unfold kvsOf at hk
        rw [List.getElem?_map] at hk
        cases e : es[j]? with
        | none =>
          rw [e] at hk
          cases hk
        | some e0 =>
          rw [e] at hk
          have hk := Option.some.inj hk
          obtain ⟨rfl, rfl⟩ := Prod.mk.inj hk
          obtain ⟨m, hm, mt⟩ := he2.at_ e
          have hz : (r.map (·.1))[j]? = some e0.1 := by rw [List.getElem?_map, hm]; rfl
          refine ⟨rfl, _, rfl, _, rfl, F2, _, rfl, .inl (SqL.of (q1 _ _ hFl)), rfl, flat_strs acc, ?_⟩
          show ∃ c, V.bl (if true = true then !inV (.str e0.1) (acc.map V.str) else inV (.str e0.1) (acc.map V.str)) = .bl c ∧ _
          rw [inV_strs]
          refine ⟨_, rfl, ?_⟩
          rw [take_more hz, List.filter_append]
          have lt : (((r.map (·.1)).take j).filter fun z => !decide (z ∈ acc)).length ≤ 64 := Nat.le_trans (List.length_filter_le _ _) (by rw [List.length_take, List.length_map]; omega)
          by_cases c : e0.1 ∈ acc
          · have e1 : List.filter (fun z => !decide (z ∈ acc)) [e0.1] = [] := by simp [c]
            rw [e1, List.append_nil, decide_eq_true c]
            exact ⟨q1, q2⟩
          · have e1 : List.filter (fun z => !decide (z ∈ acc)) [e0.1] = [e0.1] := by simp [c]
            rw [e1, decide_eq_false c, List.map_append]
            exact ⟨_, rfl, _, q2, by rw [List.length_map]; exact small_list (by omega), fun b o e => by rw [upd_ne (ne_of_none e nD)]; exact q1 _ _ e, upd_same⟩
      · rintro H4 ⟨q1, q2⟩
        have e1 : (kvsOf es).length = (r.map (·.1)).length := by
          unfold kvsOf
          rw [List.length_map, List.length_map, he2.len]
        rw [e1, List.take_length] at q2
        refine ⟨q1 _ _ dl, ?_⟩
        have x4 : Ext H3 (upd H4 d (.dK (kvsOf es))) := fun b o e => by
          by_cases c : b = d
          · rw [c, upd_same, ← d2, ← c]
            exact e
          · rw [upd_ne c]
            exact q1 _ _ (out _ _ e c)
        have hF4 := x4 _ _ hF2
        have hD4 : (upd H4 d (.dK (kvsOf es))) D = some (.lst (((r.map (·.1)).filter fun z => !decide (z ∈ acc)).map V.str)) := by
          rw [upd_ne nDd]
          exact q2
        generalize upd H4 d (.dK (kvsOf es)) = H6 at x4 hF4 hD4 ⊢
        have lf : ((r.map (·.1)).filter fun z => !decide (z ∈ acc)).length ≤ 64 := Nat.le_trans (List.length_filter_le _ _) (by rw [List.length_map]; omega)
        refine ⟨F2, D, _, _, rfl, rfl, hF4, hD4, by rw [List.length_map, List.length_map]; exact Nat.le_of_lt (small_list (by omega)), fun pp np => ?_⟩
        refine ⟨pp, _, acc ++ ((r.map (·.1)).filter fun z => !decide (z ∈ acc)), rfl, (x2.trans x4).trans (Ext.new np), ?_, ?_⟩
        · rw [upd_same, List.map_append]
        · exact gath_row ga (md.ok r hrm).2.1 hri
    rintro σ H10 ⟨F, v5, acc, rfl, x10, hF, ga⟩
    rw [lr, List.take_length] at ga
    have x010 := x09.trans x10
    have gp := gath_perm ga gy
    have ly : ys.length ≤ 6 := Nat.le_trans (len_le gy.1 fun z hz => hA z ((gy.2 z).mp hz)) hA6
    have okr : okRows rows.length rows := ⟨rfl, fun r hr => ⟨(md.ok r hr).1, (md.ok r hr).2.1⟩⟩
    -- the page signs
    refine ⟨_, rfl, p, dx, fs, rfl, x010 _ _ a1, a8 _ (by decide +kernel), p, rows', ns', b, ys, ts, rfl, RX.ext x010, ?_⟩
    refine ⟨⟨_, rfl⟩, _, rfl, F, acc, rfl, SqL.of hF, by rw [gp.length_eq]; omega, fun zs p1 pm sr np1 => ?_⟩
    obtain rfl : zs = ys := sorted_unique sr sy (pm.trans gp)
    have y8 : ∀ z ∈ zs, z.length ≤ 8 := gy.le fun z hz => by
      rw [keys_name (fun r hr => (okr.2 r hr).1) z hz]
      decide
    have x11 := Ext.new np1 (o := .lst (zs.map V.str))
    refine ⟨_, p1, zs, rfl, rfl, .inl (SqL.of upd_same), join_le y8 (by omega), rfl, _, rfl, ?_⟩
    rw [show ∀ y : V, (!decide (y = y)) = false from fun y => by simp]
    refine iteF ?_
    generalize upd H10 p1 (.lst (zs.map V.str)) = H11 at x11 ⊢
    have x011 := x010.trans x11
    -- the text signs
    have tn : ∀ z ∈ ts, nameS z = true ∧ z.length ≤ 8 := fun z hz => told_names (fun r hr => (okr.2 r hr).1) z ((gt.2 z).mp hz)
    have lts : ts.length < 64 := Nat.lt_of_le_of_lt (len_le gt.1 fun z hz => hB z ((gt.2 z).mp hz)) hB64
    have eS : ts.filter signS = ts.filter (shortS true) := List.filter_congr fun z hz => short_sign (tn z hz).1
    have eM : ts.filter markS = ts.filter (shortS false) := List.filter_congr fun z hz => short_mark (tn z hz).1
    have nodec : ∀ y : V, (!decide (y = y)) = false := fun y => by simp
    have szF : ∀ f : Str → Bool, (ts.filter f).length < 64 := fun f => Nat.lt_of_le_of_lt (List.length_filter_le _ _) lts
    refine ⟨_, rfl, p, dx, fs, rfl, x011 _ _ a1, a8 _ (by decide +kernel), p, rows', ns', b, zs, ts, rfl, RX.ext x011, ?_⟩
    refine ⟨⟨_, rfl⟩, _, rfl, M, L, E0, ds, rows, ns, b, true, rfl, hM.ext x011, md, fun H12 q12 ts2 x12 nq gq12 gt2 st2 => ?_⟩
    obtain rfl : ts2 = ts.filter (shortS true) := sorted_unique st2 (sorted_filter st _) (gath_perm gt2 (gath_filter gt _))
    refine ⟨_, q12, ts.filter (shortS true), rfl, rfl, .inl (SqL.of gq12), join_le (fun z hz => (tn z (List.mem_filter.mp hz).1).2) (szF _), rfl, _, rfl, ?_⟩
    rw [eS, nodec]
    refine iteF ?_
    have x012 := x011.trans x12
    -- the marks, a list of them changed
    refine ⟨_, rfl, p, dx, fs, rfl, x012 _ _ a1, a8 _ (by decide +kernel), p, rows', ns', b, zs, ts, rfl, RX.ext x012, fun l1 nl1 => ?_⟩
    refine ⟨_, rfl, .inl ⟨rfl, _, SqL.of upd_same⟩, l1, _, _, rfl, rfl, upd_same, by rw [List.length_map]; exact small_list (by have := szF markS; omega), ?_⟩
    have x13 : Ext H12 (upd (upd H12 l1 (.lst ((ts.filter markS).map V.str))) l1 (.lst ((ts.filter markS).map V.str ++ [.str "zz"]))) := fun b o e => by
      rw [upd_ne (ne_of_none e nl1), upd_ne (ne_of_none e nl1)]
      exact e
    have gl1 : (upd (upd H12 l1 (.lst ((ts.filter markS).map V.str))) l1 (.lst ((ts.filter markS).map V.str ++ [.str "zz"]))) l1 = some (.lst ((ts.filter markS).map V.str ++ [.str "zz"])) := upd_same
    generalize upd (upd H12 l1 (.lst ((ts.filter markS).map V.str))) l1 (.lst ((ts.filter markS).map V.str ++ [.str "zz"])) = H13 at x13 gl1 ⊢
    have x013 := x012.trans x13
    refine ⟨_, rfl, p, dx, fs, rfl, x013 _ _ a1, a8 _ (by decide +kernel), p, rows', ns', b, zs, ts, rfl, RX.ext x013, fun l2 nl2 => ?_⟩
    have x14 := Ext.new nl2 (o := .lst ((ts.filter markS).map V.str))
    have gl2 : (upd H13 l2 (.lst ((ts.filter markS).map V.str))) l2 = some (.lst ((ts.filter markS).map V.str)) := upd_same
    generalize upd H13 l2 (.lst ((ts.filter markS).map V.str)) = H14 at x14 gl2 ⊢
    have x014 := x013.trans x14
    refine ⟨_, rfl, M, L, E0, ds, rows, ns, b, false, rfl, hM.ext x014, md, fun H15 q15 ts3 x15 n15 g15 gt3 st3 => ?_⟩
    obtain rfl : ts3 = ts.filter (shortS false) := sorted_unique st3 (sorted_filter st _) (gath_perm gt3 (gath_filter gt _))
    have x015 := x014.trans x15
    rw [eM] at gl2
    have sh := strs_shaped (l := ts.filter (shortS false)) fun z hz => (tn z (List.mem_filter.mp hz).1).1
    refine ⟨strsD (ts.filter (shortS false)), strsD (ts.filter (shortS false)), .lst (SqL.of (x15 _ _ gl2)) (strs_dp _), .lst (SqL.of g15) (strs_dp _), sh.1, sh.1, _, rfl, ?_⟩
    rw [sh.2]
    refine iteT ⟨_, rfl, p, dx, fs, rfl, x015 _ _ a1, a8 _ (by decide +kernel), p, rows', ns', b, rfl, RA.ext x015, fun Te hTe => ?_⟩
    have hM15 := hM.ext x015
    refine ⟨_, rfl, M, _, _, .ref E0, rfl, rfl, SqT.of hM15.h1, atI_nat (j := 1) rfl, true, E0, ns, rfl, SqK.l hM15.h5, by have := md.nl; omega, fun ms pa pm rise2 na => ?_⟩
    obtain rfl : ms = ns' := ints_unique rise2 rise (pm.trans pn.symm)
    refine ⟨pa, _, rfl, .inl ⟨SqL.of upd_same, fun T2 nT2 => ?_⟩⟩
    have x16 : Ext H15 (upd (upd H15 pa (.lst (ms.map V.int))) T2 (.tup (ms.map V.int))) := (Ext.new na).trans (Ext.new nT2)
    have g16 : (upd (upd H15 pa (.lst (ms.map V.int))) T2 (.tup (ms.map V.int))) T2 = some (.tup (ms.map V.int)) := upd_same
    generalize upd (upd H15 pa (.lst (ms.map V.int))) T2 (.tup (ms.map V.int)) = H16 at x16 g16 ⊢
    refine ⟨.tuple (ms.map PyData.int), .tuple (ms.map PyData.int), .tup (SqT.of (x16 _ _ hTe)) (ints_dp _), .tup (SqT.of g16) (ints_dp _), ints_shaped _, ints_shaped _, _, rfl, ?_⟩
    rw [tup_eqv, show decide (ms = ms) = true from decide_eq_true rfl]
    have x1316 := (x14.trans x15).trans x16
    refine iteT ⟨_, rfl, 1, rfl, l1, _, _, .str "zz", rfl, rfl, SqL.of (x1316 _ _ gl1), atI_last _ _, rfl, ?_⟩
    rw [show decide (V.str "zz" = V.str "zz") = true from decide_eq_true rfl]
    exact k _ (x013.trans x1316)
end
end Sl
/-! ## U1 -/
set_option Elab.async false
set_option linter.all false
set_option maxRecDepth 100000
set_option maxHeartbeats 4000000
/-! == of readers and what is shown of them -/
namespace Sl
open PySem PySem.Spec PyProof.Rows L2 TxS TL
/-! ### what is shown is a text of letters -/
def smallL (l : List Nat) : Prop := ∀ c ∈ l, c < 0x110000
theorem smallL.app {a b : List Nat} (h : smallL a) (k : smallL b) : smallL (a ++ b) := fun c hc => (List.mem_append.mp hc).elim (h c) (k c)
theorem smallL.cons {x : Nat} {a : List Nat} (hx : x < 0x110000) (h : smallL a) : smallL (x :: a) := fun c hc => (List.mem_cons.mp hc).elim (fun e => e ▸ hx) (h c)
theorem smallL.nil : smallL [] := fun _ h => nomatch h
theorem small_rest {α : Type} {f : α → List Nat} {z : Nat} (hz : z < 0x110000) : ∀ l : List α, (∀ x ∈ l, smallL (f x)) → smallL (restL f z l)
  | [], _ => .cons hz .nil
  | x :: l, h => .cons (by decide) (.cons (by decide) ((h x List.mem_cons_self).app (small_rest hz l fun y hy => h y (List.mem_cons_of_mem _ hy))))
theorem small_whole {α : Type} {f : α → List Nat} {z : Nat} (hz : z < 0x110000) : ∀ l : List α, (∀ x ∈ l, smallL (f x)) → smallL (wholeL f z l)
  | [], _ => .cons hz .nil
  | x :: l, h => (h x List.mem_cons_self).app (small_rest hz l fun y hy => h y (List.mem_cons_of_mem _ hy))
theorem small_tup {α : Type} {f : α → List Nat} : ∀ l : List α, (∀ x ∈ l, smallL (f x)) → smallL (tupL f l)
  | [], _ => .cons (by decide) .nil
  | [x], h => (h x List.mem_cons_self).app (.cons (by decide) (.cons (by decide) .nil))
  | x :: y :: l, h => (h x List.mem_cons_self).app (small_rest (by decide) (y :: l) fun y hy => h y (List.mem_cons_of_mem _ hy))
theorem small_int {i : Int} (h : okI i) : smallL (fdI i) := .cons (by have := h.1; have := h.2; omega) .nil
theorem small_word {z : Str} (h : isWordS z = true) : smallL (fz z) := .cons (by decide) (smallL.app (fun c hc => by
  have k := List.all_eq_true.mp h c hc
  unfold lowC at k
  simp only [Bool.and_eq_true, decide_eq_true_eq] at k
  omega) (.cons (by decide) .nil))
theorem small_told : ∀ {o : Option Str}, (∀ z, o = some z → isWordS z = true) → smallL (ft o)
  | none, _ => .cons (by decide) (.cons (by decide) (.cons (by decide) (.cons (by decide) .nil)))
  | some z, h => small_word (h z rfl)
theorem small_mv {m : Mv} (h : okM m) : smallL (fm m) := .cons (by decide) ((small_int h.1).app (.cons (by decide) (.cons (by decide) ((small_told h.2).app (.cons (by decide) .nil)))))
theorem small_ent {e : Str × Mv} (h : okE e) : smallL (fe e) := (small_word h.1).app (.cons (by decide) (.cons (by decide) (small_mv h.2)))
theorem small_row {r : Rw} (h : okR r) : smallL (fr r) := .cons (by decide) (small_whole (by decide) r fun e he => small_ent (h e he))
theorem small_rows {rows : List Rw} (h : ∀ r ∈ rows, okR r) : smallL (frs rows) := .cons (by decide) (small_whole (by decide) rows fun r hr => small_row (h r hr))
theorem small_ends {ends : List Int} (h : ∀ i ∈ ends, okI i) : smallL (fen ends) := .cons (by decide) (small_tup ends fun i hi => small_int (h i hi))
theorem shown_ok {rows : List Rw} {ends : List Int} {b : Int} (h : Okn rows ends b) : PyData.strOk (shownR rows ends b) = true := by
  have k : smallL (tl (shownR rows ends b)) := by
    rw [shownR_tl h]
    have c1 : smallL (tl ("Reader(" : Str)) := fun c hc => by
      have : ((tl ("Reader(" : Str)).all fun c => decide (c < 0x110000)) = true := by decide +kernel
      exact of_decide_eq_true (List.all_eq_true.mp this c hc)
    have c2 : smallL (tl (", start=" : Str)) := fun c hc => by
      have : ((tl (", start=" : Str)).all fun c => decide (c < 0x110000)) = true := by decide +kernel
      exact of_decide_eq_true (List.all_eq_true.mp this c hc)
    exact c1.app ((small_rows h.r).app (.cons (by decide) (.cons (by decide) ((small_ends h.e).app (c2.app ((small_int h.b).app (.cons (by decide) .nil)))))))
  unfold PyData.strOk
  rw [← Array.all_toList, List.all_eq_true]
  intro c hc
  exact decide_eq_true (k c hc)
theorem strs_shaped' {l : List Str} (h : ∀ z ∈ l, PyData.strOk z = true) : SeqAt.shaped (strsD l) = true ∧ PyData.eqv (strsD l) (strsD l) = true := by
  have k : ∀ {l : List Str}, (∀ z ∈ l, PyData.strOk z = true) → PyData.canLayAll0 (l.map PyData.str) = true ∧ PyData.depthAll (l.map PyData.str) ≤ 2 := by
    intro l
    induction l with
    | nil => exact fun _ => ⟨rfl, by simp [PyData.depthAll]⟩
    | cons z l ih =>
      intro h
      obtain ⟨k1, k2⟩ := ih fun y hy => h y (List.mem_cons_of_mem _ hy)
      refine ⟨?_, ?_⟩
      · show (PyData.canLay0 (.str z) && PyData.canLayAll0 (l.map PyData.str)) = true
        rw [k1, Bool.and_true]
        simpa [PyData.canLay0] using h z List.mem_cons_self
      · simp only [List.map_cons, PyData.depthAll, PyData.depth]
        omega
  obtain ⟨k1, k2⟩ := k h
  have c0 : PyData.canLay0 (strsD l) = true := by
    show PyData.canLay0 (.list (l.map PyData.str)) = true
    rw [PyData.canLay0]
    exact k1
  refine ⟨?_, SeqAt.eqv_refl _ c0⟩
  show (PyData.canLay0 _ && decide _) = true
  rw [c0, Bool.true_and, decide_eq_true_eq]
  simp only [strsD, PyData.depth]
  omega
/-! ### rows by ascending signs -/
def Can (rows : List Rw) : Prop := ∀ r ∈ rows, (r.map (·.1)).Nodup ∧ sortedS (r.map (·.1)) = true
theorem Ascs.can : ∀ {a b : List Rw}, Ascs a b → (∀ r ∈ a, (r.map (·.1)).Nodup) → Can b
  | _, _, .nil, _ => fun r h => nomatch h
  | _, _, .cons p s h, n => fun r hr => by
    rcases List.mem_cons.mp hr with e | hr
    · rw [e]
      exact ⟨(p.map _).nodup_iff.mp (n _ List.mem_cons_self), s⟩
    · exact h.can (fun r hr => n r (List.mem_cons_of_mem _ hr)) r hr
theorem Ascs.unique : ∀ {a b c : List Rw}, Ascs a b → Ascs a c → (∀ r ∈ a, (r.map (·.1)).Nodup) → b = c
  | _, _, _, .nil, .nil, _ => rfl
  | _, _, _, .cons p s h, .cons q t k, n => by
    rw [row_unique (n _ List.mem_cons_self) p.symm q.symm s t, h.unique k fun r hr => n r (List.mem_cons_of_mem _ hr)]
theorem Perms.ascs : ∀ {a b c : List Rw}, Perms a b → Ascs b c → Ascs a c
  | _, _, _, .nil, .nil => .nil
  | _, _, _, .cons p h, .cons q s k => .cons (p.trans q) s (h.ascs k)
theorem row_same : ∀ {r r' : Rw}, r.map (·.1) = r'.map (·.1) → (r.map (·.1)).Nodup → (∀ e ∈ r, r'.lookup e.1 = some e.2) → r = r'
  | [], [], _, _, _ => rfl
  | [], _ :: _, h, _, _ => nomatch h
  | _ :: _, [], h, _, _ => nomatch h
  | e :: t, e' :: t', h, nd, k => by
    obtain ⟨h1, h2⟩ := List.cons.inj (show e.1 :: t.map (·.1) = e'.1 :: t'.map (·.1) from h)
    obtain ⟨n1, n2⟩ := List.nodup_cons.mp (show (e.1 :: t.map (·.1)).Nodup from nd)
    have k0 := k e List.mem_cons_self
    obtain ⟨z, m⟩ := e
    obtain ⟨z', m'⟩ := e'
    obtain rfl : z = z' := h1
    have em : m' = m := by
      have : List.lookup z ((z, m') :: t') = some m := k0
      simpa [List.lookup] using this
    subst em
    rw [row_same h2 n2 fun x hx => ?_]
    have kx : List.lookup x.1 ((z, m') :: t') = some x.2 := k x (List.mem_cons_of_mem _ hx)
    have ne : x.1 ≠ z := fun e => n1 (by rw [← e]; exact List.mem_map.mpr ⟨x, hx, rfl⟩)
    have nb : (x.1 == z) = false := by simpa using ne
    rw [List.lookup_cons, nb] at kx
    exact kx
theorem lookup_key {z : Str} {m : Mv} : ∀ {r : Rw}, r.lookup z = some m → z ∈ r.map (·.1)
  | [], h => nomatch h
  | (z', m') :: r, h => by
    rw [List.lookup_cons] at h
    cases c : z == z' with
    | true =>
      have : z = z' := by simpa using c
      rw [this]
      exact List.mem_cons_self
    | false =>
      rw [c] at h
      exact List.mem_cons_of_mem _ (lookup_key h)
theorem rowEq_true {r r' : Rw} (n : (r.map (·.1)).Nodup) (s : sortedS (r.map (·.1)) = true) (s' : sortedS (r'.map (·.1)) = true) (h : rowEq r r' = true) : r = r' := by
  unfold rowEq at h
  obtain ⟨h1, h2⟩ := Bool.and_eq_true_iff.mp h
  have h1 : r.length = r'.length := by simpa using h1
  have k : ∀ e ∈ r, r'.lookup e.1 = some e.2 := fun e he => of_decide_eq_true (List.all_eq_true.mp h2 e he)
  have p : (r'.map (·.1)).Perm (r.map (·.1)) := perm_of_all n (fun z hz => by
    obtain ⟨e, he, rfl⟩ := List.mem_map.mp hz
    exact lookup_key (k e he)) (by rw [List.length_map, List.length_map, h1])
  exact row_same (sorted_unique s s' p.symm) n k
theorem rowsB_true : ∀ {a b : List Rw}, Can a → Can b → rowsB a b = true → a = b
  | [], [], _, _, _ => rfl
  | [], _ :: _, _, _, h => nomatch h
  | _ :: _, [], _, _, h => nomatch h
  | r :: a, r' :: b, ca, cb, h => by
    obtain ⟨h1, h2⟩ := Bool.and_eq_true_iff.mp (show (rowEq r r' && rowsB a b) = true from h)
    obtain ⟨n, s⟩ := ca r List.mem_cons_self
    obtain ⟨_, s'⟩ := cb r' List.mem_cons_self
    rw [rowEq_true n s s' h1, rowsB_true (fun r hr => ca r (List.mem_cons_of_mem _ hr)) (fun r hr => cb r (List.mem_cons_of_mem _ hr)) h2]
theorem rowsB_self : ∀ {a : List Rw}, Can a → rowsB a a = true
  | [], _ => rfl
  | r :: a, ca => by
    show (rowEq r r && rowsB a a) = true
    rw [rowEq_self (ca r List.mem_cons_self).1, rowsB_self fun r hr => ca r (List.mem_cons_of_mem _ hr)]
    rfl
theorem rdEq_self {rows : List Rw} {ends : List Int} {b : Int} (c : Can rows) : rdEq rows rows ends ends b b = true := by
  unfold rdEq
  rw [rowsB_self c]
  simp
theorem rdEq_shown {rows rows' : List Rw} {ends ends' : List Int} {b b' : Int} (h : Okn rows ends b) (h' : Okn rows' ends' b') (c : Can rows) (c' : Can rows') :
    rdEq rows rows' ends ends' b b' = decide (shownR rows ends b = shownR rows' ends' b') := by
  by_cases e : shownR rows ends b = shownR rows' ends' b'
  · obtain ⟨e1, e2, e3⟩ := shownR_inj h h' e
    subst e1 e2 e3
    rw [rdEq_self c]
    simp
  · rw [decide_eq_false e]
    cases k : rdEq rows rows' ends ends' b b' with
    | false => rfl
    | true =>
      unfold rdEq at k
      simp only [Bool.and_eq_true, decide_eq_true_eq, beq_iff_eq] at k
      obtain ⟨k1, k2, k3⟩ := k
      rw [rowsB_true c c' k1, k2, k3] at e
      exact (e rfl).elim
end Sl
/-! ## U2 -/
set_option Elab.async false
set_option linter.all false
set_option maxRecDepth 100000
set_option maxHeartbeats 4000000
set_option pp.maxSteps 1500
set_option pp.deepTerms false
/-! readers of a model -/
namespace Sl
open PySem PySem.Spec PyProof.Rows L2 TxS
/-- the reader at p, made of the model at M: its rows, ends, start -/
structure OfM (C : Addr) (H : Hp) (p M : Addr) (rows' : List Rw) (ns' : List Int) (b : Int) : Prop where
  ex : ∃ (L E : Addr) (ds : List Addr) (rows : List Rw) (ns : List Int) (ys ts : List Str), ReaderX C H p rows' ns' b ys ts ∧ Ascs rows rows' ∧ ns'.Perm ns ∧ ns'.Pairwise (· ≤ ·) ∧
    Gath ys (keysOf rows) ∧ sortedS ys = true ∧ Gath ts (toldsOf rows) ∧ sortedS ts = true ∧ ModelAt H M L E ds rows ns b ∧ Md rows ns b
theorem OfM.ext {C p M : Addr} {H H' : Hp} {rows' : List Rw} {ns' : List Int} {b : Int} (h : OfM C H p M rows' ns' b) (x : Ext H H') : OfM C H' p M rows' ns' b := by
  obtain ⟨L, E, ds, rows, ns, ys, ts, a1, a2, a3, a4, a5, a6, a7, a8, a9, a10⟩ := h.ex
  exact ⟨L, E, ds, rows, ns, ys, ts, a1.ext x, a2, a3, a4, a5, a6, a7, a8, a9.ext x, a10⟩
theorem OfM.both {C p M : Addr} {H : Hp} {rows' : List Rw} {ns' : List Int} {b : Int} (h : OfM C H p M rows' ns' b) : Both C H p M := by
  obtain ⟨L, E, ds, rows, ns, ys, ts, a1, a2, a3, a4, a5, a6, a7, a8, a9, a10⟩ := h.ex
  exact ⟨L, E, ds, rows, rows', ns, ns', b, ys, ts, a1, a2, a3, a4, a5, a6, a7, a8, a9, a10⟩
theorem OfM.at_ {C p M : Addr} {H : Hp} {rows' : List Rw} {ns' : List Int} {b : Int} (h : OfM C H p M rows' ns' b) : ReaderAt C H p rows' ns' b := by
  obtain ⟨L, E, ds, rows, ns, ys, ts, a1, _⟩ := h.ex
  exact a1.plain
theorem OfM.md {C p M : Addr} {H : Hp} {rows' : List Rw} {ns' : List Int} {b : Int} (h : OfM C H p M rows' ns' b) : Md rows' ns' b := by
  obtain ⟨L, E, ds, rows, ns, ys, ts, a1, a2, a3, a4, a5, a6, a7, a8, a9, a10⟩ := h.ex
  exact a10.perm a2.perms a3
theorem OfM.can {C p M : Addr} {H : Hp} {rows' : List Rw} {ns' : List Int} {b : Int} (h : OfM C H p M rows' ns' b) : Can rows' := by
  obtain ⟨L, E, ds, rows, ns, ys, ts, a1, a2, a3, a4, a5, a6, a7, a8, a9, a10⟩ := h.ex
  exact a2.can fun r hr => (a10.ok r hr).2.1
theorem OfM.ndr {C p M : Addr} {H : Hp} {rows' : List Rw} {ns' : List Int} {b : Int} (h : OfM C H p M rows' ns' b) : NdR rows' := fun r hr => (h.can r hr).1
theorem OfM.model {C p M : Addr} {H : Hp} {rows' : List Rw} {ns' : List Int} {b : Int} (h : OfM C H p M rows' ns' b) : ∃ (L E : Addr) (ds : List Addr), H M = some (.tup [.ref L, .ref E, .int b]) ∧ H L = some (.lst (ds.map V.ref)) := by
  obtain ⟨L, E, ds, rows, ns, ys, ts, a1, a2, a3, a4, a5, a6, a7, a8, a9, a10⟩ := h.ex
  exact ⟨L, E, ds, a9.h1, a9.h2⟩
theorem OfM.shown {C p M : Addr} {H : Hp} {rows' : List Rw} {ns' : List Int} {b : Int} {Q : VK} {E : XK} (h : OfM C H p M rows' ns' b) (k : ∀ H', Ext H H' → Q (.str (shownR rows' ns' b)) H') : spShown [.ref M] H Q E := by
  obtain ⟨L, E, ds, rows, ns, ys, ts, a1, a2, a3, a4, a5, a6, a7, a8, a9, a10⟩ := h.ex
  refine ⟨M, L, E, ds, rows, ns, b, rfl, a9, a10, fun H' rowsC nsC x as pm rise => ?_⟩
  obtain rfl : rowsC = rows' := as.unique a2 fun r hr => (a10.ok r hr).2.1
  obtain rfl : nsC = ns' := ints_unique rise a4 (pm.trans a3.symm)
  exact k H' x
theorem OfM.repr {C p M : Addr} {H : Hp} {rows' : List Rw} {ns' : List Int} {b : Int} {Q : VK} {E : XK} (h : OfM C H p M rows' ns' b) (k : Q (.str (shownR rows' ns' b)) H) : spReprR C [.ref p] H Q E := ⟨p, rows', ns', b, rfl, h.at_, h.md.show, k⟩
theorem OfM.are {C p q M N : Addr} {H : Hp} {rows rows' : List Rw} {ns ns' : List Int} {b b' : Int} {d : Bool} {Q : VK} {E : XK} (h : OfM C H p M rows ns b) (h' : OfM C H q N rows' ns' b') (hd : d = decide (shownR rows ns b = shownR rows' ns' b'))
    (k : ∀ H', Ext H H' → Q (.bl true) H') : spAre C [.ref p, .ref q, .bl d] H Q E :=
  ⟨p, q, rows, rows', ns, ns', b, b', d, rfl, h.at_, h'.at_, h.ndr, h'.ndr, by rw [hd, rdEq_shown h.md.okn h'.md.okn h.can h'.can], by
    rw [hd, rdEq_shown h'.md.okn h.md.okn h'.can h.can]
    exact decide_eq_decide.mpr eq_comm, k⟩
theorem OfM.tells {C p M : Addr} {H : Hp} {rows' : List Rw} {ns' : List Int} {b : Int} {Q : VK} {E : XK} (h : OfM C H p M rows' ns' b) (k : ∀ H', Ext H H' → Q (.bl true) H') : spTells C [.ref p, .ref M] H Q E := ⟨p, M, rfl, h.both, k⟩
theorem OfM.strOk {C p M : Addr} {H : Hp} {rows' : List Rw} {ns' : List Int} {b : Int} (h : OfM C H p M rows' ns' b) : PyData.strOk (shownR rows' ns' b) = true := shown_ok h.md.okn
theorem dec_str (a c : Str) : decide (V.str a = V.str c) = decide (a = c) := decide_eq_decide.mpr ⟨fun h => by injection h, fun h => by rw [h]⟩
theorem gath_same {l S S' : List Str} (g : Gath l S) (h : ∀ z, z ∈ S ↔ z ∈ S') : Gath l S' := ⟨g.1, fun z => (g.2 z).trans (h z)⟩
/-- what comes of a reader made of them -/
def OutX (C : Addr) (H : Hp) (rows : List Rw) (ns : List Int) (b : Int) (QQ : Addr → Hp → Prop) : Prop := ∀ (H' : Hp) (x : Addr) (rows' : List Rw) (ns' : List Int) (ys ts : List Str), Ext H H' → H x = none → Ascs rows rows' → ns'.Perm ns → ns'.Pairwise (· ≤ ·) →
  Gath ys (keysOf rows) → sortedS ys = true → Gath ts (toldsOf rows) → sortedS ts = true → ReaderX C H' x rows' ns' b ys ts → NewR C H H' x → QQ x H'
theorem made_initX {K : PySem.W.Frag} {C S En : Addr} {H : Hp} {ks ke : Bool} {ds : List Addr} {rows : List Rw} {ns : List Int} {b : Int} {QQ : Addr → Hp → Prop} {E : XK} (m : MkA K H ke En ds rows ns b) (hS : SqK K ks H S (ds.map V.ref)) (o : OutX C H rows ns b QQ) :
    ∀ x dx, H x = none → H dx = none → dx ≠ x → spInit K C [.ref x, .ref S, .ref En, .int b] (upd (upd H dx (.own x)) x (.ins C dx [])) (fun v H3 => v = .non ∧ QQ x H3) E := by
  intro x dx nx ndx ne
  have e1 : Ext H (upd (upd H dx (.own x)) x (.ins C dx [])) := (Ext.new ndx).trans (Ext.new (by rw [upd_ne (Ne.symm ne)]; exact nx))
  have i1 : (upd (upd H dx (.own x)) x (.ins C dx [])) x = some (.ins C dx []) := upd_same
  generalize upd (upd H dx (.own x)) x (.ins C dx []) = H1 at e1 i1 ⊢
  obtain ⟨A, B, a1, a2, a3, a4, a5, a6⟩ := m.AB
  refine ⟨ks, ke, x, dx, S, En, ds, rows, ns, b, A, B, rfl, i1, hS.ext e1, m.hr.ext e1, m.l1, m.l12, m.ok, m.hE.ext e1, m.nl, m.nnd, m.nin, m.b0, m.bn, a1, a2, a3, a4, a5, a6, fun H' rows' ns' ys ts k p1 p2 p3 p4 p5 p6 p7 p8 p9 => ⟨rfl, ?_⟩⟩
  exact o H' x rows' ns' ys ts (fun b' o' e => k _ _ (e1 _ _ e) (ne_of_none e nx)) nx p1 p2 p3 p4 p5 p6 p7 p8 (p9.ext e1)
/-- a reader of one state without moves -/
def Bare (C : Addr) (H : Hp) (p : Addr) : Prop := ReaderAt C H p [[]] [] 0
theorem erow_ok : ∀ r ∈ ([[]] : List Rw), okRow ((1 : Nat) : Int) r ∧ (r.map (·.1)).Nodup ∧ r.length < 64 := fun r hr => by
  rw [List.mem_singleton.mp hr]
  exact ⟨(fun e he => by cases he), List.nodup_nil, by decide⟩
theorem erow_AB : ∃ A B : List Str, (∀ z ∈ keysOf ([[]] : List Rw), z ∈ A) ∧ A.length ≤ 6 ∧ (∀ z ∈ toldsOf ([[]] : List Rw), z ∈ B) ∧ B.length < 64 ∧ (B.filter signS).length ≤ 4 ∧ (B.filter markS).length ≤ 6 :=
  ⟨[], [], fun z hz => hz, by decide, fun z hz => hz, by decide, by decide, by decide⟩
theorem erow_mk {K : PySem.W.Frag} {H : Hp} {T d : Addr} (hT : SqT K H T []) (hd : H d = some (.dK [])) : MkA K H false T [d] [[]] [] 0 :=
  ⟨.cons ⟨[], hd, .nil⟩ .nil, by decide, by decide, erow_ok, hT, by decide, List.nodup_nil, (fun i hi => by cases hi), by decide, by decide, erow_AB⟩
theorem erow_asc {r : List Rw} (h : Ascs [[]] r) : r = [[]] := by
  cases h with
  | cons p s k =>
    cases k
    rw [List.nil_perm.mp p]
theorem bare_shown : shownR [[]] [] 0 = ("Reader([{}], (), start=0)" : Str) := by decide +kernel
theorem bare_show : RdShow [[]] [] 0 := ⟨by decide +kernel, by decide +kernel, by decide +kernel, by decide +kernel, by rw [bare_shown]; decide +kernel⟩
end Sl
/-! ## U3 -/
set_option Elab.async false
set_option linter.all false
set_option maxRecDepth 100000
set_option maxHeartbeats 8000000
set_option pp.maxSteps 1200
set_option pp.deepTerms false
/-! _law_right -/
namespace Sl
open PySem PySem.Spec PyProof.Rows L2 TxS
abbrev sRight : Stmt := top 42
def spRight : Sp := fun vs H Q _ => ∃ a, vs = [.ref a] ∧ Rng H a ∧ ∀ H', Keep a H H' → Q (.bl true) H'
abbrev nRight : List Str := ["_law_rng_here", "_law_letters_here", "_law_model", "_law_rows", "_law_one", "_law_two", "_law_bent_here", "_law_other_here", "_law_due", "_law_things_here", "_law_bare", "_law_thing"]
section
variable {P : Program} {w : World} {K : PySem.W.Frag} {mg : Str → Option Value} {base : Heap}
theorem scRight : FnScope nRight ["_law_rng_here"] (defScope sRight) := ⟨rfl, rfl, rfl, by decide +kernel, rfl, by decide +kernel, by decide +kernel⟩
theorem ok_right {f fLt fFm fMk fTu fMx fBy fOt fRd fSh fAr fTl C fI fO pO fE fRp T0 T1 : Addr} {fd fdLt fdFm fdMk fdTu fdMx fdBy fdOt fdRd fdSh fdAr fdTl fdI fdE fdRp : FuncData} {g1 g2 g3 : List Value → List Value → List Value} {dsB : List Value} {mc u12 : Value}
    (F : Fun K "_law_right" "_law_right" sRight f fd)
    (aLt : At K mg "_law_letters" fLt fdLt ["_law_rng_here", "_law_many"] []) (gLt : FnOk P w K mg base CX0 2 fLt fdLt ["_law_rng_here", "_law_many"] spLetters)
    (aFm : At K mg "_law_format" fFm fdFm ["_law_rng_here", "_law_cap", "_law_paper", "_law_tells_here", "_law_marks_here"] []) (gFm : FnOk P w K mg base CX0 4 fFm fdFm ["_law_rng_here", "_law_cap", "_law_paper", "_law_tells_here", "_law_marks_here"] spFormat)
    (aMk : At K mg "_law_marks" fMk fdMk ["_law_rng_here", "_law_many"] []) (gMk : FnOk P w K mg base CX0 2 fMk fdMk ["_law_rng_here", "_law_many"] spMarks)
    (aTu : At K mg "_law_turned" fTu fdTu ["_law_rng_here", "_law_rows"] []) (gTu : FnOk P w K mg base CX0 3 fTu fdTu ["_law_rng_here", "_law_rows"] spTurned)
    (aMx : At K mg "_law_mixed" fMx fdMx ["_law_rng_here", "_law_some"] []) (gMx : FnOk P w K mg base CX0 2 fMx fdMx ["_law_rng_here", "_law_some"] spMixed)
    (aBy : At K mg "_law_by_of" fBy fdBy ["_law_model"] []) (gBy : FnOk P w K mg base CX0 8 fBy fdBy ["_law_model"] (spByOf C))
    (aOt : At K mg "_law_other" fOt fdOt ["_law_rng_here", "_law_model"] []) (gOt : FnOk P w K mg base CX0 3 fOt fdOt ["_law_rng_here", "_law_model"] spOther)
    (aRd : At K mg "_law_reader" fRd fdRd ["_law_model"] []) (gRd : FnOk P w K mg base CX0 7 fRd fdRd ["_law_model"] (spReaderL C))
    (aSh : At K mg "_law_shown" fSh fdSh ["_law_model"] []) (gSh : FnG P w K mg base CX0 1 fSh fdSh ["_law_model"] spShown)
    (aAr : At K mg "_law_are" fAr fdAr ["_law_one", "_law_other_here", "_law_due"] []) (gAr : FnG P w K mg base CX0 3 fAr fdAr ["_law_one", "_law_other_here", "_law_due"] (spAre C))
    (aTl : At K mg "_law_tells" fTl fdTl ["_law_made", "_law_model"] []) (gTl : FnOk P w K mg base CX0 4 fTl fdTl ["_law_made", "_law_model"] (spTells C))
    (T : RdC K C) (iC : C8.InsC K C) (gC : mg "Reader" = some (.ref C)) (M : Mk K C fI) (gI : FnOk P w K mg base CX0 5 fI fdI ["self", "states", "ends", "start"] (spInit K C))
    (k3 : KBn K fdI ["self", "states", "ends", "start"] 3 ["start"] g1 (fun vs zs => vs ++ zs)) (k1 : KBn K fdI ["self", "states", "ends", "start"] 1 ["states"] g2 (fun vs zs => vs ++ (zs ++ [.ref T0, .int 0])))
    (k2 : KBn K fdI ["self", "states", "ends", "start"] 2 ["start"] g3 (fun vs zs => vs ++ ([.ref T0] ++ zs))) (bB : L2.Binds K fdI ["self", "states", "ends", "start"] dsB) (dB : Vals [.ref T0, .int 0] dsB)
    (hT0 : ∀ H, SqT K H T0 []) (hT1 : ∀ H, SqT K H T1 []) (rC : ClX.CRead K C mc) (cO : ClX.CMet K C mc "of" pO fO) (gO : OfFn P w K mg base 7 fO C [] (fun vs _ H Q => spOf K C vs [.ref T1, .int 0] H Q))
    (cv : ClX.CVal K C mc "MAX_STATES" (.int 12) u12) (c12 : Con K C "MAX_STATES" (.int 12) u12)
    (eC : EqC K C fE fdE) (gE : FnOk P w K mg base CX0 1 fE fdE ["self", "other"] (spEqR K C)) (nb : NotB K C)
    (mR : L2.Meth K C "__repr__" fRp) (bR : L2.Binds K fdRp ["self"] []) (gR : FnG P w K mg base CX0 1 fRp fdRp ["self"] (spReprR C))
    (zt : mg "tuple" = none) (zp : mg "repr" = none) (zy : mg "any" = none) :
    FnG P w K mg base CX0 9 f fd ["_law_rng_here"] spRight := by
  refine Sl.Fun.okG F scRight (fun vs H Q E h => ?_) (fun cdv A0 outer s H vs Q E0 gd hr h => ?_)
  · obtain ⟨a, rfl, _⟩ := h
    rfl
  · obtain ⟨a, rfl, hR, k⟩ := h
    have hr1 : Room 1 _ := hr.mono (by decide)
    have hr2 : Room 2 _ := hr.mono (by decide)
    have hr3 : Room 3 _ := hr.mono (by decide)
    have hr4 : Room 4 _ := hr.mono (by decide)
    have hr6 : Room 6 _ := hr.mono (by decide)
    have hr7 : Room 7 _ := hr.mono (by decide)
    have hu0 := hr.units
    -- the third part: values that are no readers, readers that are left bare
    obtain ⟨tC, hC, pC⟩ : ∃ t, PSs (cxOf CX0 P w K mg base nRight "_law_right" (defScope sRight) f cdv A0 outer s H E0) (List.drop 9 (defBody sRight)) t ∧
        ∀ (H4 : Hp) (p q r M1 M3 v1 v3 : Addr) (d : Bool) (rows1 rows3 : List Rw) (ns1 ns3 : List Int) (b1 b3 : Int), Keep a H H4 → OfM C H4 p M1 rows1 ns1 b1 → OfM C H4 r M3 rows3 ns3 b3 →
          t { nx := fun _ H' => Q .non H', rt := Q } [some (.ref a), some (.ref v1), some (.ref M1), some (.ref v3), some (.ref p), some (.ref q), some (.ref M3), some (.ref r), some (.bl d), none, none, none] H4 := by
      refine ⟨_, pss_cons (ps_set (i := 9) scRight.nd rfl (.inl rfl) (pe_lst (pa_cons pe_non (pa_cons pe_int (pa_cons pe_str (pa_cons (pe_lst pa_nil) (pa_cons (pe_tup pa_nil) (pa_cons pe_dnewK (pa_cons (pe_callB (call_reprO mR gR gd hr2 bR) (by rfl) zp (by decide +kernel) (pa_cons (pv 4) pa_nil))
            (pa_cons (pv 2) (pa_cons (pe_ix ix_tup (pv 2) pe_int (fun _ _ => rfl)) (pa_cons (pe_lst (pa_cons (pv 4) pa_nil)) (pa_cons (pe_tup (pa_cons (pv 4) pa_nil)) pa_nil)))))))))))))
          (pss_cons (ps_if (pt_val (pe_callB (cr_any rfl) (by rfl) zy (by decide +kernel) (pa_cons (pe_lc (own := [("_law_thing", 11)]) (g := gName 11) (tt := tYes) (te := tOrV (tOp (rEqO K C (spEqR K C) fun _ _ _ => False) (tVar 4) (tVar 11)) (tOp (rEqX C (spEqR K C) fun _ _ _ => False) (tVar 11) (tVar 4))) rfl scRight.nd (pi_list (pv 9)) (blkOk_by (N := nRight) (sc := defScope sRight) (by decide +kernel))
              (fun _ _ _ _ _ => pg_name (i := 11) scRight.nd rfl (Or.inl rfl)) (fun _ _ _ _ _ => pts_nil) (fun _ _ _ _ _ => pe_or (pe_cmpR (op_eqO (E := fun _ _ _ => False) gE hr1 eC.hs eC.hf eC.hb (fun _ _ _ _ _ _ _ z => z.elim)) (pv 4) (pv 11) (nomark _)) (pe_one (pe_cmpR (op_eqX (E := fun _ _ _ => False) gE hr1 nb eC.hs eC.hf eC.hb (fun _ _ _ _ _ _ _ z => z.elim)) (pv 11) (pv 4) (nomark _))))) pa_nil))) (pss_one (ps_ret pe_bl)) pss_nil)
          (pss_cons (ps_set (i := 10) scRight.nd rfl (.inl rfl) (pe_lst (pa_cons (pe_of (pe_glob (v := .ref C) (by rfl) gC (show RelV (V.ref C) (Value.ref C) from rfl)) rC cO gO hr7 (pa_cons pe_dnewK pa_nil) pk_nil)
            (pa_cons (pe_make (E := fun _ _ _ => False) M gI hr6 (by rfl) gC bB dB pass0 (pa_cons (pe_lst (pa_cons pe_dnewK pa_nil)) pa_nil))
            (pa_cons (pe_makeK0 (E := fun _ _ _ => False) M gI hr6 (by rfl) gC k1 pass0 (pk_cons (pe_tup (pa_cons pe_dnewK pa_nil)) pk_nil))
            (pa_cons (pe_makeK (E := fun _ _ _ => False) M gI hr6 (by rfl) gC k2 pass0 (pa_cons (pe_lst (pa_cons pe_dnewK pa_nil)) pa_nil) (pk_cons pe_int pk_nil)) pa_nil))))))
          (pss_cons (ps_if (pt_cmpR (op_neD hu0) (pe_lc (own := [("_law_thing", 11)]) (g := gName 11) (tt := tYes) (te := tCB (rReprO C (spReprR C)) (tCons (tVar 11) tNil)) rfl scRight.nd (pi_list (pv 10)) (blkOk_by (N := nRight) (sc := defScope sRight) (by decide +kernel))
              (fun _ _ _ _ _ => pg_name (i := 11) scRight.nd rfl (Or.inl rfl)) (fun _ _ _ _ _ => pts_nil) (fun _ _ _ _ _ => pe_callB (call_reprO mR gR gd hr2 bR) (by rfl) zp (by decide +kernel) (pa_cons (pv 11) pa_nil))) (pe_op op_rep (pe_lst (pa_cons pe_str pa_nil)) pe_int) (by rfl)) (pss_one (ps_ret pe_bl)) pss_nil)
          (pss_cons (ps_if (pt_cmpR (op_neD hu0) (pe_lst (pa_cons (ClX.pe_cval (pe_glob (v := .ref C) (by rfl) gC (show RelV (V.ref C) (Value.ref C) from rfl))) (pa_cons (pe_con (pv 4) rfl) pa_nil))) (pe_lst (pa_cons pe_int (pa_cons pe_int pa_nil))) (by rfl)) (pss_one (ps_ret pe_bl)) pss_nil)
          (pss_one (ps_ret (pe_and (pe_call gTl hr4 (by rfl) aTl.g aTl.kp aTl.b .nil pass0 (pa_cons (pv 4) (pa_cons (pv 2) pa_nil))) (pe_one (pe_call gTl hr4 (by rfl) aTl.g aTl.kp aTl.b .nil pass0 (pa_cons (pv 7) (pa_cons (pv 6) pa_nil))))))))))), fun H4 p q r M1 M3 v1 v3 d rows1 rows3 ns1 ns3 b1 b3 k4 o1 o3 => ?_⟩
      obtain ⟨L1, E1, ds1, hM1, hL1⟩ := o1.model
      obtain ⟨dx, fs, _, _, _, hp, _, _, _, _, _, _, hno⟩ := o1.at_.ex
      have sz0 : (0 : Nat) ≤ sizeLine := by decide
      have sz1 : (1 : Nat) ≤ sizeLine := by decide
      have sz2 : (2 : Nat) ≤ sizeLine := by decide
      have sz4 : (4 : Nat) ≤ sizeLine := by decide
      have sz11 : (11 : Nat) ≤ sizeLine := by decide
      -- values that are no readers
      refine ⟨sz0, fun c1 n1 => ⟨sz0, fun c2 n2 => fun c3 n3 => ?_⟩⟩
      have y1 := Ext.new n1 (o := .lst [])
      have e1 : (upd H4 c1 (.lst [])) c1 = some (.lst []) := upd_same
      generalize upd H4 c1 (.lst []) = G1 at y1 e1 n2 n3 ⊢
      have y2 := Ext.new n2 (o := .tup [])
      have e2 : (upd G1 c2 (.tup [])) c2 = some (.tup []) := upd_same
      generalize upd G1 c2 (.tup []) = G2 at y2 e2 n3 ⊢
      have y3 := Ext.new n3 (o := .dK [])
      have e3 : (upd G2 c3 (.dK [])) c3 = some (.dK []) := upd_same
      generalize upd G2 c3 (.dK []) = G3 at y3 e3 ⊢
      have x3 := (y1.trans y2).trans y3
      refine ⟨_, rfl, p, dx, fs, rfl, x3 _ _ hp, (o1.ext x3).repr ⟨_, rfl, ?_⟩⟩
      refine ⟨_, rfl, _, rfl, M1, _, _, .ref L1, rfl, rfl, SqT.of (x3 _ _ hM1), atI_nat (j := 0) rfl, _, rfl, sz1, fun c4 n4 => ⟨_, rfl, sz1, fun c5 n5 => ⟨sz11, fun O nO => ?_⟩⟩⟩
      have y4 := Ext.new n4 (o := .lst [.ref p])
      have e4 : (upd G3 c4 (.lst [.ref p])) c4 = some (.lst [.ref p]) := upd_same
      generalize upd G3 c4 (.lst [.ref p]) = G4 at y4 e4 n5 nO ⊢
      have y5 := Ext.new n5 (o := .tup [.ref p])
      have e5 : (upd G4 c5 (.tup [.ref p])) c5 = some (.tup [.ref p]) := upd_same
      generalize upd G4 c5 (.tup [.ref p]) = G5 at y5 e5 nO ⊢
      generalize hE : ([.non, .int 0, .str "", .ref c1, .ref c2, .ref c3, .str (shownR rows1 ns1 b1), .ref M1, .ref L1, .ref c4, .ref c5] : List V) = Es
      have y6 := Ext.new nO (o := .lst Es)
      have g6 : (upd G5 O (.lst Es)) O = some (.lst Es) := upd_same
      generalize upd G5 O (.lst Es) = G6 at y6 g6 ⊢
      have z5 := y5.trans y6
      have z4 := y4.trans z5
      have z3 := y3.trans z4
      have z2 := y2.trans z3
      have x6 := y1.trans z2
      have lE : Es.length = 11 := by rw [← hE]; rfl
      have things : ∀ H', Ext G6 H' → ∀ x ∈ Es, Thg H' x := fun H' xx x hx => by
        rw [← hE] at hx
        simp only [List.mem_cons, List.not_mem_nil, or_false] at hx
        rcases hx with rfl | rfl | rfl | rfl | rfl | rfl | rfl | rfl | rfl | rfl | rfl
        · exact .non
        · exact .int _
        · exact .str _
        · exact .lst (xx _ _ (z2 _ _ e1))
        · exact .tup (xx _ _ (z3 _ _ e2))
        · exact .dK (xx _ _ (z4 _ _ e3))
        · exact .str _
        · exact .tup (xx _ _ (x6 _ _ hM1))
        · exact .lst (xx _ _ (x6 _ _ hL1))
        · exact .lst (xx _ _ (z5 _ _ e4))
        · exact .tup (xx _ _ (y6 _ _ e5))
      refine ⟨_, rfl, O, rfl, ⟨_, SqL.of g6⟩, fun D nD => ?_⟩
      refine lc_it (walk_list (xs := Es)) (fun i H' => Ext G6 H' ∧ H' D = some (.lst ((List.replicate i false).map V.bl))) ⟨Ext.new nD, upd_same⟩ (fun i H' _ h => SqL.of (h.1 _ _ g6)) ?_ ?_
      · rintro i x H8 H9 hi ⟨x8, d8⟩ ⟨rfl, hx⟩
        have x08 := x6.trans x8
        have th := things _ x8 x (List.mem_of_getElem? hx)
        obtain ⟨Ty, hT, ty⟩ := th.ty (K := K)
        have hp8 := x08 _ _ hp
        have o8 := o1.ext x08
        have fin : ∃ acc, H9 D = some (.lst acc) ∧ acc.length < sizeLine ∧ Ext G6 (upd H9 D (.lst (acc ++ [V.bl false]))) ∧ (upd H9 D (.lst (acc ++ [V.bl false]))) D = some (.lst ((List.replicate (i + 1) false).map V.bl)) := by
          refine ⟨_, d8, by rw [List.length_map, List.length_replicate]; exact small_list (by omega), fun b o e => by rw [upd_ne (ne_of_none e nD)]; exact x8 b o e, ?_⟩
          rw [upd_same, List.replicate_succ', List.map_append]
          rfl
        refine ⟨rfl, _, rfl, _, rfl, p, dx, fs, .type Ty, rfl, hp8, ty, nb.fst Ty hT, p, x, rows1, ns1, b1, rfl, o8.at_, o8.ndr, .inr ⟨.type Ty, ty, nb.kit Ty hT, ⟨_, rfl⟩, ?_⟩⟩
        refine ⟨false, rfl, iteF ?_⟩
        exact ⟨_, rfl, _, rfl, p, dx, fs, rfl, hp8, th, p, x, rows1, ns1, b1, rfl, o8.at_, o8.ndr, .inr ⟨.type Ty, ty, nb.kit Ty hT, ⟨_, rfl⟩, fin⟩⟩
      rintro H8 ⟨x8, d8⟩
      refine ⟨D, List.replicate Es.length false, rfl, SqL.of d8, false, by simp, iteF ?_⟩
      have x08 := x6.trans x8
      -- readers of one state
      refine ⟨rfl, fun d1 nd1 => ?_⟩
      have w1 := Ext.new nd1 (o := .dK [])
      have f1 : (upd H8 d1 (.dK [])) d1 = some (.dK []) := upd_same
      generalize upd H8 d1 (.dK []) = B1 at w1 f1 ⊢
      refine ⟨rfl, false, T1, [d1], _, [], 0, rfl, rfl, erow_mk (hT1 _) f1, fun B2 r1 rw1 nn1 ys1 ts1 x12 nr1 as1 pn1 _ _ _ _ _ RX1 _ => ?_⟩
      obtain rfl := List.perm_nil.mp pn1
      obtain rfl := erow_asc as1
      have b1 : Bare C B2 r1 := RX1.plain
      refine fun d2 nd2 => ⟨sz1, fun l2 nl2 => ?_⟩
      have w2 := Ext.new nd2 (o := .dK [])
      have f2 : (upd B2 d2 (.dK [])) d2 = some (.dK []) := upd_same
      generalize upd B2 d2 (.dK []) = B3 at w2 f2 nl2 ⊢
      have w3 := Ext.new nl2 (o := .lst [.ref d2])
      have f3 : (upd B3 l2 (.lst [.ref d2])) l2 = some (.lst [.ref d2]) := upd_same
      have f2' := w3 _ _ f2
      generalize upd B3 l2 (.lst [.ref d2]) = B4 at w3 f3 f2' ⊢
      refine made_initX (C := C) (E := fun _ _ _ => False) (erow_mk (hT0 _) f2') (SqK.l f3) fun B5 r2 rw2 nn2 ys2 ts2 x45 nr2 as2 pn2 _ _ _ _ _ RX2 _ => ?_
      obtain rfl := List.perm_nil.mp pn2
      obtain rfl := erow_asc as2
      have b2 : Bare C B5 r2 := RX2.plain
      refine fun d3 nd3 => ⟨sz1, fun l3 nl3 => ?_⟩
      have w5 := Ext.new nd3 (o := .dK [])
      have f5 : (upd B5 d3 (.dK [])) d3 = some (.dK []) := upd_same
      generalize upd B5 d3 (.dK []) = B6 at w5 f5 nl3 ⊢
      have w6 := Ext.new nl3 (o := .tup [.ref d3])
      have f6 : (upd B6 l3 (.tup [.ref d3])) l3 = some (.tup [.ref d3]) := upd_same
      have f5' := w6 _ _ f5
      generalize upd B6 l3 (.tup [.ref d3]) = B7 at w6 f6 f5' ⊢
      refine ⟨rfl, rfl, ?_⟩
      refine made_initX (C := C) (E := fun _ _ _ => False) (erow_mk (hT0 _) f5') (SqK.t f6) fun B8 r3 rw3 nn3 ys3 ts3 x78 nr3 as3 pn3 _ _ _ _ _ RX3 _ => ?_
      obtain rfl := List.perm_nil.mp pn3
      obtain rfl := erow_asc as3
      have b3' : Bare C B8 r3 := RX3.plain
      refine fun d4 nd4 => ⟨sz1, fun l4 nl4 => ?_⟩
      have w8 := Ext.new nd4 (o := .dK [])
      have f8 : (upd B8 d4 (.dK [])) d4 = some (.dK []) := upd_same
      generalize upd B8 d4 (.dK []) = B9 at w8 f8 nl4 ⊢
      have w9 := Ext.new nl4 (o := .lst [.ref d4])
      have f9 : (upd B9 l4 (.lst [.ref d4])) l4 = some (.lst [.ref d4]) := upd_same
      have f8' := w9 _ _ f8
      generalize upd B9 l4 (.lst [.ref d4]) = BA at w9 f9 f8' ⊢
      refine ⟨rfl, rfl, ?_⟩
      refine made_initX (C := C) (E := fun _ _ _ => False) (erow_mk (hT0 _) f8') (SqK.l f9) fun BB r4 rw4 nn4 ys4 ts4 xAB nr4 as4 pn4 _ _ _ _ _ RX4 _ => ?_
      obtain rfl := List.perm_nil.mp pn4
      obtain rfl := erow_asc as4
      have b4 : Bare C BB r4 := RX4.plain
      refine ⟨sz4, fun S nS => ?_⟩
      have wS := Ext.new nS (o := .lst [.ref r1, .ref r2, .ref r3, .ref r4])
      have gS : (upd BB S (.lst [.ref r1, .ref r2, .ref r3, .ref r4])) S = some (.lst (([r1, r2, r3, r4] : List Addr).map V.ref)) := upd_same
      generalize upd BB S (.lst [.ref r1, .ref r2, .ref r3, .ref r4]) = BC at wS gS ⊢
      have q4 := ((w8.trans w9).trans xAB).trans wS
      have q3 := ((w5.trans w6).trans x78).trans q4
      have q2 := ((w2.trans w3).trans x45).trans q3
      have q1 := (w1.trans x12).trans q2
      have x0C := x08.trans q1
      have bares : ∀ e ∈ ([r1, r2, r3, r4] : List Addr), Bare C BC e := fun e he => by
        simp only [List.mem_cons, List.not_mem_nil, or_false] at he
        rcases he with rfl | rfl | rfl | rfl
        · exact b1.ext q2
        · exact b2.ext q3
        · exact b3'.ext q4
        · exact b4.ext wS
      generalize hrs : ([r1, r2, r3, r4] : List Addr) = rs at gS bares
      have lrs : rs.length = 4 := by rw [← hrs]; rfl
      refine ⟨_, rfl, S, rfl, ⟨_, SqL.of gS⟩, fun D2 nD2 => ?_⟩
      refine lc_it (walk_list (xs := rs.map V.ref)) (fun i H' => Ext BC H' ∧ H' D2 = some (.lst ((List.replicate i ("Reader([{}], (), start=0)" : Str)).map V.str))) ⟨Ext.new nD2, upd_same⟩ (fun i H' _ h => SqL.of (h.1 _ _ gS)) ?_ ?_
      · rintro i x HA HB hi ⟨xA, dA⟩ ⟨rfl, hx⟩
        obtain ⟨e, he, rfl⟩ := at_map hx
        have be : ReaderAt C HB e [[]] [] 0 := ReaderAt.ext xA (bares e (List.mem_of_getElem? he))
        obtain ⟨dy, gs, _, _, _, hq, _⟩ := be.ex
        refine ⟨rfl, _, rfl, e, dy, gs, rfl, hq, e, [[]], [], 0, rfl, be, bare_show, _, rfl, ?_⟩
        rw [bare_shown]
        refine ⟨_, dA, by rw [List.length_map, List.length_replicate]; rw [List.length_map] at hi; exact small_list (by omega), fun b o e => by rw [upd_ne (ne_of_none e nD2)]; exact xA b o e, ?_⟩
        rw [upd_same, List.replicate_succ', List.map_append]
        rfl
      rintro HA ⟨xA, dA⟩
      rw [List.length_map, lrs] at dA
      refine ⟨sz1, fun l5 nl5 => ⟨l5, 4, [.str ("Reader([{}], (), start=0)" : Str)], rfl, rfl, upd_same, by decide, by decide, by decide, fun l6 nl6 => ?_⟩⟩
      have xB : Ext HA (upd (upd HA l5 (.lst [.str ("Reader([{}], (), start=0)" : Str)])) l6 (.lst (List.replicate (4 : Int).toNat [V.str ("Reader([{}], (), start=0)" : Str)]).flatten)) := (Ext.new nl5).trans (Ext.new nl6)
      have gB : (upd (upd HA l5 (.lst [.str ("Reader([{}], (), start=0)" : Str)])) l6 (.lst (List.replicate (4 : Int).toNat [V.str ("Reader([{}], (), start=0)" : Str)]).flatten)) l6 = some (.lst ((List.replicate 4 ("Reader([{}], (), start=0)" : Str)).map V.str)) := upd_same
      generalize upd (upd HA l5 (.lst [.str ("Reader([{}], (), start=0)" : Str)])) l6 (.lst (List.replicate (4 : Int).toNat [V.str ("Reader([{}], (), start=0)" : Str)]).flatten) = HC at xB gB ⊢
      have sh := strs_shaped' (l := List.replicate 4 ("Reader([{}], (), start=0)" : Str)) fun z hz => by
        rw [(List.mem_replicate.mp hz).2]
        decide +kernel
      refine ⟨strsD (List.replicate 4 ("Reader([{}], (), start=0)" : Str)), strsD (List.replicate 4 ("Reader([{}], (), start=0)" : Str)), .lst (SqL.of (xB _ _ dA)) (strs_dp _), .lst (SqL.of gB) (strs_dp _), sh.1, sh.1, _, rfl, ?_⟩
      rw [sh.2]
      refine iteF ?_
      have xC := x0C.trans (xA.trans xB)
      -- the constant
      refine ⟨C, mc, .int 12, u12, rfl, rC, cv, _, rfl, p, C, dx, fs, .int 12, u12, rfl, xC _ _ hp, T.cl, c12, hno _ (by decide +kernel), sz2, fun l7 nl7 => ⟨sz2, fun l8 nl8 => ?_⟩⟩
      have w7 := Ext.new nl7 (o := .lst [.int 12, .int 12])
      have f7 : (upd HC l7 (.lst [.int 12, .int 12])) l7 = some (.lst [.int 12, .int 12]) := upd_same
      generalize upd HC l7 (.lst [.int 12, .int 12]) = HD at w7 f7 nl8 ⊢
      have wE := Ext.new nl8 (o := .lst [.int 12, .int 12])
      have fE : (upd HD l8 (.lst [.int 12, .int 12])) l8 = some (.lst [.int 12, .int 12]) := upd_same
      generalize upd HD l8 (.lst [.int 12, .int 12]) = HE at wE fE ⊢
      have sh12 : SeqAt.shaped (.list ([12, 12].map PyData.int)) = true := by decide +kernel
      have eq12 : PyData.eqv (.list ([12, 12].map PyData.int)) (.list ([12, 12].map PyData.int)) = true := by decide +kernel
      refine ⟨.list ([12, 12].map PyData.int), .list ([12, 12].map PyData.int), .lst (SqL.of (wE _ _ f7)) (ints_dp [12, 12]), .lst (SqL.of fE) (ints_dp [12, 12]), sh12, sh12, _, rfl, ?_⟩
      rw [eq12]
      refine iteF ?_
      have xE := xC.trans (w7.trans wE)
      refine ⟨_, rfl, _, rfl, ?_⟩
      dsimp only [tNil]
      refine (o1.ext xE).tells fun HF xF => ⟨true, rfl, iteT ⟨_, rfl, _, rfl, ?_⟩⟩
      dsimp only [tNil]
      exact (o3.ext (xE.trans xF)).tells fun HG xG => k _ (k4.trans (Keep.of ((xE.trans xF).trans xG)))
    refine ⟨_, pss_cons (ps_set (i := 1) scRight.nd rfl (.inl rfl) (pe_call gLt hr2 (by rfl) aLt.g aLt.kp aLt.b .nil pass0 (pa_cons (pv 0) (pa_cons pe_int pa_nil))))
        (pss_cons (ps_set (i := 2) scRight.nd rfl (.inl rfl) (pe_call gFm hr4 (by rfl) aFm.g aFm.kp aFm.b .nil pass0 (pa_cons (pv 0) (pa_cons pe_int (pa_cons (pe_slice sl_list (pv 1) po_none (po_some pe_int)) (pa_cons (pe_slice sl_list (pv 1) (po_some pe_int) po_none) (pa_cons (pe_call gMk hr2 (by rfl) aMk.g aMk.kp aMk.b .nil pass0 (pa_cons (pv 0) (pa_cons pe_int pa_nil))) pa_nil)))))))
        (pss_cons (ps_set (i := 3) scRight.nd rfl (.inl rfl) (pe_call gTu hr3 (by rfl) aTu.g aTu.kp aTu.b .nil pass0 (pa_cons (pv 0) (pa_cons (pe_ix ix_tup (pv 2) pe_int (fun _ _ => rfl)) pa_nil))))
        (pss_cons (ps_asg (pe_tup (pa_cons (pe_makeK (E := fun _ _ _ => False) M gI hr6 (by rfl) gC k3 pass0 (pa_cons (pe_callTy call_tuple_of (by rfl) zt (by decide +kernel) (pa_cons (pv 3) pa_nil)) (pa_cons (pe_call gMx hr2 (by rfl) aMx.g aMx.kp aMx.b .nil pass0 (pa_cons (pv 0) (pa_cons (pe_ix ix_tup (pv 2) pe_int (fun _ _ => rfl)) pa_nil))) pa_nil)) (pk_cons (pe_ix ix_tup (pv 2) pe_int (fun _ _ => rfl)) pk_nil))
            (pa_cons (pe_call gBy hr (by rfl) aBy.g aBy.kp aBy.b .nil pass0 (pa_cons (pv 2) pa_nil)) pa_nil))) (pg_tup (by rfl) (pgs_cons (pg_name (i := 4) scRight.nd rfl (.inr rfl)) (pgs_cons (pg_name (i := 5) scRight.nd rfl (.inl rfl)) pgs_nil))))
        (pss_cons (ps_expr (pe_dclear (pe_ix ix_list (pv 3) pe_int (fun _ _ => rfl))))
        (pss_cons (ps_set (i := 6) scRight.nd rfl (.inl rfl) (pe_call gOt hr3 (by rfl) aOt.g aOt.kp aOt.b .nil pass0 (pa_cons (pv 0) (pa_cons (pv 2) pa_nil))))
        (pss_cons (ps_par (i := 7) (j := 8) (by rfl) scRight.nd rfl rfl (by decide) rfl rfl (pa_cons (pe_call gRd hr7 (by rfl) aRd.g aRd.kp aRd.b .nil pass0 (pa_cons (pv 6) pa_nil)) (pa_cons (pe_cmpR op_eq (pe_callG gSh gd hr1 (by rfl) aSh.g aSh.kp aSh.b pass0 (pa_cons (pv 6) pa_nil)) (pe_callG gSh gd hr1 (by rfl) aSh.g aSh.kp aSh.b pass0 (pa_cons (pv 2) pa_nil)) (by rfl)) pa_nil)) (by rfl))
        (pss_cons (ps_if (PW.pt (pw_or (pt_not (pt_val (pe_callG gAr gd hr3 (by rfl) aAr.g aAr.kp aAr.b pass0 (pa_cons (pv 4) (pa_cons (pv 5) (pa_cons pe_bl pa_nil))))))
            (pw_or (pt_not (pt_val (pe_callG gAr gd hr3 (by rfl) aAr.g aAr.kp aAr.b pass0 (pa_cons (pv 4) (pa_cons (pv 7) (pa_cons (pv 8) pa_nil))))))
            (pw_or1 (pt_not (pt_val (pe_callG gAr gd hr3 (by rfl) aAr.g aAr.kp aAr.b pass0 (pa_cons (pv 5) (pa_cons (pv 7) (pa_cons (pv 8) pa_nil)))))))))) (pss_one (ps_ret pe_bl)) pss_nil)
        (pss_cons (ps_if (pt_cmpR (op_neD hu0) (pe_lst (pa_cons (pe_callB (call_reprO mR gR gd hr2 bR) (by rfl) zp (by decide +kernel) (pa_cons (pv 4) pa_nil)) (pa_cons (pe_callB (call_reprO mR gR gd hr2 bR) (by rfl) zp (by decide +kernel) (pa_cons (pv 5) pa_nil)) (pa_cons (pe_callB (call_reprO mR gR gd hr2 bR) (by rfl) zp (by decide +kernel) (pa_cons (pv 7) pa_nil)) pa_nil))))
            (pe_lst (pa_cons (pe_callG gSh gd hr1 (by rfl) aSh.g aSh.kp aSh.b pass0 (pa_cons (pv 2) pa_nil)) (pa_cons (pe_callG gSh gd hr1 (by rfl) aSh.g aSh.kp aSh.b pass0 (pa_cons (pv 2) pa_nil)) (pa_cons (pe_callG gSh gd hr1 (by rfl) aSh.g aSh.kp aSh.b pass0 (pa_cons (pv 6) pa_nil)) pa_nil)))) (by rfl)) (pss_one (ps_ret pe_bl)) pss_nil) hC)))))))), ?_⟩
    have sz2 : (2 : Nat) ≤ sizeLine := by decide
    have sz3 : (3 : Nat) ≤ sizeLine := by decide
    -- the letters
    refine ⟨_, rfl, a, 5, rfl, hR, by decide, fun H1 Lt zs r1 k1 nLt l1 len nd mem => ?_⟩
    rcases zs with _ | ⟨z0, _ | ⟨z1, _ | ⟨z2, _ | ⟨z3, _ | ⟨z4, _ | ⟨z5, zs⟩⟩⟩⟩⟩⟩
    · cases len
    · cases len
    · cases len
    · cases len
    · cases len
    rotate_left
    · simp at len
    clear len
    have nLta := hR.new nLt
    have m0 : z0 ∈ abcL := mem _ (by simp)
    have m1 : z1 ∈ abcL := mem _ (by simp)
    have m2 : z2 ∈ abcL := mem _ (by simp)
    have m3 : z3 ∈ abcL := mem _ (by simp)
    have m4 : z4 ∈ abcL := mem _ (by simp)
    have nd3 : ([z0, z1, z2] : List Str).Nodup := nd.sublist (List.take_sublist 3 [z0, z1, z2, z3, z4])
    clear mem
    -- three for the pages, two for the texts
    refine ⟨_, rfl, _, rfl, 3, rfl, Lt, _, rfl, SqL.of l1, fun Pa nPa => ?_⟩
    rw [show cutV (([z0, z1, z2, z3, z4] : List Str).map V.str) none (some 3) = ([z0, z1, z2] : List Str).map V.str from rfl]
    have xPa : Ext H1 (upd H1 Pa (.lst (([z0, z1, z2] : List Str).map V.str))) := Ext.new nPa
    have hPa : (upd H1 Pa (.lst (([z0, z1, z2] : List Str).map V.str))) Pa = some (.lst (([z0, z1, z2] : List Str).map V.str)) := upd_same
    generalize upd H1 Pa (.lst (([z0, z1, z2] : List Str).map V.str)) = H2 at xPa hPa ⊢
    refine ⟨_, rfl, 3, rfl, Lt, _, rfl, SqL.of (xPa _ _ l1), fun Te nTe => ?_⟩
    rw [show cutV (([z0, z1, z2, z3, z4] : List Str).map V.str) (some 3) none = ([z3, z4] : List Str).map V.str from rfl]
    have xTe : Ext H2 (upd H2 Te (.lst (([z3, z4] : List Str).map V.str))) := Ext.new nTe
    have hTe : (upd H2 Te (.lst (([z3, z4] : List Str).map V.str))) Te = some (.lst (([z3, z4] : List Str).map V.str)) := upd_same
    generalize upd H2 Te (.lst (([z3, z4] : List Str).map V.str)) = H3 at xTe hTe ⊢
    have x13 := xPa.trans xTe
    have r3 := r1.ext x13
    have nPaa := r1.new nPa
    have nTea := (r1.ext xPa).new nTe
    -- two marks, the model
    refine ⟨_, rfl, a, 2, rfl, r3, by decide, fun H4 Ma ms r4 k4 nMa hMa lma ndma oma => ?_⟩
    have nMaa := r3.new nMa
    have ls : Lsts H4 a Pa Te Ma [z0, z1, z2] [z3, z4] ms := ⟨k4 _ _ (xTe _ _ hPa) nPaa, k4 _ _ hTe nTea, hMa, nPaa, nTea, nMaa, nd3, by simp, by simp, by simp, by simp, by omega, by omega⟩
    have kH4 := (k1.trans (Keep.of x13)).trans k4
    refine ⟨a, Pa, Te, Ma, [z0, z1, z2], [z3, z4], ms, rfl, r4, ls, fun H5 M0 L5 E5 ds rows ns b r5 k5 nM nL5 nE nds hM okm => ?_⟩
    have kH5 := kH4.trans k5
    have nML := r4.new nL5
    have nME := r4.new nE
    have dr : Dr4 [z0, z1, z2] [z3, z4] ms rows ns b := ⟨okm, by simp, by simp [m0, m1, m2], by simp, by simp [m3, m4], by omega, oma⟩
    have md := dr.md
    have l4 : rows.length ≤ 4 := okm.hi
    have lo := okm.lo
    have ndR : ∀ r ∈ rows, (r.map (·.1)).Nodup := fun r hr => (md.ok r hr).2.1
    -- the rows turned
    refine ⟨_, rfl, _, rfl, M0, _, _, .ref L5, rfl, rfl, SqT.of hM.h1, atI_nat (j := 0) rfl, a, L5, ds, rows, rfl, r5, hM.h2, nML, hM.h3, by omega, fun r hr => ⟨ndR r hr, by have := (md.ok r hr).2.2; omega⟩, fun H6 D dsT rowsT r6 k6 nD hD wT pT ndT fT => ?_⟩
    have lT : dsT.length = rows.length := by rw [wT.len, ← pT.len]
    obtain ⟨d0, dsr, rfl⟩ : ∃ d0 dsr, dsT = d0 :: dsr := by
      match dsT, lT with
      | [], h => simp at h; omega
      | d0 :: dsr, _ => exact ⟨d0, dsr, rfl⟩
    have nd0 : H5 d0 = none := fT d0 List.mem_cons_self
    have nDa := r5.new nD
    have hM6 := hM.keep k6 r5 nML nME
    -- the first reader
    refine ⟨_, rfl, D, _, rfl, .inl ⟨SqL.of hD, fun T4 nT4 => ?_⟩⟩
    have x67 := Ext.new nT4 (o := .tup ((d0 :: dsr).map V.ref))
    have hT4 : (upd H6 T4 (.tup ((d0 :: dsr).map V.ref))) T4 = some (.tup ((d0 :: dsr).map V.ref)) := upd_same
    generalize upd H6 T4 (.tup ((d0 :: dsr).map V.ref)) = H7 at x67 hT4 ⊢
    have r7 := r6.ext x67
    have hM7 := hM6.ext x67
    refine ⟨_, rfl, _, rfl, M0, _, _, .ref E5, rfl, rfl, SqT.of hM7.h1, atI_nat (j := 1) rfl, a, E5, ns.map V.int, rfl, r7, hM7.h5, nME, by rw [List.length_map]; have := md.nl; omega, fun H8 Ln ys r8 k8 nLn hLn pm => ?_⟩
    obtain ⟨nsT, pns, rfl⟩ := perm_map pm
    have k58 := (k6.trans (Keep.of x67)).trans k8
    have hM8 := hM.keep k58 r5 nML nME
    have w8 : RowsAt H8 (d0 :: dsr) rowsT := (wT.ext x67).keepN k8 r7.notup fun hm => by
      obtain ⟨kvs, e⟩ := (wT.ext x67).mem hm
      exact r7.nodict _ e
    have hT8 : H8 T4 = some (.tup ((d0 :: dsr).map V.ref)) := k8 _ _ hT4 (fun e => r7.notup _ (by rw [← e]; exact hT4))
    have hD8 := k8 _ _ (x67 _ _ hD) nDa
    have mdT := md.perm pT pns
    refine ⟨_, rfl, M0, _, _, .int b, rfl, rfl, SqT.of hM8.h1, atI_nat (j := 2) rfl, rfl, rfl, ?_⟩
    refine made_initX (C := C) (E := fun _ _ _ => False) (mdT.mkA w8 (SqK.l hLn)) (SqK.t hT8) fun H9 p rows1 ns1 ys1 ts1 x89 np as1 pn1 rise1 gy1 sy1 gt1 st1 RX1 NW1 => ?_
    have r9 := r8.ext x89
    have k59 := k58.trans (Keep.of x89)
    have hM9 := hM.keep k59 r5 nML nME
    have as1' : Ascs rows rows1 := pT.ascs as1
    have pn1' := pn1.trans pns
    -- the second one
    refine ⟨_, rfl, M0, L5, E5, ds, rows, ns, b, rfl, hM9, md, l4, fun H10 q rows2 ns2 ys2 ts2 x910 nq as2 pn2 rise2 gy2 sy2 gt2 st2 RX2 NW2 => ?_⟩
    obtain rfl : rows2 = rows1 := as2.unique as1' ndR
    obtain rfl : ns2 = ns1 := ints_unique rise2 rise1 (pn2.trans pn1'.symm)
    refine ⟨sz2, fun T5 nT5 => ⟨T5, _, rfl, SqT.of upd_same, rfl, _, _, rfl, _, _, rfl, rfl, ?_⟩⟩
    have x1011 := Ext.new nT5 (o := .tup [.ref p, .ref q])
    generalize upd H10 T5 (.tup [.ref p, .ref q]) = H11 at x1011 ⊢
    have x911 := x910.trans x1011
    have x811 := x89.trans x911
    have r11 := r8.ext x811
    have k511 := k58.trans (Keep.of x811)
    -- a row that was handed in is cleared
    obtain ⟨es0, he0⟩ : ∃ es0, H8 d0 = some (.dK (kvsOf es0)) := by
      cases w8 with
      | cons h _ =>
        obtain ⟨es0, e, _⟩ := h
        exact ⟨es0, e⟩
    have e11 := x811 _ _ he0
    have nd0a : d0 ≠ a := fun e => r11.nodict _ (by rw [← e]; exact e11)
    refine ⟨_, rfl, D, _, _, .ref d0, rfl, rfl, SqL.of (x811 _ _ hD8), atI_nat (j := 0) rfl, .inr (.inr (.inl ⟨rfl, .inl ⟨_, e11⟩⟩)), d0, _, rfl, rfl, e11, ?_⟩
    have k1112 : ∀ b o, H11 b = some o → b ≠ d0 → (upd H11 d0 (.dK [])) b = some o := fun b o e n => by
      rw [upd_ne n]
      exact e
    have r12 : Rng (upd H11 d0 (.dK [])) a := r11.upd nd0a
    generalize upd H11 d0 (.dK []) = H12 at k1112 r12 ⊢
    have k512 : Keep a H5 H12 := fun b o e n => k1112 _ _ (k511 _ _ e n) (ne_of_none e nd0)
    have hM12 := hM.keep k512 r5 nML nME
    -- another model
    refine ⟨_, rfl, _, rfl, a, M0, L5, E5, ds, rows, ns, b, [z0, z1, z2], [z3, z4], ms, rfl, r12, hM12, nML, nME, dr, fun H13 M3 L3 E3 ds3 rows3 ns3 b3 k13 hM3 md3 => ?_⟩
    have hM13 := hM.keep (k512.trans k13) r5 nML nME
    have k913 : ∀ b o, H9 b = some o → ¬ (b = a ∨ b = d0) → H13 b = some o := fun b o e n => k13 _ _ (k1112 _ _ (x911 _ _ e) fun z => n (.inr z)) fun z => n (.inl z)
    have k1013 : ∀ b o, H10 b = some o → ¬ (b = a ∨ b = d0) → H13 b = some o := fun b o e n => k13 _ _ (k1112 _ _ (x1011 _ _ e) fun z => n (.inr z)) fun z => n (.inl z)
    have wt9 : ∀ b xs, (b = a ∨ b = d0) → H9 b ≠ some (.tup xs) := fun b xs w e => by
      rcases w with w | w
      · exact r9.notup _ (by rw [← w]; exact e)
      · rw [w, x89 _ _ he0] at e
        cases e
    have wt10 : ∀ b xs, (b = a ∨ b = d0) → H10 b ≠ some (.tup xs) := fun b xs w e => by
      rcases w with w | w
      · exact (r9.ext x910).notup _ (by rw [← w]; exact e)
      · rw [w, x910 _ _ (x89 _ _ he0)] at e
        cases e
    have wn8 : ∀ b, (b = a ∨ b = d0) → H8 b ≠ none := fun b w => by
      rcases w with w | w
      · obtain ⟨o, e⟩ := r8.there
        rw [w, e]
        exact fun z => by cases z
      · rw [w, he0]
        exact fun z => by cases z
    have wn9 : ∀ b, (b = a ∨ b = d0) → H9 b ≠ none := fun b w z => wn8 b w (x89.free z)
    have RX1' := RX1.keepW NW1 np k913 wt9 wn8
    have RX2' := RX2.keepW NW2 nq k1013 wt10 wn9
    have o1 : OfM C H13 p M0 rows2 ns2 b := ⟨L5, E5, ds, rows, ns, ys1, ts1, RX1', as1', pn1', rise1, gath_same gy1 (fun z => pT.keys z), sy1, gath_same gt1 (fun z => pT.tolds z), st1, hM13, md⟩
    have o2 : OfM C H13 q M0 rows2 ns2 b := ⟨L5, E5, ds, rows, ns, ys2, ts2, RX2', as2, pn2, rise2, gy2, sy2, gt2, st2, hM13, md⟩
    have kH13 : Keep a H H13 := (kH5.trans k512).trans k13
    -- its reader
    refine ⟨_, rfl, M3, L3, E3, ds3, rows3, ns3, b3, rfl, hM3, md3, fun H14 r rows3' ns3' ys3 ts3 x1314 nr as3 pn3 rise3 gy3 sy3 gt3 st3 RX3 NW3 => ?_⟩
    have o3 : OfM C H14 r M3 rows3' ns3' b3 := ⟨L3, E3, ds3, rows3, ns3, ys3, ts3, RX3, as3, pn3, rise3, gy3, sy3, gt3, st3, hM3.ext x1314, md3⟩
    replace o1 := o1.ext x1314
    replace o2 := o2.ext x1314
    replace kH13 := kH13.trans (Keep.of x1314)
    clear RX1 RX2 RX1' RX2' NW1 NW2 RX3 NW3 gy1 gy2 gy3 gt1 gt2 gt3
    refine ⟨_, rfl, ?_⟩
    dsimp only [tNil]
    refine o3.shown fun H15 x15 => ⟨_, rfl, ?_⟩
    dsimp only [tNil]
    refine (o1.ext x15).shown fun H16 x16 => ⟨rfl, _, _, rfl, ?_⟩
    rw [dec_str]
    have x1416 := x15.trans x16
    replace o1 := o1.ext x1416
    replace o2 := o2.ext x1416
    replace o3 := o3.ext x1416
    replace kH13 := kH13.trans (Keep.of x1416)
    -- ==
    refine ⟨_, rfl, _, rfl, ?_⟩
    dsimp only [tCons, L2.tC, tNil]
    refine o1.are o2 (d := true) (by simp) fun H17 x17 => ⟨true, rfl, iteF ⟨_, rfl, _, rfl, _, rfl, ?_⟩⟩
    dsimp only [tNil]
    refine (o1.ext x17).are (o3.ext x17) (decide_eq_decide.mpr eq_comm) fun H18 x18 => ⟨true, rfl, iteF ⟨_, rfl, _, rfl, _, rfl, ?_⟩⟩
    dsimp only [tNil]
    refine (o2.ext (x17.trans x18)).are (o3.ext (x17.trans x18)) (decide_eq_decide.mpr eq_comm) fun H19 x19 => ⟨true, rfl, iteF ?_⟩
    have x1619 := (x17.trans x18).trans x19
    replace o1 := o1.ext x1619
    replace o2 := o2.ext x1619
    replace o3 := o3.ext x1619
    replace kH13 := kH13.trans (Keep.of x1619)
    -- what is shown
    obtain ⟨dx1, fs1, _, _, _, hp, _⟩ := o1.at_.ex
    obtain ⟨dx2, fs2, _, _, _, hq, _⟩ := o2.at_.ex
    obtain ⟨dx3, fs3, _, _, _, hr', _⟩ := o3.at_.ex
    refine ⟨_, rfl, p, dx1, fs1, rfl, hp, o1.repr ⟨_, rfl, _, rfl, q, dx2, fs2, rfl, hq, o2.repr ⟨_, rfl, _, rfl, r, dx3, fs3, rfl, hr', o3.repr ⟨_, rfl, sz3, fun A1 nA1 => ?_⟩⟩⟩⟩
    have x20 := Ext.new nA1 (o := .lst [.str (shownR rows2 ns2 b), .str (shownR rows2 ns2 b), .str (shownR rows3' ns3' b3)])
    have g20 : (upd H19 A1 (.lst [.str (shownR rows2 ns2 b), .str (shownR rows2 ns2 b), .str (shownR rows3' ns3' b3)])) A1 = some (.lst (([shownR rows2 ns2 b, shownR rows2 ns2 b, shownR rows3' ns3' b3] : List Str).map V.str)) := upd_same
    generalize upd H19 A1 (.lst [.str (shownR rows2 ns2 b), .str (shownR rows2 ns2 b), .str (shownR rows3' ns3' b3)]) = H20 at x20 g20 ⊢
    refine ⟨_, rfl, ?_⟩
    dsimp only [tNil]
    refine (o1.ext x20).shown fun H21 x21 => ⟨_, rfl, ?_⟩
    dsimp only [tNil]
    refine (o1.ext (x20.trans x21)).shown fun H22 x22 => ⟨_, rfl, ?_⟩
    dsimp only [tNil]
    refine (o3.ext ((x20.trans x21).trans x22)).shown fun H23 x23 => ⟨sz3, fun A2 nA2 => ?_⟩
    have x24 := Ext.new nA2 (o := .lst [.str (shownR rows2 ns2 b), .str (shownR rows2 ns2 b), .str (shownR rows3' ns3' b3)])
    have g24 : (upd H23 A2 (.lst [.str (shownR rows2 ns2 b), .str (shownR rows2 ns2 b), .str (shownR rows3' ns3' b3)])) A2 = some (.lst (([shownR rows2 ns2 b, shownR rows2 ns2 b, shownR rows3' ns3' b3] : List Str).map V.str)) := upd_same
    generalize upd H23 A2 (.lst [.str (shownR rows2 ns2 b), .str (shownR rows2 ns2 b), .str (shownR rows3' ns3' b3)]) = H24 at x24 g24 ⊢
    have x2024 := ((x21.trans x22).trans x23).trans x24
    have sh := strs_shaped' (l := [shownR rows2 ns2 b, shownR rows2 ns2 b, shownR rows3' ns3' b3]) fun z hz => by
      simp only [List.mem_cons, List.not_mem_nil, or_false] at hz
      rcases hz with rfl | rfl | rfl
      · exact o1.strOk
      · exact o1.strOk
      · exact o3.strOk
    refine ⟨strsD [shownR rows2 ns2 b, shownR rows2 ns2 b, shownR rows3' ns3' b3], strsD [shownR rows2 ns2 b, shownR rows2 ns2 b, shownR rows3' ns3' b3], .lst (SqL.of (x2024 _ _ g20)) (strs_dp _), .lst (SqL.of g24) (strs_dp _), sh.1, sh.1, _, rfl, ?_⟩
    rw [sh.2]
    refine iteF ?_
    have x1924 := x20.trans x2024
    exact pC _ p q r M0 M3 Lt D _ rows2 rows3' ns2 ns3' b b3 (kH13.trans (Keep.of x1924)) (o1.ext x1924) (o3.ext x1924)
end
end Sl
/-! ## U4 -/
set_option Elab.async false
set_option linter.all false
set_option maxRecDepth 100000
set_option maxHeartbeats 4000000
namespace Sl
open PySem PySem.Spec PyProof.Rows L2
abbrev sLaw : Stmt := top 43
def spLaw (K : PySem.W.Frag) : Sp := fun vs H Q _ => ∃ (S : Addr) (ns : List Int), vs = [.ref S] ∧ SqL K H S (ns.map V.int) ∧ ns.length ≤ 63 ∧ ∀ H', Q (.bl true) H'
theorem sql_ext {K : PySem.W.Frag} {H H' : Hp} {S : Addr} {xs : List V} (x : Ext H H') (h : SqL K H S xs) : SqL K H' S xs := by
  rcases h with (h | ⟨o, h⟩) | h
  · exact .inl (.inl (x _ _ h))
  · exact .inl (.inr ⟨o, x _ _ h⟩)
  · exact .inr h
section
variable {P : Program} {w : World} {K : PySem.W.Frag} {mg : Str → Option Value} {base : Heap}
theorem scLaw : FnScope ["_law_script", "_law_k"] ["_law_script"] (defScope sLaw) := ⟨rfl, rfl, rfl, by decide +kernel, rfl, by decide +kernel, by decide +kernel⟩
theorem ok_law {f fR fG : Addr} {fd fdR fdG : FuncData} (F : Fun K "law" "law" sLaw f fd) (aR : At K mg "_law_right" fR fdR ["_law_rng_here"] []) (gR : FnG P w K mg base CX0 9 fR fdR ["_law_rng_here"] spRight)
    (aG : At K mg "_law_rng" fG fdG ["_law_script", "_law_k"] []) (gG : FnOk P w K mg base CX0 1 fG fdG ["_law_script", "_law_k"] (spRng K))
    (za : mg "all" = none) (zr : mg "range" = none) (zx : mg "max" = none) (zm : mg "min" = none) (zn : mg "len" = none) : FnG P w K mg base CX0 10 f fd ["_law_script"] (spLaw K) := by
  refine Sl.Fun.okG F scLaw (fun vs H Q E h => ?_) (fun cdv A0 outer s H vs Q E0 gd hr h => ?_)
  · obtain ⟨S, ns, rfl, _⟩ := h
    rfl
  · obtain ⟨S, ns, rfl, hS, h63, k⟩ := h
    have hr1 : Room 1 _ := hr.mono (by decide)
    refine ⟨_, pss_one (ps_ret (pe_callB (cr_all rfl) (by rfl) za (by decide +kernel) (pa_cons (pe_lc (own := [("_law_k", 1)]) (g := gName 1) (tt := tYes) (te := tCall spRight [] (fun _ _ _ => False) (tCons (tCall (spRng K) [] (fun _ _ _ => False) (tCons (tVar 0) (tCons (tVar 1) tNil))) tNil)) rfl scLaw.nd
        (pi_range1 rfl zr (pa_cons (pe_callB (call_max2 rfl) (by rfl) zx (by decide +kernel) (pa_cons pe_int (pa_cons (pe_callB (call_min2 rfl) (by rfl) zm (by decide +kernel) (pa_cons (pe_callB call_len_seq (by rfl) zn PySem.boot_len (pa_cons (pv 0) pa_nil)) (pa_cons pe_int pa_nil))) pa_nil))) pa_nil)) (blkOk_by (N := ["_law_script", "_law_k"]) (sc := defScope sLaw) (by decide +kernel))
        (fun _ _ _ _ _ => pg_name (i := 1) scLaw.nd rfl (Or.inl rfl)) (fun _ _ _ _ _ => pts_nil) (fun _ _ _ _ _ => pe_callG gR gd hr (by rfl) aR.g aR.kp aR.b pass0 (pa_cons (pe_call gG hr1 (by rfl) aG.g aG.kp aG.b .nil pass0 (pa_cons (pv 0) (pa_cons (pv 1) pa_nil))) pa_nil))) pa_nil))), ?_⟩
    have hl : (ns.map V.int).length = ns.length := List.length_map _
    refine ⟨_, rfl, S, _, rfl, .inl hS, _, _, rfl, _, _, rfl, ?_⟩
    rw [hl]
    generalize hm : (if (5 : Int) < (ns.length : Nat) then (5 : Int) else ((ns.length : Nat) : Int)) = m
    generalize hn : (if m > 1 then m else 1) = n0
    have n1 : 0 ≤ n0 ∧ n0 ≤ 5 := by
      have : m ≤ 5 := by
        rw [← hm]
        split <;> omega
      rw [← hn]
      split <;> omega
    obtain ⟨n, rfl⟩ : ∃ n : Nat, n0 = (n : Int) := ⟨n0.toNat, by omega⟩
    refine ⟨(n : Int), rfl, by omega, by omega, fun D nD => ?_⟩
    refine lc_range (n := n) (fun i H' => Ext H H' ∧ H' D = some (.lst ((List.replicate i true).map V.bl))) ⟨Ext.new nD, upd_same⟩ ?_ ?_
    · rintro i H1 hi ⟨x1, d1⟩
      refine ⟨rfl, _, rfl, _, rfl, S, ns, i, by simp, sql_ext x1 hS, h63, by omega, fun H2 a x2 na ra => ⟨a, rfl, ra, fun H3 k3 => ?_⟩⟩
      have d2 := x2 _ _ d1
      have nDa : D ≠ a := fun e => by
        rw [e, na] at d1
        cases d1
      refine ⟨_, k3 _ _ d2 nDa, by rw [List.length_map, List.length_replicate]; exact small_list (by omega), fun b o e => ?_, ?_⟩
      · rw [upd_ne (ne_of_none e nD)]
        exact k3 _ _ (x2 _ _ (x1 _ _ e)) (ne_of_none (x1 _ _ e) na)
      · rw [upd_same, List.replicate_succ', List.map_append]
        rfl
    · rintro H1 ⟨x1, d1⟩
      refine ⟨D, List.replicate n true, rfl, SqL.of d1, ?_⟩
      have e : (List.replicate n true).all id = true := by
        rw [List.all_eq_true]
        intro b hb
        rw [(List.mem_replicate.mp hb).2]
        rfl
      rw [e]
      exact k H1
end
end Sl
/-! ## E1 -/
set_option Elab.async false
set_option linter.all false
set_option maxRecDepth 100000
set_option maxHeartbeats 4000000
/-! the end: what the top has written -/
namespace Sl
open PySem PySem.Spec PyProof.Rows L2
section
variable {P : Program} {w : World} {K : PySem.W.Frag} {mg mb : Str → Option Value} {CX : CXT} {k : Nat} {fa a : Addr} {fd : FuncData} {x : Str} {sp : Sp} {z : Shared} {us : List Value} {js : List Int}
/-- what the head wants of the call's end -/
abbrev EndOk (z : Shared) : Result → Shared → Prop := fun r t => r = .ok (.ret (.bool true)) ∧ OldK z.heap t.heap ∧ t.os = z.os ∧ AllBare t.gens
/-- over one tracked heap, in which the script alone may be told -/
theorem end_one {T : Hp} (inz : K.In z.heap) (ng : z.heap.Ns mainGlobals mg) (nb : z.heap.Ns builtinsNs mb) (eb : ∀ y : Str, y ≠ "__name__" → mb y = bootBuiltins y) (nl : z.heap.NoLimit) (gn : z.gens = #[])
    (at_ : z.heap.get? a = some { cls := .type "list", data := .seq us.toArray }) (rm : Room k callerA)
    (F : ∀ base : Heap, K.In base → base.Ns mainGlobals mg → FnG P w K mg base CX k fa fd [x] sp) (bd : ∀ (t : Shared) (u : Value), BindsTo t fd ⟨[u], []⟩ [(x, u)])
    (pr : sp [.ref a] T (fun v _ => v = .bl true) fun _ _ _ => False) (no : ∀ H e t, CX [] H z (fun _ _ _ => False) e t → False)
    (on : Only T) (ok : HOk P w T z.heap) (one : ∀ b, T b ≠ none → b = a) (out : T a ≠ none → K.lookup a = none) :
    codeAny (model P w) callerA (.call (.ref fa) ⟨[.ref a], []⟩) (EndOk z) z := by
  have free : ∀ {b : Addr}, b ≠ a → T b = none := fun {b} nb => by
    cases q : T b with
    | none => rfl
    | some u => exact absurd (one b (by rw [q]; exact Option.some_ne_none u)) nb
  have inB : K.In (hidT z.heap T) := fun b o e => hidT_get (inz b o e) (by
    by_cases c : b = a
    · subst c
      cases q : T b with
      | none => rfl
      | some u =>
        rw [out (by rw [q]; exact Option.some_ne_none u)] at e
        cases e
    · exact free c)
  have spc : ∀ {b : Addr} {m : Str → Option Value}, z.heap.Ns b m → (hidT z.heap T).Ns b m := fun {b m} h => by
    obtain ⟨o, es, ep, e, d, r⟩ := h
    refine ⟨o, es, ep, hidT_get e (free fun c => ?_), d, r⟩
    subst c
    rw [at_] at e
    cases e
    cases (show Data.seq us.toArray _ = Data.dict es ep from d)
  have lm : (hidT z.heap T).NoLimit := by
    obtain ⟨m, n1, n2⟩ := nl
    exact ⟨m, spc n1, n2⟩
  have ev : Env0 P w K mg (hidT z.heap T) callerA [] z T :=
    ⟨rfl, ⟨inB, spc ng, ⟨mb, spc nb, eb⟩, lm⟩, fun _ _ e => of_hidT e, Nat.le_of_eq (hidT_size _ _), trivial, fun b hb => (List.not_mem_nil (show b ∈ ([] : List Addr) from hb)).elim, ok, .of_eq gn⟩
  refine codeAny_mono ((F _ inB (spc ng)).run callerA [] z T ⟨[.ref a], []⟩ [.ref a] [.ref a] _ _ rfl rm ev (bd z (.ref a)) (.cons rfl .nil) pr) fun r t q => ?_
  rcases r with e | fl
  · exact (no T e t q).elim
  cases fl with
  | next => exact q.elim
  | brk => exact q.elim
  | cont => exact q.elim
  | ret u =>
    obtain ⟨v, T', o1, o2, un, ok', rv, rfl⟩ := q
    obtain rfl : u = Value.bool true := rv
    refine ⟨rfl, OldK.of_keep fun b o e => ?_, o1, o2⟩
    rcases on b with n | ⟨p, ys, n⟩
    · exact un.keep b o e n (fun c => (List.not_mem_nil (show b ∈ ([] : List Addr) from c)).elim) (List.not_mem_nil)
    · obtain ⟨e1, _⟩ := ok b _ n
      obtain ⟨e2, _⟩ := ok' b _ (un.frzs b p _ n)
      rw [e1] at e
      cases e
      exact e2
theorem end_call (inz : K.In z.heap) (ng : z.heap.Ns mainGlobals mg) (nb : z.heap.Ns builtinsNs mb) (eb : ∀ y : Str, y ≠ "__name__" → mb y = bootBuiltins y) (nl : z.heap.NoLimit) (gn : z.gens = #[])
    (at_ : z.heap.get? a = some { cls := .type "list", data := .seq us.toArray }) (ia : IntsAre us js) (sz : js.length ≤ sizeLine) (rm : Room k callerA)
    (F : ∀ base : Heap, K.In base → base.Ns mainGlobals mg → FnG P w K mg base CX k fa fd [x] sp) (bd : ∀ (t : Shared) (u : Value), BindsTo t fd ⟨[u], []⟩ [(x, u)])
    (pr : ∀ T : Hp, Only T → SqL K T a (js.map V.int) → sp [.ref a] T (fun v _ => v = .bl true) fun _ _ _ => False) (no : ∀ H e t, CX [] H z (fun _ _ _ => False) e t → False) :
    codeAny (model P w) callerA (.call (.ref fa) ⟨[.ref a], []⟩) (EndOk z) z := by
  have rv := vals_ints ia
  have ln := ia.length
  have go : ∀ T : Hp, Only T → SqL K T a (js.map V.int) → HOk P w T z.heap → (∀ b, T b ≠ none → b = a) → (T a ≠ none → K.lookup a = none) → codeAny (model P w) callerA (.call (.ref fa) ⟨[.ref a], []⟩) (EndOk z) z :=
    fun T h1 h2 h3 h4 h5 => end_one inz ng nb eb nl gn at_ rm F bd (pr T h1 h2) no h1 h3 h4 h5
  cases own : K.lookup a with
  | some o =>
    have e := inz a o own
    rw [at_] at e
    cases e
    refine go (fun _ => none) (fun _ => .inl rfl) (.inr ⟨_, us.toArray, _, own, rfl, rfl, rfl, ?_, ?_⟩) (fun b u c => ?_) (fun b c => absurd rfl c) fun c => absurd rfl c
    · rw [List.size_toArray, ln]
      exact sz
    · simpa using rv
    · cases (show (none : Option HO) = some u from c)
  | none =>
    let T0 : Hp := fun b => if b = a then some (.frz { cls := .type "list", data := .seq us.toArray } (.lst (js.map V.int))) else none
    have ta : T0 a = some (.frz { cls := .type "list", data := .seq us.toArray } (.lst (js.map V.int))) := if_pos rfl
    have tn : ∀ {b}, b ≠ a → T0 b = none := fun {b} c => if_neg c
    refine go T0 (fun b => ?_) (.inl (.inr ⟨_, ta⟩)) (fun b u c => ?_) (fun b c => ?_) fun _ => own
    · by_cases e : b = a
      · subst e
        exact .inr ⟨_, _, ta⟩
      · exact .inl (tn e)
    · by_cases e : b = a
      · subst e
        rw [ta] at c
        cases c
        exact ⟨at_, by rw [List.length_map]; exact sz, us, _, rv, at_⟩
      · rw [tn e] at c
        cases c
    · by_cases e : b = a
      · exact e
      · exact absurd (tn e) c
end
theorem walk_ofG {l : PySem.W.OpenLaw} {n k : Nat} {q : Program} {loose : List Str} {XP : (Str → Option Value) → Heap → Prop} {YP : World → Heap → Prop} {d : DefRec} {K : Params → PySem.W.Frag} {sp : PySem.W.Frag → Sp} {x : Str}
    (m : l.most = some n) (m2 : n ≤ sizeLine) (nd : d.params.defaults = []) (rm : Room k callerA) (inY : ∀ (w : World) (h : Heap), YP w h → (K w.params).In h)
    (F : ∀ (w : World) (mg : Str → Option Value) (fa : Addr) (h : Heap), (K w.params).In h → h.Ns mainGlobals mg → mg d.name = some (.ref fa) → ∃ fd : FuncData, (∀ (t : Shared) (u : Value), BindsTo t fd ⟨[u], []⟩ [(x, u)]) ∧ ∀ base : Heap, (K w.params).In base → base.Ns mainGlobals mg → FnG l.prog w (K w.params) mg base CX0 k fa fd [x] (sp (K w.params)))
    (pr : ∀ (K : PySem.W.Frag) (T : Hp) (a : Addr) (js : List Int), js.length ≤ n → Only T → SqL K T a (js.map V.int) → sp K [.ref a] T (fun v _ => v = .bl true) fun _ _ _ => False) :
    PySem.W.WalkO q loose XP YP l.row.toRowW d [] (fun f vs => PySem.call f vs) := by
  refine Att.attach_call m nd fun w t0 t1 mg mb fa o pm cd doc a us js G Y ho hd hcd hmg hobj hints hlen hg => ?_
  obtain ⟨fd, b, f⟩ := F w mg fa _ (inY w _ Y) G.T.g hmg
  exact end_call (inY w _ Y) G.T.g G.T.b G.T.builtins G.T.nolimit hg hobj hints (Nat.le_trans hlen m2) rm f b (fun T h1 h2 => pr _ T a js hlen h1 h2) fun _ _ _ c => c
/-! ### what the top has written -/
/-- a def of the module -/
structure Std (K : PySem.W.Frag) (x : Str) (st : Stmt) (f : Addr) : Prop where
  ns : PySem.W.nsIn K mainGlobals x = some (some (.ref f))
  fn : ∃ fd, Fun K x x st f fd
theorem std_of {K : PySem.W.Frag} {x : Str} {st : Stmt} {f : Addr} {oc : Value} {od an : Option Addr} {osl : Array (Option Value)} {kV doc pm cdv ct : Value} (n : PySem.W.nsIn K mainGlobals x = some (some (.ref f)))
    (l : K.lookup f = some ⟨oc, od, .func (PySem.W.fnOf x x (defArgs st) (defBody st) (defScope st) .none kV doc pm an cdv ct), osl⟩) (c : PySem.W.codeIn K cdv x = true) (k : PySem.W.keepIn K (.ref f) = true) : Std K x st f := ⟨n, _, fun_mk l c k⟩
/-- a def of the class -/
structure InCls (K : PySem.W.Frag) (C : Addr) (x q : Str) (st : Stmt) (f : Addr) : Prop where
  m : Meth K C x f
  fn : ∃ fd, Fun K x q st f fd
theorem incls_of {K : PySem.W.Frag} {C : Addr} {x q : Str} {st : Stmt} {f : Addr} {oc : Value} {od an : Option Addr} {osl : Array (Option Value)} {kV doc pm cdv ct : Value} (n : PySem.W.findIn K (.ref C) x = some (some (.ref f))) (i : PySem.W.isFn K (.ref f) = true)
    (l : K.lookup f = some ⟨oc, od, .func (PySem.W.fnOf x q (defArgs st) (defBody st) (defScope st) .none kV doc pm an cdv ct), osl⟩) (c : PySem.W.codeIn K cdv q = true) (k : PySem.W.keepIn K (.ref f) = true) : InCls K C x q st f := ⟨⟨n, i, k⟩, _, fun_mk l c k⟩
/-- the property's getter -/
structure InProp (K : PySem.W.Frag) (C : Addr) (x q : Str) (st : Stmt) (p f : Addr) : Prop where
  m : PropOf K C x p f
  fn : ∃ fd, Fun K x q st f fd
theorem inprop_of {K : PySem.W.Frag} {C : Addr} {x q : Str} {st : Stmt} {p f : Addr} {rest : List Value} {oc : Value} {od an : Option Addr} {osl : Array (Option Value)} {kV doc pm cdv ct : Value} (n : PySem.W.findIn K (.ref C) x = some (some (.ref p)))
    (g : PySem.W.specialIn K (.ref p) "__get__" = some (some (.builtin "property.__get__"))) (t : PySem.W.takesIn K (.ref p) = some true) (r : PySem.W.recIn K p "property" = some (.ref f :: rest))
    (l : K.lookup f = some ⟨oc, od, .func (PySem.W.fnOf x q (defArgs st) (defBody st) (defScope st) .none kV doc pm an cdv ct), osl⟩) (c : PySem.W.codeIn K cdv q = true) (k : PySem.W.keepIn K (.ref f) = true) : InProp K C x q st p f := ⟨⟨n, g, t, rest, r⟩, _, fun_mk l c k⟩
/-- an empty tuple that stands -/
theorem emp_of {K : PySem.W.Frag} {T : Addr} {dd : Option Addr} {n : Nat} {sl : Array (Option Value)} (l : K.lookup T = some ⟨.type "tuple", dd, .seq #[] n, sl⟩) : ∀ H, SqT K H T [] := fun H => .inr ⟨_, #[], n, l, rfl, rfl, Nat.zero_le _, .nil⟩
/-- the class, with its __init__, its constant and its class method -/
structure RdAll (K : PySem.W.Frag) (C fI pO fO e e2 : Addr) (u12 : Value) : Prop where
  ns : PySem.W.nsIn K mainGlobals "Reader" = some (some (.ref C))
  rd : RdC K C
  mak : Mk K C fI
  con : Con K C "MAX_STATES" (.int 12) u12
  ini : ∃ fd, FunD K "__init__" "Reader.__init__" (defArgs sInit) (defBody sInit) (defScope sInit) [V.ref e] [("start", .int 0)] fI fd
  emp : ∀ H, SqT K H e []
  emp2 : ∀ H, SqT K H e2 []
  cr : ClX.CRead K C (.type "type")
  cv : ClX.CVal K C (.type "type") "MAX_STATES" (.int 12) u12
  cm : ClX.CMet K C (.type "type") "of" pO fO
  ofd : ∃ fd, FunD K "of" "Reader.of" (defArgs sOf) (defBody sOf) (defScope sOf) [] [("ends", .ref e2), ("start", .int 0)] fO fd
  isc : C8.InsC K C
theorem rdall_of {K : PySem.W.Frag} {C fI pO fO e e2 T D D2 : Addr} {t12 t0 t00 : Tok} {cT : Value} {dT : Option Addr} {nT : Nat} {sT : Array (Option Value)} {oc : Value} {od an : Option Addr} {osl : Array (Option Value)} {doc pm cdv ct : Value}
    {oc2 : Value} {od2 an2 : Option Addr} {osl2 : Array (Option Value)} {doc2 pm2 cdv2 ct2 : Value} {dd dd2 : Option Addr} {n n' : Nat} {sl sl2 : Array (Option Value)} {rest : List Value}
    (ns : PySem.W.nsIn K mainGlobals "Reader" = some (some (.ref C)))
    (pg : PySem.W.plainGet K C Str.empty = true) (hd : PySem.W.hasDictIn K C = true) (po : PySem.W.plainOver K C = true) (sa : PySem.W.findIn K (.ref C) "__setattr__" = some (some (.builtin "object.__setattr__")))
    (n1 : PySem.W.findIn K (.ref C) "_states" = some none) (n2 : PySem.W.findIn K (.ref C) "_ends" = some none) (n3 : PySem.W.findIn K (.ref C) "_start" = some none) (n4 : PySem.W.findIn K (.ref C) "_page_signs" = some none) (n5 : PySem.W.findIn K (.ref C) "_text_signs" = some none) (n6 : PySem.W.findIn K (.ref C) "_marks" = some none)
    (mk : PySem.W.makesIn K C = true) (i : PySem.W.findIn K (.ref C) "__init__" = some (some (.ref fI))) (fn : PySem.W.isFn K (.ref fI) = true) (kC : PySem.W.keepIn K (.ref C) = true)
    (c1 : PySem.W.findIn K (.ref C) "MAX_STATES" = some (some (.int 12 t12))) (c2 : PySem.W.specialIn K (.int 12 t12) "__get__" = some none)
    (l : K.lookup fI = some ⟨oc, od, .func (PySem.W.fnOf "__init__" "Reader.__init__" (defArgs sInit) (defBody sInit) (defScope sInit) (.ref T) (.ref D) doc pm an cdv ct), osl⟩) (c : PySem.W.codeIn K cdv "Reader.__init__" = true) (k : PySem.W.keepIn K (.ref fI) = true)
    (lT : K.lookup T = some ⟨cT, dT, .seq (List.toArray [Value.ref e]) nT, sT⟩) (lD : PySem.W.nsIn K D "start" = some (some (.int 0 t0))) (le : K.lookup e = some ⟨.type "tuple", dd, .seq #[] n, sl⟩)
    (r1 : PySem.W.readsIn K C (.type "type") = true) (r2 : PySem.W.specialIn K (.ref C) "__getattribute__" = some (some (.builtin "type.__getattribute__"))) (v1 : PySem.W.findCls K (.ref C) (.type "type") "MAX_STATES" = some (.val (.int 12 t12)))
    (m1 : PySem.W.findCls K (.ref C) (.type "type") "of" = some (.get (.builtin "classmethod.__get__") (.ref pO) .none (.ref C))) (m2 : PySem.W.recIn K pO "classmethod" = some (.ref fO :: rest)) (m3 : PySem.W.fnIn K fO = true)
    (o1 : K.lookup fO = some ⟨oc2, od2, .func (PySem.W.fnOf "of" "Reader.of" (defArgs sOf) (defBody sOf) (defScope sOf) .none (.ref D2) doc2 pm2 an2 cdv2 ct2), osl2⟩) (o2 : PySem.W.codeIn K cdv2 "Reader.of" = true) (o3 : PySem.W.keepIn K (.ref fO) = true)
    (o4 : PySem.W.nsIn K D2 "ends" = some (some (.ref e2))) (o5 : PySem.W.nsIn K D2 "start" = some (some (.int 0 t00))) (o6 : K.lookup e2 = some ⟨.type "tuple", dd2, .seq #[] n', sl2⟩)
    (i1 : PySem.W.findIn K (.ref C) "__class__" = some (some (.builtin "object.__class__"))) (i2 : PySem.W.specialIn K (.builtin "object.__class__") "__get__" = some (some (.builtin "getset_descriptor.__get__"))) (i3 : PySem.W.takesIn K (.builtin "object.__class__") = some true)
    (i4 : PySem.W.mroIn K C (.type "object") = some true) (i5 : PySem.W.kitOne K (.ref C) (.ref C) = some true) : RdAll K C fI pO fO e e2 (.int 12 t12) :=
  ⟨ns, ⟨⟨pg, hd, po, sa⟩, n1, n2, n3, n4, n5, n6⟩, ⟨mk, i, fn, kC⟩, ⟨c1, ⟨t12, rfl⟩, c2, by decide +kernel⟩,
    ⟨_, ⟨oc, od, .ref T, .ref D, doc, pm, an, cdv, ct, osl, rfl, l, c, .inr ⟨by simp, T, _, [.ref e], nT, rfl, lT, rfl, .cons rfl .nil⟩, .inr ⟨D, rfl, fun q hq => by rw [List.mem_singleton.mp hq]; exact ⟨_, lD, ⟨t0, rfl⟩⟩⟩⟩, k⟩, emp_of le, emp_of o6, ⟨r1, r2⟩, ⟨v1, ⟨t12, rfl⟩⟩, ⟨m1, ⟨rest, m2⟩, m3⟩,
    ⟨_, ⟨oc2, od2, .none, .ref D2, doc2, pm2, an2, cdv2, ct2, osl2, rfl, o1, o2, .inl ⟨rfl, rfl⟩, .inr ⟨D2, rfl, fun q hq => by
      rcases List.mem_cons.mp hq with e | hq
      · rw [e]
        exact ⟨_, o4, rfl⟩
      · rw [List.mem_singleton.mp hq]
        exact ⟨_, o5, ⟨t00, rfl⟩⟩⟩⟩, o3⟩, ⟨⟨pg, hd, po, sa⟩, i1, i2, i3, i4, i5⟩⟩
section
variable {K : PySem.W.Frag} {fI e : Addr} {fd : FuncData} (F : FunD K "__init__" "Reader.__init__" (defArgs sInit) (defBody sInit) (defScope sInit) [V.ref e] [("start", .int 0)] fI fd)
include F
abbrev ps4 : List Str := ["self", "states", "ends", "start"]
theorem kb_3s : KBn K fd ps4 3 ["start"] (fun us ws => us ++ ws) (fun vs zs => vs ++ zs) := by
  obtain ⟨_, h⟩ := FunD.kbindsD F (ps := ps4) 3 ["start"] (fun us _ ws => us ++ ws) (by simp) (fun r1 _ r3 => r1.append r3) fun T kV doc pm an cdv ct us its ws h1 h2 h3 => match us, its, ws, h1, h2, h3 with
    | [_, _, _], [_], [_], _, _, _ => ⟨_, rfl, rfl⟩
  exact h
theorem kb_2es : KBn K fd ps4 2 ["ends", "start"] (fun us ws => us ++ ws) (fun vs zs => vs ++ zs) := by
  obtain ⟨_, h⟩ := FunD.kbindsD F (ps := ps4) 2 ["ends", "start"] (fun us _ ws => us ++ ws) (by simp) (fun r1 _ r3 => r1.append r3) fun T kV doc pm an cdv ct us its ws h1 h2 h3 => match us, its, ws, h1, h2, h3 with
    | [_, _], [_], [_, _], _, _, _ => ⟨_, rfl, rfl⟩
  exact h
theorem kb_1sse : KBn K fd ps4 1 ["start", "states", "ends"] (fun us ws => us ++ (ws.drop 1 ++ ws.take 1)) rot := by
  obtain ⟨_, h⟩ := FunD.kbindsD F (ps := ps4) 1 ["start", "states", "ends"] (fun us _ ws => us ++ (ws.drop 1 ++ ws.take 1)) (by simp) (fun r1 _ r3 => r1.append ((r3.drop 1).append (r3.take 1))) fun T kV doc pm an cdv ct us its ws h1 h2 h3 => match us, its, ws, h1, h2, h3 with
    | [_], [_], [_, _, _], _, _, _ => ⟨_, rfl, rfl⟩
  exact h
theorem kb_1s : ∃ g, KBn K fd ps4 1 ["states"] g (fun vs zs => vs ++ (zs ++ [.ref e, .int 0])) := by
  obtain ⟨its, mv, h⟩ := FunD.kbinds F (ps := ps4) 1 ["states"] [("start", .int 0)] (fun us its mv ws => us ++ (ws ++ (its ++ mv))) (by simp) (by simp) (fun q hq => hq) (fun r1 r2 r3 r4 => r1.append (r4.append (r2.append r3))) fun T D doc pm an cdv ct us its mv ws h1 h2 h3 h4 => match us, its, mv, ws, h1, h2, h3, h4 with
    | [_], [_], [_], [_], _, _, _, _ => ⟨_, rfl, ⟨_, _, _, _, _, _, rfl, rfl, rfl⟩⟩
  exact ⟨_, h⟩
theorem b_3 : ∃ ds, Vals [.int 0] ds ∧ L2.Binds K fd ps4 ds := by
  obtain ⟨ds, h1, h2⟩ := FunD.binds F (ps := ps4) 3 1 (by simp) rfl (fun T D doc pm an cdv ct us its ks h1 h2 h3 => match us, its, ks, h1, h2, h3 with
    | [_, _, _], [_], [_], _, _, _ => ⟨_, rfl, ⟨_, _, _, _, _, _, rfl, rfl, rfl⟩⟩) (by simp)
  exact ⟨ds, h1, h2⟩
theorem b_2 : ∃ ds, Vals [.ref e, .int 0] ds ∧ L2.Binds K fd ps4 ds := by
  obtain ⟨ds, h1, h2⟩ := FunD.binds F (ps := ps4) 2 0 (by simp) rfl (fun T D doc pm an cdv ct us its ks h1 h2 h3 => match us, its, ks, h1, h2, h3 with
    | [_, _], [_], [_], _, _, _ => ⟨_, rfl, ⟨_, _, _, _, _, _, rfl, rfl, rfl⟩⟩) (by simp)
  exact ⟨ds, h1, h2⟩
theorem kb_2s : ∃ g, KBn K fd ps4 2 ["start"] g (fun vs zs => vs ++ ([.ref e] ++ zs)) := by
  obtain ⟨_, h⟩ := FunD.kbindsD F (ps := ps4) 2 ["start"] (fun us its ws => us ++ (its ++ ws)) (by simp) (fun r1 r2 r3 => r1.append (r2.append r3)) fun T kV doc pm an cdv ct us its ws h1 h2 h3 => match us, its, ws, h1, h2, h3 with
    | [_, _], [_], [_], _, _, _ => ⟨_, rfl, rfl⟩
  exact ⟨_, h⟩
end
theorem sys_of {K : PySem.W.Frag} {o : Obj} (h : K.lookup sysModules = some o) : ∃ o, K.lookup sysModules = some o := ⟨o, h⟩
theorem notb_of {K : PySem.W.Frag} {C : Addr} (s_NoneType : PySem.W.subIn K (.ref C) (.type "NoneType") = some false) (s_int : PySem.W.subIn K (.ref C) (.type "int") = some false) (s_str : PySem.W.subIn K (.ref C) (.type "str") = some false) (s_list : PySem.W.subIn K (.ref C) (.type "list") = some false) (s_tuple : PySem.W.subIn K (.ref C) (.type "tuple") = some false) (s_dict : PySem.W.subIn K (.ref C) (.type "dict") = some false) (k_NoneType : PySem.W.kitOne K (.type "NoneType") (.ref C) = some false) (k_int : PySem.W.kitOne K (.type "int") (.ref C) = some false) (k_str : PySem.W.kitOne K (.type "str") (.ref C) = some false) (k_list : PySem.W.kitOne K (.type "list") (.ref C) = some false) (k_tuple : PySem.W.kitOne K (.type "tuple") (.ref C) = some false) (k_dict : PySem.W.kitOne K (.type "dict") (.ref C) = some false) (f_NoneType : PySem.W.notFirst K C (.type "NoneType") = true) (f_int : PySem.W.notFirst K C (.type "int") = true) (f_str : PySem.W.notFirst K C (.type "str") = true) (f_list : PySem.W.notFirst K C (.type "list") = true) (f_tuple : PySem.W.notFirst K C (.type "tuple") = true) (f_dict : PySem.W.notFirst K C (.type "dict") = true) : NotB K C := ⟨fun T h => by
    simp only [builtT, List.mem_cons, List.not_mem_nil, or_false] at h
    rcases h with rfl | rfl | rfl | rfl | rfl | rfl
    · exact s_NoneType
    · exact s_int
    · exact s_str
    · exact s_list
    · exact s_tuple
    · exact s_dict, fun T h => by
    simp only [builtT, List.mem_cons, List.not_mem_nil, or_false] at h
    rcases h with rfl | rfl | rfl | rfl | rfl | rfl
    · exact k_NoneType
    · exact k_int
    · exact k_str
    · exact k_list
    · exact k_tuple
    · exact k_dict, fun T h => by
    simp only [builtT, List.mem_cons, List.not_mem_nil, or_false] at h
    rcases h with rfl | rfl | rfl | rfl | rfl | rfl
    · exact f_NoneType
    · exact f_int
    · exact f_str
    · exact f_list
    · exact f_tuple
    · exact f_dict⟩
theorem all_mk {P : Program} {w : World} {K : PySem.W.Frag} {h : Heap} {mg : Str → Option Value} {fa C fI pO fO e e2 f_isint f_below f_ares f_hasl f_sign f_mark f_word f_name f_ismv f_isrw f_cop f_rng f_draw f_choi f_lett f_mrks f_anyf f_fami f_bent f_frmt f_mixd f_redr f_turn f_byof f_othr f_shwn f_are_ f_thgs f_tlls f_rght f_law f_coll f_lim f_ends f_pgs f_txs f_mks f_len f_has f_eq f_rep : Addr} {u12 : Value} {t8 t6 t4 t7 : Tok} (X : K.In h) (G : h.Ns mainGlobals mg) (hfa : mg "law" = some (.ref fa))
    (s_isint : Std K "is_integer" sIsInt f_isint)
    (s_below : Std K "is_below" sBelow f_below)
    (s_ares : Std K "are_states" sAreStates f_ares)
    (s_hasl : Std K "has_length" sHasLen f_hasl)
    (s_sign : Std K "is_sign" sIsSign f_sign)
    (s_mark : Std K "is_mark" sIsMark f_mark)
    (s_word : Std K "is_word" sIsWord f_word)
    (s_name : Std K "is_name" sIsName f_name)
    (s_ismv : Std K "_is_move" sIsMove f_ismv)
    (s_isrw : Std K "_is_reader_state" sIsRow f_isrw)
    (s_cop : Std K "_copied_state" sCopied f_cop)
    (s_rng : Std K "_law_rng" sRng f_rng)
    (s_draw : Std K "_law_draw" sDraw f_draw)
    (s_choi : Std K "_law_choice" sChoice f_choi)
    (s_lett : Std K "_law_letters" sLetters f_lett)
    (s_mrks : Std K "_law_marks" sMarks f_mrks)
    (s_anyf : Std K "_law_any_format" sAnyFormat f_anyf)
    (s_fami : Std K "_law_family" sFamily f_fami)
    (s_bent : Std K "_law_bent" sBent f_bent)
    (s_frmt : Std K "_law_format" sFormat f_frmt)
    (s_mixd : Std K "_law_mixed" sMixed f_mixd)
    (s_redr : Std K "_law_reader" sReaderL f_redr)
    (s_turn : Std K "_law_turned" sTurned f_turn)
    (s_byof : Std K "_law_by_of" sByOf f_byof)
    (s_othr : Std K "_law_other" sOther f_othr)
    (s_shwn : Std K "_law_shown" sShown f_shwn)
    (s_are_ : Std K "_law_are" sAre f_are_)
    (s_thgs : Std K "_law_things" sThings f_thgs)
    (s_tlls : Std K "_law_tells" sTells f_tlls)
    (s_rght : Std K "_law_right" sRight f_rght)
    (s_law : Std K "law" sLaw f_law)
    (rd : RdAll K C fI pO fO e e2 u12)
    (s_coll : InCls K C "_collect_names" "Reader._collect_names" sCollect f_coll)
    (s_lim : InCls K C "_check_limits" "Reader._check_limits" sLimits f_lim)
    (s_ends : InCls K C "ends" "Reader.ends" sEnds f_ends)
    (s_pgs : InCls K C "page_signs" "Reader.page_signs" sPaperM f_pgs)
    (s_txs : InCls K C "text_signs" "Reader.text_signs" sTextsM f_txs)
    (s_mks : InCls K C "marks" "Reader.marks" sMarksM f_mks)
    (s_len : InCls K C "__len__" "Reader.__len__" sLenR f_len)
    (s_has : InCls K C "__contains__" "Reader.__contains__" sHasM f_has)
    (s_eq : InCls K C "__eq__" "Reader.__eq__" sEqM f_eq)
    (s_rep : InCls K C "__repr__" "Reader.__repr__" sReprM f_rep)
    (nb : NotB K C) (kC : PySem.W.kitOne K (.ref C) (.type "int") = some false) (ne : PySem.W.findIn K (.ref C) "__ne__" = some (some (.builtin "object.__ne__"))) (hm : PySem.W.mroIn K C (.type "object") = some true)
    (c8 : PySem.W.nsIn K mainGlobals "MAX_NAME" = some (some (.int 8 t8))) (c6 : PySem.W.nsIn K mainGlobals "MAX_PAGE_SIGNS" = some (some (.int 6 t6))) (c4 : PySem.W.nsIn K mainGlobals "MAX_TEXT_SIGNS" = some (some (.int 4 t4))) (c7 : PySem.W.nsIn K mainGlobals "MAX_MARKS" = some (some (.int 6 t7)))
    (sys0 : ∃ o, K.lookup sysModules = some o)
    (z_isinstance : PySem.W.nsIn K mainGlobals "isinstance" = some none)
    (z_int : PySem.W.nsIn K mainGlobals "int" = some none)
    (z_bool : PySem.W.nsIn K mainGlobals "bool" = some none)
    (z_list : PySem.W.nsIn K mainGlobals "list" = some none)
    (z_tuple : PySem.W.nsIn K mainGlobals "tuple" = some none)
    (z_len : PySem.W.nsIn K mainGlobals "len" = some none)
    (z_all : PySem.W.nsIn K mainGlobals "all" = some none)
    (z_any : PySem.W.nsIn K mainGlobals "any" = some none)
    (z_set : PySem.W.nsIn K mainGlobals "set" = some none)
    (z_str : PySem.W.nsIn K mainGlobals "str" = some none)
    (z_dict : PySem.W.nsIn K mainGlobals "dict" = some none)
    (z_sorted : PySem.W.nsIn K mainGlobals "sorted" = some none)
    (z_enumerate : PySem.W.nsIn K mainGlobals "enumerate" = some none)
    (z_divmod : PySem.W.nsIn K mainGlobals "divmod" = some none)
    (z_range : PySem.W.nsIn K mainGlobals "range" = some none)
    (z_max : PySem.W.nsIn K mainGlobals "max" = some none)
    (z_min : PySem.W.nsIn K mainGlobals "min" = some none)
    (z_abs : PySem.W.nsIn K mainGlobals "abs" = some none)
    (z_repr : PySem.W.nsIn K mainGlobals "repr" = some none)
    : ∃ fd : FuncData, (∀ (s : Shared) (u : Value), BindsTo s fd ⟨[u], []⟩ [("_law_script", u)]) ∧ ∀ base : Heap, K.In base → base.Ns mainGlobals mg → FnG P w K mg base CX0 10 fa fd ["_law_script"] (spLaw K) := by
  have e0 := hfa.symm.trans (PySem.W.mg_of X G s_law.ns)
  cases e0
  have z_isinstance := PySem.W.mg_none_of X G z_isinstance
  have z_int := PySem.W.mg_none_of X G z_int
  have z_bool := PySem.W.mg_none_of X G z_bool
  have z_list := PySem.W.mg_none_of X G z_list
  have z_tuple := PySem.W.mg_none_of X G z_tuple
  have z_len := PySem.W.mg_none_of X G z_len
  have z_all := PySem.W.mg_none_of X G z_all
  have z_any := PySem.W.mg_none_of X G z_any
  have z_set := PySem.W.mg_none_of X G z_set
  have z_str := PySem.W.mg_none_of X G z_str
  have z_dict := PySem.W.mg_none_of X G z_dict
  have z_sorted := PySem.W.mg_none_of X G z_sorted
  have z_enumerate := PySem.W.mg_none_of X G z_enumerate
  have z_divmod := PySem.W.mg_none_of X G z_divmod
  have z_range := PySem.W.mg_none_of X G z_range
  have z_max := PySem.W.mg_none_of X G z_max
  have z_min := PySem.W.mg_none_of X G z_min
  have z_abs := PySem.W.mg_none_of X G z_abs
  have z_repr := PySem.W.mg_none_of X G z_repr
  obtain ⟨d_isint, F_isint⟩ := s_isint.fn
  have a_isint : At K mg "is_integer" f_isint d_isint ["value"] [] := ⟨PySem.W.mg_of X G s_isint.ns, F_isint.kp, F_isint.binds (ps := ["value"]) fun _ _ _ _ _ _ us hl => match us, hl with | [_], _ => rfl⟩
  obtain ⟨d_below, F_below⟩ := s_below.fn
  have a_below : At K mg "is_below" f_below d_below ["value", "limit"] [] := ⟨PySem.W.mg_of X G s_below.ns, F_below.kp, F_below.binds (ps := ["value", "limit"]) fun _ _ _ _ _ _ us hl => match us, hl with | [_, _], _ => rfl⟩
  obtain ⟨d_ares, F_ares⟩ := s_ares.fn
  have a_ares : At K mg "are_states" f_ares d_ares ["value", "many"] [] := ⟨PySem.W.mg_of X G s_ares.ns, F_ares.kp, F_ares.binds (ps := ["value", "many"]) fun _ _ _ _ _ _ us hl => match us, hl with | [_, _], _ => rfl⟩
  obtain ⟨d_hasl, F_hasl⟩ := s_hasl.fn
  have a_hasl : At K mg "has_length" f_hasl d_hasl ["value", "least", "most"] [] := ⟨PySem.W.mg_of X G s_hasl.ns, F_hasl.kp, F_hasl.binds (ps := ["value", "least", "most"]) fun _ _ _ _ _ _ us hl => match us, hl with | [_, _, _], _ => rfl⟩
  obtain ⟨d_sign, F_sign⟩ := s_sign.fn
  have a_sign : At K mg "is_sign" f_sign d_sign ["value"] [] := ⟨PySem.W.mg_of X G s_sign.ns, F_sign.kp, F_sign.binds (ps := ["value"]) fun _ _ _ _ _ _ us hl => match us, hl with | [_], _ => rfl⟩
  obtain ⟨d_mark, F_mark⟩ := s_mark.fn
  have a_mark : At K mg "is_mark" f_mark d_mark ["value"] [] := ⟨PySem.W.mg_of X G s_mark.ns, F_mark.kp, F_mark.binds (ps := ["value"]) fun _ _ _ _ _ _ us hl => match us, hl with | [_], _ => rfl⟩
  obtain ⟨d_word, F_word⟩ := s_word.fn
  have a_word : At K mg "is_word" f_word d_word ["value"] [] := ⟨PySem.W.mg_of X G s_word.ns, F_word.kp, F_word.binds (ps := ["value"]) fun _ _ _ _ _ _ us hl => match us, hl with | [_], _ => rfl⟩
  obtain ⟨d_name, F_name⟩ := s_name.fn
  have a_name : At K mg "is_name" f_name d_name ["value"] [] := ⟨PySem.W.mg_of X G s_name.ns, F_name.kp, F_name.binds (ps := ["value"]) fun _ _ _ _ _ _ us hl => match us, hl with | [_], _ => rfl⟩
  obtain ⟨d_ismv, F_ismv⟩ := s_ismv.fn
  have a_ismv : At K mg "_is_move" f_ismv d_ismv ["value", "many"] [] := ⟨PySem.W.mg_of X G s_ismv.ns, F_ismv.kp, F_ismv.binds (ps := ["value", "many"]) fun _ _ _ _ _ _ us hl => match us, hl with | [_, _], _ => rfl⟩
  obtain ⟨d_isrw, F_isrw⟩ := s_isrw.fn
  have a_isrw : At K mg "_is_reader_state" f_isrw d_isrw ["value", "many"] [] := ⟨PySem.W.mg_of X G s_isrw.ns, F_isrw.kp, F_isrw.binds (ps := ["value", "many"]) fun _ _ _ _ _ _ us hl => match us, hl with | [_, _], _ => rfl⟩
  obtain ⟨d_cop, F_cop⟩ := s_cop.fn
  have a_cop : At K mg "_copied_state" f_cop d_cop ["state"] [] := ⟨PySem.W.mg_of X G s_cop.ns, F_cop.kp, F_cop.binds (ps := ["state"]) fun _ _ _ _ _ _ us hl => match us, hl with | [_], _ => rfl⟩
  obtain ⟨d_rng, F_rng⟩ := s_rng.fn
  have a_rng : At K mg "_law_rng" f_rng d_rng ["_law_script", "_law_k"] [] := ⟨PySem.W.mg_of X G s_rng.ns, F_rng.kp, F_rng.binds (ps := ["_law_script", "_law_k"]) fun _ _ _ _ _ _ us hl => match us, hl with | [_, _], _ => rfl⟩
  obtain ⟨d_draw, F_draw⟩ := s_draw.fn
  have a_draw : At K mg "_law_draw" f_draw d_draw ["_law_rng_here", "_law_many"] [] := ⟨PySem.W.mg_of X G s_draw.ns, F_draw.kp, F_draw.binds (ps := ["_law_rng_here", "_law_many"]) fun _ _ _ _ _ _ us hl => match us, hl with | [_, _], _ => rfl⟩
  obtain ⟨d_choi, F_choi⟩ := s_choi.fn
  have a_choi : At K mg "_law_choice" f_choi d_choi ["_law_rng_here", "_law_some"] [] := ⟨PySem.W.mg_of X G s_choi.ns, F_choi.kp, F_choi.binds (ps := ["_law_rng_here", "_law_some"]) fun _ _ _ _ _ _ us hl => match us, hl with | [_, _], _ => rfl⟩
  obtain ⟨d_lett, F_lett⟩ := s_lett.fn
  have a_lett : At K mg "_law_letters" f_lett d_lett ["_law_rng_here", "_law_many"] [] := ⟨PySem.W.mg_of X G s_lett.ns, F_lett.kp, F_lett.binds (ps := ["_law_rng_here", "_law_many"]) fun _ _ _ _ _ _ us hl => match us, hl with | [_, _], _ => rfl⟩
  obtain ⟨d_mrks, F_mrks⟩ := s_mrks.fn
  have a_mrks : At K mg "_law_marks" f_mrks d_mrks ["_law_rng_here", "_law_many"] [] := ⟨PySem.W.mg_of X G s_mrks.ns, F_mrks.kp, F_mrks.binds (ps := ["_law_rng_here", "_law_many"]) fun _ _ _ _ _ _ us hl => match us, hl with | [_, _], _ => rfl⟩
  obtain ⟨d_anyf, F_anyf⟩ := s_anyf.fn
  have a_anyf : At K mg "_law_any_format" f_anyf d_anyf ["_law_rng_here", "_law_cap", "_law_paper", "_law_tells_here", "_law_marks_here"] [] := ⟨PySem.W.mg_of X G s_anyf.ns, F_anyf.kp, F_anyf.binds (ps := ["_law_rng_here", "_law_cap", "_law_paper", "_law_tells_here", "_law_marks_here"]) fun _ _ _ _ _ _ us hl => match us, hl with | [_, _, _, _, _], _ => rfl⟩
  obtain ⟨d_fami, F_fami⟩ := s_fami.fn
  have a_fami : At K mg "_law_family" f_fami d_fami ["_law_way", "_law_paper", "_law_tells_here", "_law_marks_here"] [] := ⟨PySem.W.mg_of X G s_fami.ns, F_fami.kp, F_fami.binds (ps := ["_law_way", "_law_paper", "_law_tells_here", "_law_marks_here"]) fun _ _ _ _ _ _ us hl => match us, hl with | [_, _, _, _], _ => rfl⟩
  obtain ⟨d_bent, F_bent⟩ := s_bent.fn
  have a_bent : At K mg "_law_bent" f_bent d_bent ["_law_rng_here", "_law_model", "_law_paper", "_law_tells_here", "_law_marks_here"] [] := ⟨PySem.W.mg_of X G s_bent.ns, F_bent.kp, F_bent.binds (ps := ["_law_rng_here", "_law_model", "_law_paper", "_law_tells_here", "_law_marks_here"]) fun _ _ _ _ _ _ us hl => match us, hl with | [_, _, _, _, _], _ => rfl⟩
  obtain ⟨d_frmt, F_frmt⟩ := s_frmt.fn
  have a_frmt : At K mg "_law_format" f_frmt d_frmt ["_law_rng_here", "_law_cap", "_law_paper", "_law_tells_here", "_law_marks_here"] [] := ⟨PySem.W.mg_of X G s_frmt.ns, F_frmt.kp, F_frmt.binds (ps := ["_law_rng_here", "_law_cap", "_law_paper", "_law_tells_here", "_law_marks_here"]) fun _ _ _ _ _ _ us hl => match us, hl with | [_, _, _, _, _], _ => rfl⟩
  obtain ⟨d_mixd, F_mixd⟩ := s_mixd.fn
  have a_mixd : At K mg "_law_mixed" f_mixd d_mixd ["_law_rng_here", "_law_some"] [] := ⟨PySem.W.mg_of X G s_mixd.ns, F_mixd.kp, F_mixd.binds (ps := ["_law_rng_here", "_law_some"]) fun _ _ _ _ _ _ us hl => match us, hl with | [_, _], _ => rfl⟩
  obtain ⟨d_redr, F_redr⟩ := s_redr.fn
  have a_redr : At K mg "_law_reader" f_redr d_redr ["_law_model"] [] := ⟨PySem.W.mg_of X G s_redr.ns, F_redr.kp, F_redr.binds (ps := ["_law_model"]) fun _ _ _ _ _ _ us hl => match us, hl with | [_], _ => rfl⟩
  obtain ⟨d_turn, F_turn⟩ := s_turn.fn
  have a_turn : At K mg "_law_turned" f_turn d_turn ["_law_rng_here", "_law_rows"] [] := ⟨PySem.W.mg_of X G s_turn.ns, F_turn.kp, F_turn.binds (ps := ["_law_rng_here", "_law_rows"]) fun _ _ _ _ _ _ us hl => match us, hl with | [_, _], _ => rfl⟩
  obtain ⟨d_byof, F_byof⟩ := s_byof.fn
  have a_byof : At K mg "_law_by_of" f_byof d_byof ["_law_model"] [] := ⟨PySem.W.mg_of X G s_byof.ns, F_byof.kp, F_byof.binds (ps := ["_law_model"]) fun _ _ _ _ _ _ us hl => match us, hl with | [_], _ => rfl⟩
  obtain ⟨d_othr, F_othr⟩ := s_othr.fn
  have a_othr : At K mg "_law_other" f_othr d_othr ["_law_rng_here", "_law_model"] [] := ⟨PySem.W.mg_of X G s_othr.ns, F_othr.kp, F_othr.binds (ps := ["_law_rng_here", "_law_model"]) fun _ _ _ _ _ _ us hl => match us, hl with | [_, _], _ => rfl⟩
  obtain ⟨d_shwn, F_shwn⟩ := s_shwn.fn
  have a_shwn : At K mg "_law_shown" f_shwn d_shwn ["_law_model"] [] := ⟨PySem.W.mg_of X G s_shwn.ns, F_shwn.kp, F_shwn.binds (ps := ["_law_model"]) fun _ _ _ _ _ _ us hl => match us, hl with | [_], _ => rfl⟩
  obtain ⟨d_are_, F_are_⟩ := s_are_.fn
  have a_are_ : At K mg "_law_are" f_are_ d_are_ ["_law_one", "_law_other_here", "_law_due"] [] := ⟨PySem.W.mg_of X G s_are_.ns, F_are_.kp, F_are_.binds (ps := ["_law_one", "_law_other_here", "_law_due"]) fun _ _ _ _ _ _ us hl => match us, hl with | [_, _, _], _ => rfl⟩
  obtain ⟨d_thgs, F_thgs⟩ := s_thgs.fn
  have a_thgs : At K mg "_law_things" f_thgs d_thgs ["_law_model", "_law_short"] [] := ⟨PySem.W.mg_of X G s_thgs.ns, F_thgs.kp, F_thgs.binds (ps := ["_law_model", "_law_short"]) fun _ _ _ _ _ _ us hl => match us, hl with | [_, _], _ => rfl⟩
  obtain ⟨d_tlls, F_tlls⟩ := s_tlls.fn
  have a_tlls : At K mg "_law_tells" f_tlls d_tlls ["_law_made", "_law_model"] [] := ⟨PySem.W.mg_of X G s_tlls.ns, F_tlls.kp, F_tlls.binds (ps := ["_law_made", "_law_model"]) fun _ _ _ _ _ _ us hl => match us, hl with | [_, _], _ => rfl⟩
  obtain ⟨d_rght, F_rght⟩ := s_rght.fn
  have a_rght : At K mg "_law_right" f_rght d_rght ["_law_rng_here"] [] := ⟨PySem.W.mg_of X G s_rght.ns, F_rght.kp, F_rght.binds (ps := ["_law_rng_here"]) fun _ _ _ _ _ _ us hl => match us, hl with | [_], _ => rfl⟩
  obtain ⟨d_law, F_law⟩ := s_law.fn
  obtain ⟨d_coll, F_coll⟩ := s_coll.fn
  have b_coll : L2.Binds K d_coll ["self"] [] := F_coll.binds (ps := ["self"]) fun _ _ _ _ _ _ us hl => match us, hl with | [_], _ => rfl
  obtain ⟨d_lim, F_lim⟩ := s_lim.fn
  have b_lim : L2.Binds K d_lim ["self"] [] := F_lim.binds (ps := ["self"]) fun _ _ _ _ _ _ us hl => match us, hl with | [_], _ => rfl
  obtain ⟨d_ends, F_ends⟩ := s_ends.fn
  have b_ends : L2.Binds K d_ends ["self"] [] := F_ends.binds (ps := ["self"]) fun _ _ _ _ _ _ us hl => match us, hl with | [_], _ => rfl
  obtain ⟨d_pgs, F_pgs⟩ := s_pgs.fn
  have b_pgs : L2.Binds K d_pgs ["self"] [] := F_pgs.binds (ps := ["self"]) fun _ _ _ _ _ _ us hl => match us, hl with | [_], _ => rfl
  obtain ⟨d_txs, F_txs⟩ := s_txs.fn
  have b_txs : L2.Binds K d_txs ["self"] [] := F_txs.binds (ps := ["self"]) fun _ _ _ _ _ _ us hl => match us, hl with | [_], _ => rfl
  obtain ⟨d_mks, F_mks⟩ := s_mks.fn
  have b_mks : L2.Binds K d_mks ["self"] [] := F_mks.binds (ps := ["self"]) fun _ _ _ _ _ _ us hl => match us, hl with | [_], _ => rfl
  obtain ⟨d_len, F_len⟩ := s_len.fn
  have b_len : L2.Binds K d_len ["self"] [] := F_len.binds (ps := ["self"]) fun _ _ _ _ _ _ us hl => match us, hl with | [_], _ => rfl
  obtain ⟨d_has, F_has⟩ := s_has.fn
  have b_has : L2.Binds K d_has ["self", "value"] [] := F_has.binds (ps := ["self", "value"]) fun _ _ _ _ _ _ us hl => match us, hl with | [_, _], _ => rfl
  obtain ⟨d_eq, F_eq⟩ := s_eq.fn
  have b_eq : L2.Binds K d_eq ["self", "other"] [] := F_eq.binds (ps := ["self", "other"]) fun _ _ _ _ _ _ us hl => match us, hl with | [_, _], _ => rfl
  obtain ⟨d_rep, F_rep⟩ := s_rep.fn
  have b_rep : L2.Binds K d_rep ["self"] [] := F_rep.binds (ps := ["self"]) fun _ _ _ _ _ _ us hl => match us, hl with | [_], _ => rfl
  obtain ⟨d_init, F_init⟩ := rd.ini
  obtain ⟨d_of, F_of⟩ := rd.ofd
  obtain ⟨g1s, k_1s⟩ := kb_1s F_init
  obtain ⟨g2s, k_2s⟩ := kb_2s F_init
  obtain ⟨ds2, v2, bd2⟩ := b_2 F_init
  have q8 := PySem.W.mg_of X G c8
  have q6 := PySem.W.mg_of X G c6
  have q4 := PySem.W.mg_of X G c4
  have q7 := PySem.W.mg_of X G c7
  have gC := PySem.W.mg_of X G rd.ns
  have eC : EqC K C f_eq d_eq := ⟨s_eq.m.at_, s_eq.m.fn, b_eq, ne, hm, by unfold PySem.W.notFirst; simp⟩
  refine ⟨d_law, fun s v => ?_, fun base KB _ => ?_⟩
  · obtain ⟨oc, od, kV, doc, pm, an, cdv, ct, osl, e, _⟩ := F_law.ex
    subst e
    exact .of_eq rfl
  · have sys : ∃ o, base.get? sysModules = some o := by
      obtain ⟨o, e⟩ := sys0
      exact ⟨o, KB _ _ e⟩
    have G_isint : FnOk P w K mg base CX0 1 f_isint d_isint ["value"] (spIsInt K) := ok_isint F_isint z_isinstance z_int z_bool
    have G_below := ok_below (base := base) F_below a_isint G_isint
    have G_isintX : FnOk P w K mg base CX0 1 f_isint d_isint ["value"] (spIsIntX K) := ok_isintX F_isint z_isinstance z_int z_bool
    have G_belowX := ok_belowX (base := base) F_below a_isint G_isintX
    have G_hasl : FnOk P w K mg base CX0 1 f_hasl d_hasl ["value", "least", "most"] (spHasLenK K) := ok_haslenK F_hasl z_isinstance z_list z_tuple z_len
    have G_ares := ok_arestatesK F_ares a_below G_below z_isinstance z_list z_tuple z_len z_all z_set
    have G_word : FnOk P w K mg base CX0 1 f_word d_word ["value"] (spIsWord K) := ok_isword F_word z_isinstance z_str z_all
    have G_name := ok_isname F_name a_word G_word z_len q8
    have G_sign := ok_issign F_sign a_word G_word z_len
    have G_mark := ok_ismark F_mark a_name G_name z_len
    have G_ismv := ok_ismove F_ismv a_below G_below a_name G_name z_isinstance z_tuple z_len
    have G_isrw := ok_isrow F_isrw a_sign G_sign a_ismv G_ismv z_isinstance z_dict z_all
    have G_cop : FnOk P w K mg base CX0 1 f_cop d_cop ["state"] spCopied := ok_copied F_cop z_sorted z_tuple
    have G_coll := ok_collect F_coll rd.rd a_sign G_sign a_mark G_mark z_sorted
    have G_lim : FnOk P w K mg base CX0 1 f_lim d_lim ["self"] (spLimits C) := ok_limits F_lim rd.rd z_len q6 q4 q7
    have G_init := ok_init F_init rd.rd a_hasl G_hasl a_isrw G_isrw a_ares G_ares a_below G_below a_cop G_cop s_coll.m b_coll G_coll s_lim.m b_lim G_lim rd.con z_len z_enumerate z_tuple z_sorted
    have G_ends : FnOk P w K mg base CX0 1 f_ends d_ends ["self"] (spEnds C) := ok_ends F_ends rd.rd
    have G_pgs : FnOk P w K mg base CX0 1 f_pgs d_pgs ["self"] (spPaper C) := ok_paper F_pgs rd.rd
    have G_txs : FnOk P w K mg base CX0 1 f_txs d_txs ["self"] (spTextsM C) := ok_textsM F_txs rd.rd
    have G_mks : FnOk P w K mg base CX0 1 f_mks d_mks ["self"] (spMarksM C) := ok_marksM F_mks rd.rd z_list
    have G_len : FnOk P w K mg base CX0 1 f_len d_len ["self"] (spLenR C) := ok_lenR F_len rd.rd z_len
    have G_has := ok_hasX F_has rd.rd a_below G_belowX z_len
    have G_eq : FnOk P w K mg base CX0 1 f_eq d_eq ["self", "other"] (spEqR K C) := ok_eqR F_eq rd.rd rd.isc gC z_isinstance
    have G_rep : FnG P w K mg base CX0 1 f_rep d_rep ["self"] (spReprR C) := ok_reprR F_rep rd.rd sys
    have G_ofK := ok_ofK F_of rd.mak (kb_3s F_init) G_init
    have G_ofK2 := ok_ofK2 F_of rd.mak (kb_3s F_init) G_init
    have G_of0 := ok_of0 F_of rd.mak (kb_3s F_init) G_init
    have G_draw : FnOk P w K mg base CX0 1 f_draw d_draw ["_law_rng_here", "_law_many"] spDraw := ok_draw F_draw z_divmod z_int
    have G_choi := ok_choice F_choi a_draw G_draw z_len
    have G_lett := ok_letters F_lett a_draw G_draw z_len z_list z_range
    have G_mrks := ok_marks F_mrks a_draw G_draw z_range
    have G_anyf := ok_anyformat F_anyf a_draw G_draw a_choi G_choi z_range
    have G_fami : FnOk P w K mg base CX0 1 f_fami d_fami ["_law_way", "_law_paper", "_law_tells_here", "_law_marks_here"] spFamily := ok_family F_fami
    have G_bent := ok_bent F_bent a_draw G_draw a_choi G_choi z_dict z_len z_list
    have G_frmt := ok_format F_frmt a_draw G_draw a_anyf G_anyf a_fami G_fami a_bent G_bent
    have G_mixd := ok_mixed F_mixd a_draw G_draw z_len z_list z_range
    have G_turn := ok_turned F_turn a_mixd G_mixd z_list z_dict
    have G_redr := ok_readerL F_redr gC rd.mak G_init (kb_3s F_init)
    have G_byof := ok_byOf F_byof gC rd.cr rd.cm G_ofK G_ofK2 z_len z_tuple
    have G_othr := ok_other F_othr a_draw G_draw a_choi G_choi z_dict z_len z_list z_sorted z_range
    have G_shwn : FnG P w K mg base CX0 1 f_shwn d_shwn ["_law_model"] spShown := ok_shown F_shwn sys z_sorted z_dict z_tuple z_repr z_str
    have G_are_ := ok_are F_are_ rd.isc eC G_eq z_repr
    have G_thgs : FnOk P w K mg base CX0 1 f_thgs d_thgs ["_law_model", "_law_short"] spThings := ok_things F_thgs z_sorted z_set z_len
    have G_tlls := ok_tells F_tlls rd.rd rd.isc kC s_ends.m b_ends G_ends s_len.m b_len G_len s_pgs.m b_pgs G_pgs s_txs.m b_txs G_txs s_mks.m b_mks G_mks s_has.m b_has G_has a_thgs G_thgs z_sorted z_len z_tuple z_all z_any z_range
    have G_rng : FnOk P w K mg base CX0 1 f_rng d_rng ["_law_script", "_law_k"] (spRng K) := ok_rng F_rng z_len z_max z_abs z_int
    have G_rght := ok_right F_rght a_lett G_lett a_frmt G_frmt a_mrks G_mrks a_turn G_turn a_mixd G_mixd a_byof G_byof a_othr G_othr a_redr G_redr a_shwn G_shwn a_are_ G_are_ a_tlls G_tlls rd.rd rd.isc gC rd.mak G_init (kb_3s F_init) k_1s k_2s bd2 v2 rd.emp rd.emp2 rd.cr rd.cm G_of0 rd.cv rd.con eC G_eq nb s_rep.m b_rep G_rep z_tuple z_repr z_any
    exact ok_law F_law a_rght G_rght a_rng G_rng z_all z_range z_max z_min z_len
end Sl
/-! ## E2 -/
set_option Elab.async false
open PySem PySem.W PyProof.Rows
set_option maxRecDepth 100000 in
set_option maxHeartbeats 0 in
theorem PySem.Challenge.cw_sealedslots_k18_equal_readers_and_repr_holds : PySem.Challenge.rw_sealedslots_k18_equal_readers_and_repr.Holds := by
  w_on; o_law; x_head; (case hw => w_witness2)
  k_fill
  refine Sl.walk_ofG (l := PySem.Challenge.rw_sealedslots_k18_equal_readers_and_repr) (n := 63) (k := 10) (x := "_law_script") (sp := Sl.spLaw) rfl (by decide) rfl ⟨rfl, by decide, by decide⟩ (fun w h Y => PySem.W.kIn_of Y) ?F (fun _ _ a ns hl _ hS => ⟨a, ns, rfl, hS, hl, fun _ => rfl⟩)
  case F =>
    intro w mg fa h KX G hmg
    refine' Sl.all_mk (P := PySem.Challenge.pw_sealedslots_k18_equal_readers_and_repr) KX G hmg ?s_isint ?s_below ?s_ares ?s_hasl ?s_sign ?s_mark ?s_word ?s_name ?s_ismv ?s_isrw ?s_cop ?s_rng ?s_draw ?s_choi ?s_lett ?s_mrks ?s_anyf ?s_fami ?s_bent ?s_frmt ?s_mixd ?s_redr ?s_turn ?s_byof ?s_othr ?s_shwn ?s_are_ ?s_thgs ?s_tlls ?s_rght ?s_law ?rd ?s_coll ?s_lim ?s_ends ?s_pgs ?s_txs ?s_mks ?s_len ?s_has ?s_eq ?s_rep ?nb ?kC ?ne ?hm ?c8 ?c6 ?c4 ?c7 ?sys0 ?z_isinstance ?z_int ?z_bool ?z_list ?z_tuple ?z_len ?z_all ?z_any ?z_set ?z_str ?z_dict ?z_sorted ?z_enumerate ?z_divmod ?z_range ?z_max ?z_min ?z_abs ?z_repr
    (case s_isint => refine' Sl.std_of ?n ?l ?c ?k; (case n => k_is); (case l => k_is); (case c => k_is); (case k => k_is))
    (case s_below => refine' Sl.std_of ?n ?l ?c ?k; (case n => k_is); (case l => k_is); (case c => k_is); (case k => k_is))
    (case s_ares => refine' Sl.std_of ?n ?l ?c ?k; (case n => k_is); (case l => k_is); (case c => k_is); (case k => k_is))
    (case s_hasl => refine' Sl.std_of ?n ?l ?c ?k; (case n => k_is); (case l => k_is); (case c => k_is); (case k => k_is))
    (case s_sign => refine' Sl.std_of ?n ?l ?c ?k; (case n => k_is); (case l => k_is); (case c => k_is); (case k => k_is))
    (case s_mark => refine' Sl.std_of ?n ?l ?c ?k; (case n => k_is); (case l => k_is); (case c => k_is); (case k => k_is))
    (case s_word => refine' Sl.std_of ?n ?l ?c ?k; (case n => k_is); (case l => k_is); (case c => k_is); (case k => k_is))
    (case s_name => refine' Sl.std_of ?n ?l ?c ?k; (case n => k_is); (case l => k_is); (case c => k_is); (case k => k_is))
    (case s_ismv => refine' Sl.std_of ?n ?l ?c ?k; (case n => k_is); (case l => k_is); (case c => k_is); (case k => k_is))
    (case s_isrw => refine' Sl.std_of ?n ?l ?c ?k; (case n => k_is); (case l => k_is); (case c => k_is); (case k => k_is))
    (case s_cop => refine' Sl.std_of ?n ?l ?c ?k; (case n => k_is); (case l => k_is); (case c => k_is); (case k => k_is))
    (case s_rng => refine' Sl.std_of ?n ?l ?c ?k; (case n => k_is); (case l => k_is); (case c => k_is); (case k => k_is))
    (case s_draw => refine' Sl.std_of ?n ?l ?c ?k; (case n => k_is); (case l => k_is); (case c => k_is); (case k => k_is))
    (case s_choi => refine' Sl.std_of ?n ?l ?c ?k; (case n => k_is); (case l => k_is); (case c => k_is); (case k => k_is))
    (case s_lett => refine' Sl.std_of ?n ?l ?c ?k; (case n => k_is); (case l => k_is); (case c => k_is); (case k => k_is))
    (case s_mrks => refine' Sl.std_of ?n ?l ?c ?k; (case n => k_is); (case l => k_is); (case c => k_is); (case k => k_is))
    (case s_anyf => refine' Sl.std_of ?n ?l ?c ?k; (case n => k_is); (case l => k_is); (case c => k_is); (case k => k_is))
    (case s_fami => refine' Sl.std_of ?n ?l ?c ?k; (case n => k_is); (case l => k_is); (case c => k_is); (case k => k_is))
    (case s_bent => refine' Sl.std_of ?n ?l ?c ?k; (case n => k_is); (case l => k_is); (case c => k_is); (case k => k_is))
    (case s_frmt => refine' Sl.std_of ?n ?l ?c ?k; (case n => k_is); (case l => k_is); (case c => k_is); (case k => k_is))
    (case s_mixd => refine' Sl.std_of ?n ?l ?c ?k; (case n => k_is); (case l => k_is); (case c => k_is); (case k => k_is))
    (case s_redr => refine' Sl.std_of ?n ?l ?c ?k; (case n => k_is); (case l => k_is); (case c => k_is); (case k => k_is))
    (case s_turn => refine' Sl.std_of ?n ?l ?c ?k; (case n => k_is); (case l => k_is); (case c => k_is); (case k => k_is))
    (case s_byof => refine' Sl.std_of ?n ?l ?c ?k; (case n => k_is); (case l => k_is); (case c => k_is); (case k => k_is))
    (case s_othr => refine' Sl.std_of ?n ?l ?c ?k; (case n => k_is); (case l => k_is); (case c => k_is); (case k => k_is))
    (case s_shwn => refine' Sl.std_of ?n ?l ?c ?k; (case n => k_is); (case l => k_is); (case c => k_is); (case k => k_is))
    (case s_are_ => refine' Sl.std_of ?n ?l ?c ?k; (case n => k_is); (case l => k_is); (case c => k_is); (case k => k_is))
    (case s_thgs => refine' Sl.std_of ?n ?l ?c ?k; (case n => k_is); (case l => k_is); (case c => k_is); (case k => k_is))
    (case s_tlls => refine' Sl.std_of ?n ?l ?c ?k; (case n => k_is); (case l => k_is); (case c => k_is); (case k => k_is))
    (case s_rght => refine' Sl.std_of ?n ?l ?c ?k; (case n => k_is); (case l => k_is); (case c => k_is); (case k => k_is))
    (case s_law => refine' Sl.std_of ?n ?l ?c ?k; (case n => k_is); (case l => k_is); (case c => k_is); (case k => k_is))
    (case rd => refine' Sl.rdall_of ?x_ns ?x_pg ?x_hd ?x_po ?x_sa ?x_n1 ?x_n2 ?x_n3 ?x_n4 ?x_n5 ?x_n6 ?x_mk ?x_i ?x_fn ?x_kC ?x_c1 ?x_c2 ?x_l ?x_c ?x_k ?x_lT ?x_lD ?x_le ?x_r1 ?x_r2 ?x_v1 ?x_m1 ?x_m2 ?x_m3 ?x_o1 ?x_o2 ?x_o3 ?x_o4 ?x_o5 ?x_o6 ?x_i1 ?x_i2 ?x_i3 ?x_i4 ?x_i5; (case x_ns => k_is); (case x_pg => k_is); (case x_hd => k_is); (case x_po => k_is); (case x_sa => k_is); (case x_n1 => k_is); (case x_n2 => k_is); (case x_n3 => k_is); (case x_n4 => k_is); (case x_n5 => k_is); (case x_n6 => k_is); (case x_mk => k_is); (case x_i => k_is); (case x_fn => k_is); (case x_kC => k_is); (case x_c1 => k_is); (case x_c2 => k_is); (case x_l => k_is); (case x_c => k_is); (case x_k => k_is); (case x_lT => k_is); (case x_lD => k_is); (case x_le => k_is); (case x_r1 => k_is); (case x_r2 => k_is); (case x_v1 => k_is); (case x_m1 => k_is); (case x_m2 => k_is); (case x_m3 => k_is); (case x_o1 => k_is); (case x_o2 => k_is); (case x_o3 => k_is); (case x_o4 => k_is); (case x_o5 => k_is); (case x_o6 => k_is); (case x_i1 => k_is); (case x_i2 => k_is); (case x_i3 => k_is); (case x_i4 => k_is); (case x_i5 => kit_is))
    (case s_coll => refine' Sl.incls_of ?n ?i ?l ?c ?k; (case n => k_is); (case i => k_is); (case l => k_is); (case c => k_is); (case k => k_is))
    (case s_lim => refine' Sl.incls_of ?n ?i ?l ?c ?k; (case n => k_is); (case i => k_is); (case l => k_is); (case c => k_is); (case k => k_is))
    (case s_ends => refine' Sl.incls_of ?n ?i ?l ?c ?k; (case n => k_is); (case i => k_is); (case l => k_is); (case c => k_is); (case k => k_is))
    (case s_pgs => refine' Sl.incls_of ?n ?i ?l ?c ?k; (case n => k_is); (case i => k_is); (case l => k_is); (case c => k_is); (case k => k_is))
    (case s_txs => refine' Sl.incls_of ?n ?i ?l ?c ?k; (case n => k_is); (case i => k_is); (case l => k_is); (case c => k_is); (case k => k_is))
    (case s_mks => refine' Sl.incls_of ?n ?i ?l ?c ?k; (case n => k_is); (case i => k_is); (case l => k_is); (case c => k_is); (case k => k_is))
    (case s_len => refine' Sl.incls_of ?n ?i ?l ?c ?k; (case n => k_is); (case i => k_is); (case l => k_is); (case c => k_is); (case k => k_is))
    (case s_has => refine' Sl.incls_of ?n ?i ?l ?c ?k; (case n => k_is); (case i => k_is); (case l => k_is); (case c => k_is); (case k => k_is))
    (case s_eq => refine' Sl.incls_of ?n ?i ?l ?c ?k; (case n => k_is); (case i => k_is); (case l => k_is); (case c => k_is); (case k => k_is))
    (case s_rep => refine' Sl.incls_of ?n ?i ?l ?c ?k; (case n => k_is); (case i => k_is); (case l => k_is); (case c => k_is); (case k => k_is))
    (case nb => refine' Sl.notb_of ?y_s_NoneType ?y_s_int ?y_s_str ?y_s_list ?y_s_tuple ?y_s_dict ?y_k_NoneType ?y_k_int ?y_k_str ?y_k_list ?y_k_tuple ?y_k_dict ?y_f_NoneType ?y_f_int ?y_f_str ?y_f_list ?y_f_tuple ?y_f_dict; (case y_s_NoneType => k_is); (case y_s_int => k_is); (case y_s_str => k_is); (case y_s_list => k_is); (case y_s_tuple => k_is); (case y_s_dict => k_is); (case y_k_NoneType => kit_is); (case y_k_int => kit_is); (case y_k_str => kit_is); (case y_k_list => kit_is); (case y_k_tuple => kit_is); (case y_k_dict => kit_is); (case y_f_NoneType => k_is); (case y_f_int => k_is); (case y_f_str => k_is); (case y_f_list => k_is); (case y_f_tuple => k_is); (case y_f_dict => k_is))
    (case kC => kit_is)
    (case ne => k_is)
    (case hm => k_is)
    (case c8 => k_is)
    (case c6 => k_is)
    (case c4 => k_is)
    (case c7 => k_is)
    (case sys0 => refine' Sl.sys_of ?x_sys; (case x_sys => k_is))
    (case z_isinstance => k_is)
    (case z_int => k_is)
    (case z_bool => k_is)
    (case z_list => k_is)
    (case z_tuple => k_is)
    (case z_len => k_is)
    (case z_all => k_is)
    (case z_any => k_is)
    (case z_set => k_is)
    (case z_str => k_is)
    (case z_dict => k_is)
    (case z_sorted => k_is)
    (case z_enumerate => k_is)
    (case z_divmod => k_is)
    (case z_range => k_is)
    (case z_max => k_is)
    (case z_min => k_is)
    (case z_abs => k_is)
    (case z_repr => k_is)
#print axioms PySem.Challenge.cw_sealedslots_k18_equal_readers_and_repr_holds
