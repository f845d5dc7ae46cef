import PyProof.Rows.All
import Wide.All
import OpenK.AllK
import Wide.FinOn
import PyProof.ReprRoads
import KE.KExcIs
import HandS.Base
import HandS.Call
import HandS.List
import HandS.Comp
import HandS.Ends
import HandS.Words
import HandS.Dict
import HandS.Iter
import HandS.Text
import HandS.Evl
import HandS.IsInst
import HandS.Walk
import HandS.More
import HandS.TupAny
import HandS.OwnEq
import HandS.SlotsOwn
import HandS.Exc
import HandS.ExcInit
import HandS.ExcField
import HandS.WordsExc
import HandS.CallSlots
import HandS.Strs
import HandS.Conv
import HandS.RaiseMore
import HandS.Style
import HandS.ExcIs
import HandS.MakeKw
import HandS.MakeKwOnly
import PyProof.ExcBaseAll.LookupError
import PyProof.Rows.FactsExc_KeyError
import PyProof.ExcBaseAll.RuntimeError
import PyProof.ExcBaseAll.OverflowError
import HandS.TupMul
import HandS.TupLe
import HandS.DictComp
import HandS.LawCells
import HandS.Small
import HandS.TryMany
import HandS.TryOnly
import HandS.GenBody
import HandS.GenYield
import HandS.GenCall
import HandS.GenList
import HandS.ListEq
import HandS.DictEq
import HandS.WordsDict
import HandS.Zip
import HandS.Zip0
import KE.KStateDown
import HandS.Defaults
import HandS.Head0
import HandS.Head1
import HandS.Head2
import HandS.HeadEnd
import HandS.HeadHook1
import HandS.HeadHook2
import HandS.HeadHook3
import HandS.HeadHook4
import KE.KDictKeyed
import PySem.Challenge.RW_steadycalls_k24_statements_refused
set_option Elab.async false
set_option linter.all false
set_option maxRecDepth 100000
set_option maxHeartbeats 4000000
namespace Sc
open PySem PySem.Spec PyProof.Rows L2
def topS (i : Nat) : Stmt := PySem.Challenge.pw_steadycalls_k24_statements_refused.main.body.getD i (.Pass ⟨0, 0, 0, 0⟩)
abbrev sPool : Stmt := topS 66
abbrev sDraw : Stmt := topS 67
abbrev sPick : Stmt := topS 68
theorem scPool : FnScope ["_law_script", "_law_k", "_law_cell", "_law_size", "_law_mixed"] ["_law_script", "_law_k"] (defScope sPool) := ⟨rfl, rfl, rfl, by decide +kernel, rfl, by decide +kernel, by decide +kernel⟩
theorem scDraw : FnScope ["_law_pool_here", "_law_many", "_law_found"] ["_law_pool_here", "_law_many"] (defScope sDraw) := ⟨rfl, rfl, rfl, by decide +kernel, rfl, by decide +kernel, by decide +kernel⟩
theorem scPick : FnScope ["_law_pool_here", "_law_row"] ["_law_pool_here", "_law_row"] (defScope sPick) := ⟨rfl, rfl, rfl, by decide +kernel, rfl, by decide +kernel, by decide +kernel⟩
/-- a pool of draws stands at p -/
def PoolAt (H : Hp) (p : Addr) : Prop := ∃ x y : Int, H p = some (.lst [.int x, .int y]) ∧ 0 ≤ x ∧ 0 ≤ y ∧ y < 2147483648
/-- all that was known but for p is as it was -/
def But (p : Addr) (H H' : Hp) : Prop := ∀ b o, H b = some o → b ≠ p → H' b = some o
theorem But.refl (p : Addr) (H : Hp) : But p H H := fun _ _ h _ => h
theorem But.trans {p : Addr} {H H1 H2 : Hp} (a : But p H H1) (b : But p H1 H2) : But p H H2 := fun c o h n => b c o (a c o h n) n
theorem But.of {p : Addr} {H H' : Hp} (s : Same H H') : But p H H' := fun b o h _ => s b o h
theorem same_upd {H : Hp} {p : Addr} {o : HO} (h : H p = none) : Same H (upd H p o) := fun b x e => by
  rw [upd_ne (ne_of_none e h)]
  exact e
theorem But.upd {p : Addr} {H : Hp} {o : HO} : But p H (L2.upd H p o) := fun b x e n => by
  rw [upd_ne n]
  exact e
/-- what an expression gives, by what is true of it -/
theorem q_asgP {te : TE} {tz : TS} {D : Ends} {σ : L2.St} {H : Hp} {i : Nat} (Pr : V → Hp → Prop) (h : ∀ Q : VK, (∀ v H', Pr v H' → Q v H') → te σ H Q) (k : ∀ v H1, Pr v H1 → tz D (σ.set i (some v)) H1) : tSeq (tAsg te (gName i)) tz D σ H := h _ k
theorem But.rd {p : Addr} {H H' : Hp} (b : But p H H') {a : Addr} {u : HO} (n : a ≠ p) (h : Rd H a u) : Rd H' a u := by
  rcases h with h | ⟨o, h⟩
  · exact .inl (b _ _ h n)
  · exact .inr ⟨o, b _ _ h n⟩
theorem But.seq {p : Addr} {H H' : Hp} (b : But p H H') {K : PySem.W.Frag} {a : Addr} {xs : List V} (n : a ≠ p) (h : SqL K H a xs) : SqL K H' a xs := h.imp (b.rd n) id
theorem But.seqT {p : Addr} {H H' : Hp} (b : But p H H') {K : PySem.W.Frag} {a : Addr} {xs : List V} (n : a ≠ p) (h : SqT K H a xs) : SqT K H' a xs := h.imp (b.rd n) id
theorem at_nn {xs : List V} {v : Int} {x : V} (h0 : 0 ≤ v) (h : xs[v.toNat]? = some x) : atI xs v = some x := by
  obtain ⟨n, rfl⟩ := Int.eq_ofNat_of_zero_le h0
  exact atI_nat h
theorem b01 (b : Bool) : 0 ≤ (if b = true then (1 : Int) else 0) ∧ (if b = true then (1 : Int) else 0) ≤ 1 := by cases b <;> decide
structure Blt (mg : Str → Option Value) : Prop where
  abs : mg "abs" = none
  int : mg "int" = none
  len : mg "len" = none
  sum : mg "sum" = none
  max : mg "max" = none
  min : mg "min" = none
  range : mg "range" = none
  isinstance : mg "isinstance" = none
  bool : mg "bool" = none
  str : mg "str" = none
  tuple : mg "tuple" = none
  list : mg "list" = none
  dict : mg "dict" = none
  all : mg "all" = none
  sorted : mg "sorted" = none
  repr : mg "repr" = none
  zip : mg "zip" = none
section
variable {P : Program} {w : World} {K : PySem.W.Frag} {mg : Str → Option Value} {base : Heap}
def spPool (K : PySem.W.Frag) : Sp := fun vs H Q _ => ∃ (a : Addr) (ns : List Int) (k : Nat), vs = [.ref a, .int k] ∧ SqL K H a (ns.map V.int) ∧ k ≤ 3 ∧ (k < ns.length ∨ ns = []) ∧
  ∀ H' p, H p = none → Same H H' → PoolAt H' p → Q (.ref p) H'
theorem ok_pool {f : Addr} {fd : FuncData} (F : Fun K "_law_pool" "_law_pool" sPool f fd) (M : Blt mg) : FnOk P w K mg base CX0 1 f fd ["_law_script", "_law_k"] (spPool K) := by
  refine F.ok scPool (fun vs H Q E h => ?_) (fun cdv A outer s H vs Q E hr h => ?_)
  · obtain ⟨a, ns, k, rfl, _⟩ := h
    rfl
  · obtain ⟨a, ns, k, rfl, hS, hk, hin, q⟩ := h
    refine ⟨_, pss_cons (ps_set (i := 2) scPool.nd rfl (.inl rfl) (pe_ifExp (pt_cmpR op_lt (pv 1) (pe_callB call_len_seq (by rfl) M.len PySem.boot_len (pa_cons (pv 0) pa_nil)) (nomark _))
        (pe_ix ix_list (pv 0) (pv 1) (fun _ _ => rfl))
        (pe_op op_add (pe_op op_mul pe_int (pe_callB (cr_sum rfl) (by rfl) M.sum (by decide +kernel) (pa_cons (pe_slice sl_list (pv 0) po_none (po_some pe_int)) pa_nil))) (pv 1))))
      (pss_cons (ps_set (i := 3) scPool.nd rfl (.inl rfl) (pe_callB call_abs (by rfl) M.abs (by decide +kernel) (pa_cons (pv 2) pa_nil)))
      (pss_cons (ps_set (i := 4) scPool.nd rfl (.inl rfl)
        (pe_op op_add (pe_op op_add (pe_op op_add (pe_op op_mod (pe_callTy call_int1 (by rfl) M.int (by decide +kernel) (pa_cons (pv 3) pa_nil)) pe_int)
          (pe_op op_mul (pe_op op_mul pe_int (pv 1)) (pv 1))) (pe_op op_mul pe_int (pv 1))) pe_int))
      (pss_cons (ps_set (i := 4) scPool.nd rfl (.inl rfl)
        (pe_op op_mod (pe_callTy call_int1 (by rfl) M.int (by decide +kernel) (pa_cons (pe_op op_mul (pv 4) pe_int) pa_nil)) pe_int))
      (pss_one (ps_ret (pe_lst (pa_cons
          (pe_op op_mul (pv 3) (pe_callTy call_int1 (by rfl) M.int (by decide +kernel) (pa_cons (pe_cmpR op_ge (pv 3) (pe_op op_pow pe_int pe_int) (nomark _)) pa_nil)))
          (pa_cons (pe_op op_mod (pe_callTy call_int1 (by rfl) M.int (by decide +kernel) (pa_cons (pe_op op_mul (pv 4) (pv 4)) pa_nil)) pe_int) pa_nil)))))))), ?_⟩
    refine q_asgP (Pr := fun v H1 => (∃ c : Int, v = .int c) ∧ Same H H1) (fun Q' hq => ?_) (fun v H1 hv => ?_)
    · refine ⟨_, rfl, _, rfl, _, _, rfl, .inl hS, _, _, rfl, rfl, _, rfl, ite2 (fun e => ?_) (fun e => ?_)⟩
      · have e1 := of_decide_eq_true e
        rw [List.length_map] at e1
        have e2 : k < ns.length := by omega
        refine ⟨_, rfl, _, rfl, a, ns.map V.int, k, .int ns[k], rfl, rfl, hS, atI_nat ?_, hq _ _ ⟨⟨_, rfl⟩, Same.refl H⟩⟩
        rw [List.getElem?_map, List.getElem?_eq_getElem e2]
        rfl
      · have e1 : ns = [] := by
          rcases hin with h | h
          · refine absurd (decide_eq_true ?_) e
            rw [List.length_map]
            omega
          · exact h
        subst e1
        refine ⟨_, rfl, 63, rfl, a, _, rfl, hS, fun p np => ?_⟩
        refine ⟨p, [], rfl, .inl (.inl (upd_same.trans ?_)), _, _, rfl, rfl, .inl ⟨by decide, by decide⟩, _, rfl, _, _, rfl, rfl, hq _ _ ⟨⟨_, rfl⟩, same_upd np⟩⟩
        rfl
    · obtain ⟨⟨c, rfl⟩, s1⟩ := hv
      have hz : 0 ≤ (if c < 0 then -c else c) := by split <;> omega
      have fin : ∀ (x y : Int), 0 ≤ x → 0 ≤ y → y < 2147483648 → ∀ p, H1 p = none → Q (.ref p) (upd H1 p (.lst [.int x, .int y])) := fun x y hx hy hy2 p np =>
        q _ p (s1.free np) (s1.trans (same_upd np)) ⟨x, y, upd_same, hx, hy, hy2⟩
      refine ⟨.int c, rfl, _, rfl, ?_⟩
      refine ⟨_, rfl, .inl ⟨_, rfl, _, _, rfl, rfl, (by show (0 : Int) < 2147483629; decide), ?_⟩⟩
      have m1 : 0 ≤ (if c < 0 then -c else c) % 2147483629 := Int.emod_nonneg _ (by decide)
      have m2 : (if c < 0 then -c else c) % 2147483629 < 2147483629 := Int.emod_lt_of_pos _ (by decide)
      have k0 : (7919 * (k : Int) * (k : Int)) ≤ 71271 ∧ 0 ≤ (7919 * (k : Int) * (k : Int)) := by
        rcases (show k = 0 ∨ k = 1 ∨ k = 2 ∨ k = 3 by omega) with e | e | e | e <;> subst e <;> decide
      refine ⟨_, rfl, _, _, rfl, rfl, .inl ⟨by decide, by decide⟩, _, rfl, _, _, rfl, rfl, .inr ⟨by omega, by omega⟩, _, _, rfl, rfl, _, rfl, _, _, rfl, rfl, .inl ⟨by decide, by decide⟩, _, _, rfl, rfl, _, _, rfl, rfl, ?_⟩
      refine ⟨_, rfl, _, _, rfl, rfl, .inr ⟨by decide, by decide⟩, .inl ⟨_, rfl, _, _, rfl, rfl, (by show (0 : Int) < 2147483647; decide), ?_⟩⟩
      have n1 : 0 ≤ ((if c < 0 then -c else c) % 2147483629 + 7919 * (k : Int) * (k : Int) + 31 * (k : Int) + 17) * 48271 % 2147483647 := Int.emod_nonneg _ (by decide)
      have n2 : ((if c < 0 then -c else c) % 2147483629 + 7919 * (k : Int) * (k : Int) + 31 * (k : Int) + 17) * 48271 % 2147483647 < 2147483647 := Int.emod_lt_of_pos _ (by decide)
      refine ⟨_, rfl, _, rfl, _, _, rfl, rfl, ⟨by decide, by decide, by decide⟩, _, _, rfl, rfl, ?_⟩
      refine .inr ⟨_, rfl, ?_⟩
      refine ⟨_, _, rfl, rfl, .inr ?_, _, rfl, _, rfl, _, _, rfl, rfl, .inl ⟨by omega, by omega⟩, .inl ⟨_, rfl, _, _, rfl, rfl, (by show (0 : Int) < 2147483629; decide), (by show 2 ≤ sizeLine; decide), fun p np => ?_⟩⟩
      · exact ⟨Int.lt_of_lt_of_le (by decide) (b01 _).1, Int.lt_of_le_of_lt (b01 _).2 (by decide)⟩
      · refine fin _ _ (Int.mul_nonneg hz (b01 _).1) (Int.emod_nonneg _ (by decide)) ?_ p np
        exact Int.lt_trans (Int.emod_lt_of_pos _ (by decide)) (by decide)
def spDraw : Sp := fun vs H Q _ => ∃ (p : Addr) (n : Int), vs = [.ref p, .int n] ∧ PoolAt H p ∧ 0 < n ∧ n ≤ 1000000000 ∧
  ∀ (v : Int) H', 0 ≤ v → v < n → But p H H' → PoolAt H' p → (∀ b, H b = none → H' b = none) → Q (.int v) H'
theorem ok_draw {f : Addr} {fd : FuncData} (F : Fun K "_law_draw" "_law_draw" sDraw f fd) (M : Blt mg) : FnOk P w K mg base CX0 1 f fd ["_law_pool_here", "_law_many"] spDraw := by
  refine F.ok scDraw (fun vs H Q E h => ?_) (fun cdv A outer s H vs Q E hr h => ?_)
  · obtain ⟨p, n, rfl, _⟩ := h
    rfl
  · obtain ⟨p, n, rfl, ⟨x, y, hp, hx, hy, hy2⟩, hn, hn2, q⟩ := h
    refine ⟨_, pss_cons (ps_if (pt_cmpR op_gt (pe_ix ix_list (pv 0) pe_int (fun _ _ => rfl)) pe_int (nomark _))
        (pss_cons (ps_set (i := 2) scDraw.nd rfl (.inl rfl) (pe_op op_mod (pe_callTy call_int1 (by rfl) M.int (by decide +kernel) (pa_cons (pe_ix ix_list (pv 0) pe_int (fun _ _ => rfl)) pa_nil)) (pv 1)))
        (pss_cons (ps_asg (pe_op op_fdiv (pe_ix ix_list (pv 0) pe_int (fun _ _ => rfl)) (pv 1)) (pg_sub (pv 0) pe_int set_list))
        (pss_one (ps_ret (pv 2))))) pss_nil)
      (pss_cons (ps_asg (pe_op op_mod (pe_callTy call_int1 (by rfl) M.int (by decide +kernel) (pa_cons (pe_op op_add (pe_op op_mul (pe_ix ix_list (pv 0) pe_int (fun _ _ => rfl)) pe_int) pe_int) pa_nil)) pe_int) (pg_sub (pv 0) pe_int set_list))
      (pss_one (ps_ret (pe_op op_mod (pe_callTy call_int1 (by rfl) M.int (by decide +kernel) (pa_cons (pe_op op_fdiv (pe_op op_mod (pe_callTy call_int1 (by rfl) M.int (by decide +kernel)
          (pa_cons (pe_op op_mul (pe_ix ix_list (pv 0) pe_int (fun _ _ => rfl)) (pe_ix ix_list (pv 0) pe_int (fun _ _ => rfl))) pa_nil)) pe_int) pe_int) pa_nil)) (pv 1))))), ?_⟩
    have hS : SqL K H p [.int x, .int y] := .inl (.inl hp)
    have fr : ∀ o b, H b = none → upd H p o b = none := fun o b hb => by
      rw [upd_ne (fun e => by rw [e, hp] at hb; cases hb)]
      exact hb
    refine ⟨.ref p, rfl, p, _, 0, .int x, rfl, rfl, hS, rfl, x, 0, rfl, rfl, _, rfl, ite2 (fun e => ?_) (fun e => ?_)⟩
    · refine ⟨.ref p, rfl, p, _, 0, .int x, rfl, rfl, hS, rfl, .inl ⟨x, rfl, _, rfl, x, n, rfl, rfl, hn, ?_⟩⟩
      refine ⟨.ref p, rfl, p, _, 0, .int x, rfl, rfl, hS, rfl, .int n, rfl, x, n, rfl, rfl, ⟨hn, by omega⟩, ?_⟩
      refine ⟨.ref p, rfl, p, _, 0, 0, rfl, rfl, hp, rfl, ?_⟩
      refine ⟨_, rfl, q _ _ (Int.emod_nonneg _ (by omega)) (Int.emod_lt_of_pos _ hn) But.upd ⟨_, y, upd_same, ?_, hy, hy2⟩ (fr _)⟩
      exact Int.ediv_nonneg hx (by omega)
    · refine ⟨.ref p, rfl, p, _, 1, .int y, rfl, rfl, hS, rfl, y, _, rfl, rfl, .inl ⟨by omega, by omega⟩, _, _, rfl, rfl, .inl ⟨_, rfl, _, _, rfl, rfl, (by show (0 : Int) < 2147483647; decide), ?_⟩⟩
      refine ⟨.ref p, rfl, p, _, 1, 1, rfl, rfl, hp, rfl, ?_⟩
      have b1 : 0 ≤ (y * 48271 + 11) % 2147483647 := Int.emod_nonneg _ (by decide)
      have b2 : (y * 48271 + 11) % 2147483647 < 2147483647 := Int.emod_lt_of_pos _ (by decide)
      have hS2 : SqL K (upd H p (.lst ([V.int x, .int y].set 1 (.int ((y * 48271 + 11) % 2147483647))))) p [.int x, .int ((y * 48271 + 11) % 2147483647)] := .inl (.inl upd_same)
      refine ⟨.ref p, rfl, p, _, 1, _, rfl, rfl, hS2, rfl, .ref p, rfl, p, _, 1, _, rfl, rfl, hS2, rfl, _, _, rfl, rfl, .inl ⟨by omega, by omega⟩, .inl ⟨_, rfl, _, _, rfl, rfl, (by show (0 : Int) < 2147483629; decide), _, _, rfl, rfl, ⟨by decide, by decide⟩, .inl ⟨_, rfl, ?_⟩⟩⟩
      refine ⟨.int n, rfl, _, n, rfl, rfl, hn, ?_⟩
      exact q _ _ (Int.emod_nonneg _ (by omega)) (Int.emod_lt_of_pos _ hn) But.upd ⟨x, _, upd_same, hx, b1, by omega⟩ (fr _)
def spPick (K : PySem.W.Frag) : Sp := fun vs H Q _ => ∃ (p r : Addr) (xs : List V), vs = [.ref p, .ref r] ∧ PoolAt H p ∧ p ≠ r ∧ (SqL K H r xs ∨ SqT K H r xs) ∧ 0 < xs.length ∧ xs.length ≤ 1000000 ∧
  ∀ (i : Nat) (hi : i < xs.length) H', But p H H' → PoolAt H' p → (∀ b, H b = none → H' b = none) → Q xs[i] H'
theorem ok_pick {f fD : Addr} {fd fdD : FuncData} (F : Fun K "_law_pick" "_law_pick" sPick f fd) (M : Blt mg) (FD : Fun K "_law_draw" "_law_draw" sDraw fD fdD) (bD : Binds K fdD ["_law_pool_here", "_law_many"] []) (gD : mg "_law_draw" = some (.ref fD)) :
    FnOk P w K mg base CX0 2 f fd ["_law_pool_here", "_law_row"] (spPick K) := by
  have GD : FnOk P w K mg base CX0 1 fD fdD ["_law_pool_here", "_law_many"] spDraw := ok_draw FD M
  refine F.ok scPick (fun vs H Q E h => ?_) (fun cdv A outer s H vs Q E hr h => ?_)
  · obtain ⟨p, r, xs, rfl, _⟩ := h
    rfl
  · obtain ⟨p, r, xs, rfl, hp, npr, hS, hl, hl2, q⟩ := h
    refine ⟨_, pss_one (ps_ret (pe_ix ix_seq (pv 1) (pe_call GD hr (by rfl) gD FD.kp bD .nil pass0 (pa_cons (pv 0) (pa_cons (pe_callB call_len_seq (by rfl) M.len PySem.boot_len (pa_cons (pv 1) pa_nil)) pa_nil))) (fun _ _ => rfl))), ?_⟩
    refine ⟨_, rfl, _, rfl, _, rfl, _, _, rfl, hS, p, _, rfl, hp, by omega, by omega, fun v H' v0 v1 bt hp' fr => ?_⟩
    have hv : v.toNat < xs.length := by omega
    have ha : atI xs v = some xs[v.toNat] := at_nn v0 (List.getElem?_eq_getElem hv)
    have sk : SqL K H' r xs ∨ SqT K H' r xs := hS.imp (bt.seq npr.symm) (bt.seqT npr.symm)
    rcases sk with sk | sk
    · exact .inl ⟨_, _, _, _, rfl, rfl, sk, ha, q _ hv _ bt hp' fr⟩
    · exact .inr (.inl ⟨_, _, _, _, rfl, rfl, sk, ha, q _ hv _ bt hp' fr⟩)
end
/-! ### data -/
mutual
theorem dp_mono {K : PySem.W.Frag} {H H' : Hp} (ht : ∀ a xs, SqT K H a xs → SqT K H' a xs) (hl : ∀ a xs, SqL K H a xs → SqL K H' a xs) : ∀ (d : PyData) (v : V), Dp K H v d → Dp K H' v d
  | .none, _, h => by
    cases h
    exact .non
  | .bool b, _, h => by
    cases h
    exact .bl b
  | .int i, _, h => by
    cases h
    exact .int i
  | .str x, _, h => by
    cases h
    exact .str x
  | .list ds, _, h => by
    cases h with
    | lst hs ha => exact .lst (hl _ _ hs) (dpAll_mono ht hl ds _ ha)
  | .tuple ds, _, h => by
    cases h with
    | tup hs ha => exact .tup (ht _ _ hs) (dpAll_mono ht hl ds _ ha)
  | .dict _, _, h => by cases h
theorem dpAll_mono {K : PySem.W.Frag} {H H' : Hp} (ht : ∀ a xs, SqT K H a xs → SqT K H' a xs) (hl : ∀ a xs, SqL K H a xs → SqL K H' a xs) : ∀ (ds : List PyData) (vs : List V), DpAll K H vs ds → DpAll K H' vs ds
  | [], _, h => by
    cases h
    exact .nil
  | d :: ds, _, h => by
    cases h with
    | cons h1 h2 => exact .cons (dp_mono ht hl d _ h1) (dpAll_mono ht hl ds _ h2)
end
theorem same_sqT {K : PySem.W.Frag} {H H' : Hp} (s : Same H H') {a : Addr} {xs : List V} (h : SqT K H a xs) : SqT K H' a xs := by
  rcases h with (h | ⟨o, h⟩) | h
  · exact .inl (.inl (s _ _ h))
  · exact .inl (.inr ⟨o, s _ _ h⟩)
  · exact .inr h
theorem dp_same {K : PySem.W.Frag} {H H' : Hp} (s : Same H H') {d : PyData} {v : V} (h : Dp K H v d) : Dp K H' v d := dp_mono (fun _ _ => same_sqT s) (fun _ _ => s.seq) d v h
theorem dpA_same {K : PySem.W.Frag} {H H' : Hp} (s : Same H H') {ds : List PyData} {vs : List V} (h : DpAll K H vs ds) : DpAll K H' vs ds := dpAll_mono (fun _ _ => same_sqT s) (fun _ _ => s.seq) ds vs h
/-! data without lists -/
mutual
def noL : PyData → Bool
  | .list _ => false
  | .tuple ds => noLs ds
  | .dict _ => false
  | _ => true
def noLs : List PyData → Bool
  | [] => true
  | d :: ds => noL d && noLs ds
end
mutual
theorem dp_tups {K : PySem.W.Frag} {H H' : Hp} (ht : ∀ a xs, SqT K H a xs → SqT K H' a xs) : ∀ (d : PyData) (v : V), noL d = true → Dp K H v d → Dp K H' v d
  | .none, _, _, h => by
    cases h
    exact .non
  | .bool b, _, _, h => by
    cases h
    exact .bl b
  | .int i, _, _, h => by
    cases h
    exact .int i
  | .str x, _, _, h => by
    cases h
    exact .str x
  | .list ds, _, n, _ => by cases n
  | .tuple ds, _, n, h => by
    cases h with
    | tup hs ha => exact .tup (ht _ _ hs) (dpAll_tups ht ds _ n ha)
  | .dict _, _, _, h => by cases h
theorem dpAll_tups {K : PySem.W.Frag} {H H' : Hp} (ht : ∀ a xs, SqT K H a xs → SqT K H' a xs) : ∀ (ds : List PyData) (vs : List V), noLs ds = true → DpAll K H vs ds → DpAll K H' vs ds
  | [], _, _, h => by
    cases h
    exact .nil
  | d :: ds, _, n, h => by
    have n1 : noL d = true := (Bool.and_eq_true _ _ ▸ n : noL d = true ∧ noLs ds = true).1
    have n2 : noLs ds = true := (Bool.and_eq_true _ _ ▸ n : noL d = true ∧ noLs ds = true).2
    cases h with
    | cons h1 h2 => exact .cons (dp_tups ht d _ n1 h1) (dpAll_tups ht ds _ n2 h2)
end
/-- tuples stand while a list is changed -/
theorem but_sqT {K : PySem.W.Frag} {p : Addr} {H H' : Hp} {ys : List V} (hp : H p = some (.lst ys)) (b : But p H H') {a : Addr} {xs : List V} (h : SqT K H a xs) : SqT K H' a xs := by
  rcases h with (h | ⟨o, h⟩) | h
  · exact .inl (.inl (b _ _ h (ne_of h hp (fun z => nomatch z))))
  · exact .inl (.inr ⟨o, b _ _ h (ne_of h hp (fun z => nomatch z))⟩)
  · exact .inr h
theorem dp_but {K : PySem.W.Frag} {p : Addr} {H H' : Hp} (hp : PoolAt H p) (b : But p H H') {d : PyData} {v : V} (n : noL d = true) (h : Dp K H v d) : Dp K H' v d := by
  obtain ⟨x, y, e, _⟩ := hp
  exact dp_tups (fun _ _ => but_sqT e b) d v n h
/-- a value's own name of its class -/
def kind : PyData → String
  | .none => "NoneType"
  | .bool _ => "bool"
  | .int _ => "int"
  | .str _ => "str"
  | .list _ => "list"
  | .tuple _ => "tuple"
  | .dict _ => "dict"
theorem tyx_sqT {K : PySem.W.Frag} {H : Hp} {a : Addr} {xs : List V} (h : SqT K H a xs) : TyX K H (.ref a) (.type "tuple") := by
  rcases h with (h | ⟨o, h⟩) | ⟨o, _, _, h, c, _⟩
  · exact .base (.tup h)
  · exact .fTuple h
  · exact .kTuple h c
theorem tyx_sqL {K : PySem.W.Frag} {H : Hp} {a : Addr} {xs : List V} (h : SqL K H a xs) : TyX K H (.ref a) (.type "list") := by
  rcases h with (h | ⟨o, h⟩) | ⟨o, _, _, h, c, _⟩
  · exact .base (.lst h)
  · exact .base (.frz h)
  · exact .kList h c
theorem dp_ty {K : PySem.W.Frag} {H : Hp} {d : PyData} {v : V} (h : Dp K H v d) : TyX K H v (.type (kind d)) := by
  cases h with
  | non => exact .base .non
  | bl b => exact .base (.bl b)
  | int i => exact .base (.int i)
  | str x => exact .base (.str x)
  | lst hs _ => exact tyx_sqL hs
  | tup hs _ => exact tyx_sqT hs
def isInt : PyData → Bool
  | .int _ => true
  | .bool _ => true
  | _ => false
def isBool : PyData → Bool
  | .bool _ => true
  | _ => false
def isStr : PyData → Bool
  | .str _ => true
  | _ => false
def isTup : PyData → Bool
  | .tuple _ => true
  | _ => false
theorem kit_int (K : PySem.W.Frag) : ∀ d : PyData, PySem.W.kitOne K (.type (kind d)) (.type "int") = some (isInt d)
  | .none => kit_ty (show kitB "NoneType" "int" = some false by decide +kernel)
  | .bool _ => kit_ty (show kitB "bool" "int" = some true by decide +kernel)
  | .int _ => kit_ty (show kitB "int" "int" = some true by decide +kernel)
  | .str _ => kit_ty (show kitB "str" "int" = some false by decide +kernel)
  | .list _ => kit_ty (show kitB "list" "int" = some false by decide +kernel)
  | .tuple _ => kit_ty (show kitB "tuple" "int" = some false by decide +kernel)
  | .dict _ => kit_ty (show kitB "dict" "int" = some false by decide +kernel)
theorem kit_bool (K : PySem.W.Frag) : ∀ d : PyData, PySem.W.kitOne K (.type (kind d)) (.type "bool") = some (isBool d)
  | .none => kit_ty (show kitB "NoneType" "bool" = some false by decide +kernel)
  | .bool _ => kit_ty (show kitB "bool" "bool" = some true by decide +kernel)
  | .int _ => kit_ty (show kitB "int" "bool" = some false by decide +kernel)
  | .str _ => kit_ty (show kitB "str" "bool" = some false by decide +kernel)
  | .list _ => kit_ty (show kitB "list" "bool" = some false by decide +kernel)
  | .tuple _ => kit_ty (show kitB "tuple" "bool" = some false by decide +kernel)
  | .dict _ => kit_ty (show kitB "dict" "bool" = some false by decide +kernel)
theorem kit_str (K : PySem.W.Frag) : ∀ d : PyData, PySem.W.kitOne K (.type (kind d)) (.type "str") = some (isStr d)
  | .none => kit_ty (show kitB "NoneType" "str" = some false by decide +kernel)
  | .bool _ => kit_ty (show kitB "bool" "str" = some false by decide +kernel)
  | .int _ => kit_ty (show kitB "int" "str" = some false by decide +kernel)
  | .str _ => kit_ty (show kitB "str" "str" = some true by decide +kernel)
  | .list _ => kit_ty (show kitB "list" "str" = some false by decide +kernel)
  | .tuple _ => kit_ty (show kitB "tuple" "str" = some false by decide +kernel)
  | .dict _ => kit_ty (show kitB "dict" "str" = some false by decide +kernel)
theorem kit_tup (K : PySem.W.Frag) : ∀ d : PyData, PySem.W.kitOne K (.type (kind d)) (.type "tuple") = some (isTup d)
  | .none => kit_ty (show kitB "NoneType" "tuple" = some false by decide +kernel)
  | .bool _ => kit_ty (show kitB "bool" "tuple" = some false by decide +kernel)
  | .int _ => kit_ty (show kitB "int" "tuple" = some false by decide +kernel)
  | .str _ => kit_ty (show kitB "str" "tuple" = some false by decide +kernel)
  | .list _ => kit_ty (show kitB "list" "tuple" = some false by decide +kernel)
  | .tuple _ => kit_ty (show kitB "tuple" "tuple" = some true by decide +kernel)
  | .dict _ => kit_ty (show kitB "dict" "tuple" = some false by decide +kernel)
/-- a block that goes through an iterator: what each turn asks, and what holds at the end -/
abbrev Turns (J : It) (H0 : Hp) (End : Hp → Prop) (Body : (Hp → Prop) → V → Hp → Prop) : Prop :=
  ∃ Wk : Nat → Nat → Hp → Prop, (∃ left, Wk 0 left H0) ∧
    ∀ at_ left Hn, Wk at_ left Hn → (J.stop at_ Hn ∧ End Hn) ∨ (J.go at_ Hn ∧
      ∃ Then : Hp → Prop, (∀ Hb, Then Hb → ∃ fewer, fewer < left ∧ Wk (at_ + 1) fewer Hb) ∧ ∀ item Hi, J.yld at_ Hn item Hi → Body Then item Hi)
/-- a turn of a list's comprehension without a test -/
abbrev LcBody (D : Addr) (te : TE) (vs : List Nat) (j : Nat) (σ : L2.St) : (Hp → Prop) → V → Hp → Prop := fun Then item Hi =>
  gName j item (wipe σ vs) Hi fun σn Hn => wipe σn vs = wipe σ vs ∧ tYes σn Hn fun yes Hy =>
    if yes = true then te σn Hy (fun made Hm => ∃ sofar, Hm D = some (.lst sofar) ∧ sofar.length < sizeLine ∧ Then (upd Hm D (.lst (sofar ++ [made])))) else Then Hy
/-- a comprehension whose i-th item is f i -/
theorem lc_vals {J : It} {n : Nat} {G : Hp → Prop} {Y : Nat → Hp → V → Hp → Prop} (w : Walk J n G Y) {j : Nat} {te : TE} {vs : List Nat} {σ : L2.St} {H1 : Hp} {D : Addr} {Qd : Hp → Prop} (f : Nat → V) (hz : n ≤ 50000)
    (hD : H1 D = none) (hw : ∀ x, wipe ((wipe σ vs).set j (some x)) vs = wipe σ vs) (hG : ∀ H, Same H1 H → G H)
    (he : ∀ i x H H', i < n → Same H1 H → Y i H x H' → Same H H' ∧ ∀ Q : VK, (∀ H2, Same H' H2 → Q (f i) H2) → te ((wipe σ vs).set j (some x)) H' Q)
    (hd : ∀ H, Same H1 H → H D = some (.lst ((List.range n).map f)) → Qd H)  :
    Turns J (upd H1 D (.lst [])) Qd (LcBody D te vs j σ) := by
  refine lc_it w (fun i H => Same H1 H ∧ H D = some (.lst ((List.range i).map f))) ⟨same_upd hD, upd_same⟩ (fun i H _ p => hG H p.1) (fun i x H H' hi p y => ?_) (fun H p => hd H p.1 p.2)
  obtain ⟨s1, e1⟩ := p
  obtain ⟨s2, k⟩ := he i x H H' hi s1 y
  refine And.intro (hw x) ?_
  unfold tYes
  refine iteT ?_
  refine k _ fun H2 s3 => ⟨_, s3 _ _ (s2 _ _ e1), ?_, fun b o e => ?_, ?_⟩
  · rw [List.length_map, List.length_range]
    exact Nat.lt_of_lt_of_le (show i < 50000 by omega) (by decide)
  · have hb : b ≠ D := ne_of_none e hD
    rw [upd_ne hb]
    exact s3 _ _ (s2 _ _ (s1 _ _ e))
  · rw [upd_same, List.range_succ, List.map_append]
    rfl
theorem range_get {α : Type} (xs : List α) (f : Nat → α) (h : ∀ i x, xs[i]? = some x → f i = x) : (List.range xs.length).map f = xs := by
  apply List.ext_getElem?
  intro i
  rw [List.getElem?_map]
  by_cases hi : i < xs.length
  · rw [List.getElem?_range hi, List.getElem?_eq_getElem hi]
    exact congrArg some (h i _ (List.getElem?_eq_getElem hi))
  · rw [List.getElem?_eq_none (by simpa using hi), List.getElem?_eq_none (by simpa using hi)]
    rfl
theorem dpA_len {K : PySem.W.Frag} {H : Hp} : ∀ {ds : List PyData} {vs : List V}, DpAll K H vs ds → vs.length = ds.length
  | [], _, h => by
    cases h
    rfl
  | d :: ds, _, h => by
    cases h with
    | cons _ h2 => rw [List.length_cons, List.length_cons, dpA_len h2]
theorem dpA_get {K : PySem.W.Frag} {H : Hp} : ∀ {ds : List PyData} {vs : List V} {i : Nat} {d : PyData}, DpAll K H vs ds → ds[i]? = some d → ∃ v, vs[i]? = some v ∧ Dp K H v d
  | [], _, _, _, _, e => by simp at e
  | d :: ds, _, 0, _, h, e => by
    cases h with
    | cons h1 _ =>
      have e1 : d = _ := Option.some.inj e
      subst e1
      exact ⟨_, rfl, h1⟩
  | d :: ds, _, i + 1, _, h, e => by
    cases h with
    | cons _ h2 => exact dpA_get (i := i) h2 e
theorem dpA_app {K : PySem.W.Frag} {H : Hp} : ∀ {ds es : List PyData} {vs us : List V}, DpAll K H vs ds → DpAll K H us es → DpAll K H (vs ++ us) (ds ++ es)
  | [], _, _, _, h, h' => by
    cases h
    exact h'
  | d :: ds, _, _, _, h, h' => by
    cases h with
    | cons h1 h2 => exact .cons h1 (dpA_app h2 h')
/-- a walk by its turns, whatever a turn asks -/
theorem walk_gen {J : It} {n : Nat} {G : Hp → Prop} {Y : Nat → Hp → V → Hp → Prop} (w : Walk J n G Y) {H0 : Hp} {End : Hp → Prop} {Body : (Hp → Prop) → V → Hp → Prop} (Pv : Nat → Hp → Prop) (h0 : Pv 0 H0) (hG : ∀ i H, i ≤ n → Pv i H → G H)
    (hs : ∀ i x H H', i < n → Pv i H → Y i H x H' → Body (Pv (i + 1)) x H') (hd : ∀ H, Pv n H → End H) : Turns J H0 End Body := by
  refine ⟨fun at_ left Hn => at_ + left = n ∧ Pv at_ Hn, ⟨n, Nat.zero_add n, h0⟩, fun at_ left Hn ⟨sum, holds⟩ => ?_⟩
  cases left with
  | zero =>
    have all : at_ = n := sum
    subst all
    exact Or.inl (And.intro (w.stops Hn (hG _ Hn (Nat.le_refl _) holds)) (hd Hn holds))
  | succ less =>
    have more : at_ < n := by omega
    have good := hG at_ Hn (Nat.le_of_lt more) holds
    refine Or.inr (And.intro (w.goes at_ Hn more good) ⟨Pv (at_ + 1), fun Hb next => ⟨less, Nat.lt_succ_self less, by omega, next⟩, fun item Hi given => ?_⟩)
    exact hs at_ item Hn Hi more holds (w.yields at_ Hn item Hi more good given)
theorem dpA_at {K : PySem.W.Frag} {H : Hp} : ∀ {ds : List PyData} {vs : List V} {i : Nat} {v : V}, DpAll K H vs ds → vs[i]? = some v → ∃ d, ds[i]? = some d ∧ Dp K H v d
  | _, [], _, _, _, e => by simp at e
  | _, _ :: _, 0, _, h, e => by
    cases h with
    | cons h1 _ =>
      have e1 := Option.some.inj e
      subst e1
      exact ⟨_, rfl, h1⟩
  | _, _ :: _, i + 1, _, h, e => by
    cases h with
    | cons _ h2 => exact dpA_at (i := i) h2 e
theorem take_snoc {α : Type} : ∀ {l : List α} {i : Nat} {x : α}, l[i]? = some x → l.take (i + 1) = l.take i ++ [x]
  | [], i, x, h => by simp at h
  | a :: l, 0, x, h => by
    have e : a = x := Option.some.inj h
    subst e
    rfl
  | a :: l, i + 1, x, h => by
    have ih := take_snoc (l := l) (i := i) (x := x) h
    show a :: l.take (i + 1) = a :: l.take i ++ [x]
    rw [ih]
    rfl
theorem cut1 (xs : List V) : cutV xs (some 1) none = xs.drop 1 := by
  unfold cutV
  rw [show HT.sIx xs.length 0 (some 1) = min 1 xs.length from HT.sIx_nat xs.length 0 1, HT.sIx_none]
  cases xs with
  | nil => rfl
  | cons x r =>
    rw [show min 1 (x :: r).length = 1 by
      rw [List.length_cons]
      omega]
    show (List.take ((x :: r).length - 1) r) = r
    rw [List.length_cons, Nat.add_sub_cancel]
    exact List.take_length
theorem q_c {tz : TS} {D : Ends} {σ : L2.St} {H : Hp} {i : Nat} {v : V} (h : tz D (σ.set i (some v)) H) : tSeq (tAsg (tC v) (gName i)) tz D σ H := h
theorem q_w {c : TT} {tb tz : TS} {D : Ends} {σ : L2.St} {H : Hp} (h : tWhile c tb { D with nx := tz D } σ H) : tSeq (tWhile c tb) tz D σ H := h
theorem wh_by {c : TT} {tb : TS} {D : Ends} {σ : L2.St} {H : Hp} (W : Nat → L2.St → Hp → Prop) (m0 : Nat) (h0 : W m0 σ H)
    (hs : ∀ m σ H, W m σ H → c σ H fun b H1 => if b = true then tb { D with nx := fun σ' H' => ∃ m', m' < m ∧ W m' σ' H', ct := fun σ' H' => ∃ m', m' < m ∧ W m' σ' H', bk := D.nx } σ H1 else D.nx σ H1)
    (mono : ∀ σ H Q Q', (∀ b H1, Q b H1 → Q' b H1) → c σ H Q → c σ H Q') : tWhile c tb D σ H :=
  ⟨W, ⟨m0, h0⟩, fun m σ H hw => mono _ _ _ _ (fun b H1 q => by
    cases b with
    | true => exact ⟨_, fun σ' H' h => h, q⟩
    | false => exact q) (hs m σ H hw)⟩
/-- a comprehension whose i-th item is as R says -/
theorem lc_rel {J : It} {n : Nat} {G : Hp → Prop} {Y : Nat → Hp → V → Hp → Prop} (w : Walk J n G Y) {j : Nat} {te : TE} {vs : List Nat} {σ : L2.St} {H1 : Hp} {D : Addr} {Qd : Hp → Prop} (R : Nat → V → Hp → Prop) (hz : n ≤ 50000)
    (hD : H1 D = none) (hw : ∀ x, wipe ((wipe σ vs).set j (some x)) vs = wipe σ vs) (hG : ∀ H, Same H1 H → G H) (hR : ∀ i v H H' zs, H D = some (.lst zs) → But D H H' → R i v H → R i v H')
    (he : ∀ i x H H', i < n → Same H1 H → Y i H x H' → Same H H' ∧ ∀ Q : VK, (∀ v H2, Same H' H2 → R i v H2 → Q v H2) → te ((wipe σ vs).set j (some x)) H' Q)
    (hd : ∀ ys H, Same H1 H → H D = some (.lst ys) → ys.length = n → (∀ i v, ys[i]? = some v → R i v H) → Qd H)  :
    Turns J (upd H1 D (.lst [])) Qd (LcBody D te vs j σ) := by
  refine lc_it w (fun i H => Same H1 H ∧ ∃ ys, H D = some (.lst ys) ∧ ys.length = i ∧ ∀ k v, ys[k]? = some v → R k v H) ⟨same_upd hD, [], upd_same, rfl, fun k v e => by simp at e⟩ (fun i H _ p => hG H p.1) (fun i x H H' hi p y => ?_) (fun H p => ?_)
  · obtain ⟨s1, ys, e1, el, er⟩ := p
    obtain ⟨s2, k⟩ := he i x H H' hi s1 y
    refine And.intro (hw x) ?_
    unfold tYes
    refine iteT ?_
    refine k _ fun v H2 s3 rv => ⟨ys, s3 _ _ (s2 _ _ e1), ?_, fun b o e => ?_, ys ++ [v], upd_same, ?_, fun k u eu => ?_⟩
    · exact Nat.lt_of_lt_of_le (show ys.length < 50000 by omega) (by decide)
    · have hb : b ≠ D := ne_of_none e hD
      rw [upd_ne hb]
      exact s3 _ _ (s2 _ _ (s1 _ _ e))
    · rw [List.length_append, el]
      rfl
    · have e2 : H2 D = some (.lst ys) := s3 _ _ (s2 _ _ e1)
      refine hR k u H2 _ ys e2 But.upd ?_
      by_cases hk : k < ys.length
      · rw [List.getElem?_append_left hk] at eu
        exact hR k u H H2 ys e1 (But.of (s2.trans s3)) (er k u eu)
      · have hk2 : k = ys.length := by
          have := (List.getElem?_eq_some_iff.mp eu).1
          rw [List.length_append] at this
          simp at this
          omega
        rw [hk2, List.getElem?_append_right (Nat.le_refl _), Nat.sub_self] at eu
        have eu2 := Option.some.inj eu
        subst eu2
        rw [hk2, el]
        exact rv
  · obtain ⟨s1, ys, e1, el, er⟩ := p
    exact hd ys H s1 e1 el er
theorem PoolAt.upd {H : Hp} {p l : Addr} {o : HO} (h : PoolAt H p) (n : H l = none) : PoolAt (L2.upd H l o) p := by
  obtain ⟨x, y, e, r⟩ := h
  refine ⟨x, y, ?_, r⟩
  rw [upd_ne (ne_of_none e n)]
  exact e
theorem PoolAt.ne {H : Hp} {p l : Addr} (h : PoolAt H p) (n : H l = none) : p ≠ l := by
  obtain ⟨x, y, e, r⟩ := h
  exact ne_of_none e n
theorem PoolAt.same {H H' : Hp} {p : Addr} (h : PoolAt H p) (s : Same H H') : PoolAt H' p := by
  obtain ⟨x, y, e, r⟩ := h
  exact ⟨x, y, s _ _ e, r⟩
/-- a comprehension that draws: its items are as R says, whatever is drawn -/
theorem lc_pool {J : It} {n : Nat} {Y : Nat → Hp → V → Hp → Prop} (w : Walk J n (fun _ => True) Y) {j : Nat} {te : TE} {vs : List Nat} {σ : L2.St} {H1 : Hp} {D p : Addr} {Qd : Hp → Prop} (R : V → Prop) (hz : n ≤ 50000)
    (hD : H1 D = none) (hp : PoolAt H1 p) (hw : ∀ x, wipe ((wipe σ vs).set j (some x)) vs = wipe σ vs)
    (he : ∀ i x H H', i < n → PoolAt H p → Y i H x H' → H' = H ∧ ∀ Q : VK, (∀ v H2, But p H H2 → PoolAt H2 p → R v → Q v H2) → te ((wipe σ vs).set j (some x)) H Q)
    (hd : ∀ ys H, But p H1 H → PoolAt H p → H D = some (.lst ys) → ys.length = n → (∀ v ∈ ys, R v) → Qd H)  :
    Turns J (upd H1 D (.lst [])) Qd (LcBody D te vs j σ) := by
  have npD : D ≠ p := (hp.ne hD).symm
  refine lc_it w (fun i H => But p H1 H ∧ PoolAt H p ∧ ∃ ys, H D = some (.lst ys) ∧ ys.length = i ∧ ∀ v ∈ ys, R v) ⟨But.of (same_upd hD), hp.upd hD, [], upd_same, rfl, fun v e => by simp at e⟩ (fun i H _ p => True.intro) (fun i x H H' hi q y => ?_) (fun H q => ?_)
  · obtain ⟨s1, h1, ys, e1, el, er⟩ := q
    obtain ⟨rfl, k⟩ := he i x H H' hi h1 y
    refine And.intro (hw x) ?_
    unfold tYes
    refine iteT ?_
    refine k _ fun v H2 s3 h3 rv => ⟨ys, s3 _ _ e1 npD, ?_, fun b o e nb => ?_, ?_, ys ++ [v], upd_same, ?_, fun u hu => ?_⟩
    · exact Nat.lt_of_lt_of_le (show ys.length < 50000 by omega) (by decide)
    · have hb : b ≠ D := ne_of_none e hD
      rw [upd_ne hb]
      exact s3 _ _ (s1 _ _ e nb) nb
    · obtain ⟨x, y, e, r⟩ := h3
      exact ⟨x, y, by rw [upd_ne npD.symm]; exact e, r⟩
    · rw [List.length_append, el]
      rfl
    · rcases List.mem_append.mp hu with hu | hu
      · exact er u hu
      · rw [List.mem_singleton.mp hu]
        exact rv
  · obtain ⟨s1, h1, ys, e1, el, er⟩ := q
    exact hd ys H s1 h1 e1 el er
theorem at_of {j : Nat} {xs : List V} {v : V} {z : Int} (same : z = (j : Int)) (there : xs[j]? = some v) : atI xs z = some v := same ▸ atI_nat there
/-! ### values and names -/
abbrev sWhole : Stmt := topS 17
abbrev sValue : Stmt := topS 18
abbrev sName : Stmt := topS 19
theorem scWhole : FnScope ["value"] ["value"] (defScope sWhole) := ⟨rfl, rfl, rfl, by decide +kernel, rfl, by decide +kernel, by decide +kernel⟩
theorem scValue : FnScope ["value"] ["value"] (defScope sValue) := ⟨rfl, rfl, rfl, by decide +kernel, rfl, by decide +kernel, by decide +kernel⟩
theorem scName : FnScope ["value", "letter"] ["value"] (defScope sName) := ⟨rfl, rfl, rfl, by decide +kernel, rfl, by decide +kernel, by decide +kernel⟩
def isWhole : PyData → Bool
  | .int _ => true
  | _ => false
def isValue : PyData → Bool
  | .int i => decide (0 ≤ i) && decide (i < 3)
  | _ => false
def lowCode (c : Nat) : Bool := decide (97 ≤ c) && decide (c ≤ 122)
def isName : PyData → Bool
  | .str z => decide (1 ≤ (z.length : Int)) && decide ((z.length : Int) ≤ 8) && z.cps.toList.all lowCode
  | _ => false
theorem isWhole_eq (d : PyData) : isWhole d = (isInt d && !isBool d) := by cases d <;> rfl
mutual
def szD : PyData → Bool
  | .str z => decide (z.length ≤ 1000)
  | .tuple ds => decide (ds.length ≤ 1000) && szDs ds
  | .list ds => decide (ds.length ≤ 1000) && szDs ds
  | _ => true
def szDs : List PyData → Bool
  | [] => true
  | d :: ds => szD d && szDs ds
end
theorem nlt (a b : Nat) : (!decide ([a] < [b])) = decide (b ≤ a) := by
  by_cases h : a < b
  · rw [decide_eq_true (show [a] < [b] from List.cons_lt_cons_iff.mpr (.inl h)), decide_eq_false (by omega)]
    rfl
  · have q : ¬ [a] < [b] := fun q => by
      rcases List.cons_lt_cons_iff.mp q with q | ⟨_, q⟩
      · exact h q
      · exact absurd q (List.not_lt_nil _)
    rw [decide_eq_false q, decide_eq_true (by omega)]
    rfl
theorem all_range (l : List Nat) (g : Nat → Bool) : ((List.range l.length).map fun i => g (l.getD i 0)).all id = l.all g := by
  have e : (List.range l.length).map (fun i => g (l.getD i 0)) = l.map g := by
    apply List.ext_getElem?
    intro i
    rw [List.getElem?_map, List.getElem?_map]
    by_cases hi : i < l.length
    · rw [List.getElem?_range hi, List.getElem?_eq_getElem hi]
      show some (g (l.getD i 0)) = some (g l[i])
      rw [List.getD_eq_getElem?_getD, List.getElem?_eq_getElem hi]
      rfl
    · rw [List.getElem?_eq_none (by simpa using hi), List.getElem?_eq_none (by simpa using hi)]
      rfl
  rw [e, List.all_map]
  rfl
/-- a truth about one value, told without a change -/
def spB (K : PySem.W.Frag) (g : PyData → Bool) : Sp := fun vs H Q _ => ∃ (v : V) (d : PyData), vs = [v] ∧ Dp K H v d ∧ szD d = true ∧ ∀ H', Same H H' → Q (.bl (g d)) H'
structure CellsTxt (K : PySem.W.Frag) (mg : Str → Option Value) : Prop where
  vals : ∃ aV, mg "VALUES" = some (.ref aV) ∧ ∀ H : Hp, SqT K H aV [.int 0, .int 1, .int 2]
  long : ∃ t, mg "LONGEST_NAME" = some (.int 8 t)
section
variable {P : Program} {w : World} {K : PySem.W.Frag} {mg : Str → Option Value} {base : Heap}
theorem ok_whole {f : Addr} {fd : FuncData} (F : Fun K "is_whole" "is_whole" sWhole f fd) (M : Blt mg) : FnOk P w K mg base CX0 1 f fd ["value"] (spB K isWhole) := by
  refine F.ok scWhole (fun vs H Q E h => ?_) (fun cdv A outer s H vs Q E hr h => ?_)
  · obtain ⟨v, d, rfl, _⟩ := h
    rfl
  · obtain ⟨v, d, rfl, hv, hsz, q'⟩ := h
    have q := q' H (Same.refl H)
    refine ⟨_, pss_one (ps_ret (pe_and (pe_callB call_isi (by rfl) M.isinstance (by decide +kernel) (pa_cons (pv 0) (pa_cons (pe_bltn (v := .ty "int") (by rfl) M.int (by decide +kernel) rfl) pa_nil)))
      (pe_one (pe_not (pe_callB call_isi (by rfl) M.isinstance (by decide +kernel) (pa_cons (pv 0) (pa_cons (pe_bltn (v := .ty "bool") (by rfl) M.bool (by decide +kernel) rfl) pa_nil))))))), ?_⟩
    rw [isWhole_eq] at q
    refine ⟨v, rfl, v, _, _, _, _, rfl, .ty "int", dp_ty hv, kit_int K d, _, rfl, ?_⟩
    cases hi : isInt d with
    | true =>
      refine iteT ⟨v, rfl, v, _, _, _, _, rfl, .ty "bool", dp_ty hv, kit_bool K d, _, rfl, ?_⟩
      rw [hi] at q
      exact q
    | false =>
      rw [hi] at q
      exact iteF q
theorem ok_value {f fW : Addr} {fd fdW : FuncData} (F : Fun K "is_value" "is_value" sValue f fd) (M : Blt mg) (T : CellsTxt K mg) (FW : Fun K "is_whole" "is_whole" sWhole fW fdW) (bW : Binds K fdW ["value"] []) (gW : mg "is_whole" = some (.ref fW)) :
    FnOk P w K mg base CX0 2 f fd ["value"] (spB K isValue) := by
  have GW : FnOk P w K mg base CX0 1 fW fdW ["value"] (spB K isWhole) := ok_whole FW M
  obtain ⟨aV, gV, sV⟩ := T.vals
  refine F.ok scValue (fun vs H Q E h => ?_) (fun cdv A outer s H vs Q E hr h => ?_)
  · obtain ⟨v, d, rfl, _⟩ := h
    rfl
  · obtain ⟨v, d, rfl, hv, hsz, q'⟩ := h
    have q := q' H (Same.refl H)
    refine ⟨_, pss_one (ps_ret (pe_and (pe_call GW hr (by rfl) gW FW.kp bW .nil pass0 (pa_cons (pv 0) pa_nil))
      (pe_one (pe_chain op_le op_lt pe_int (pv 0) (pe_callB call_len_seq (by rfl) M.len PySem.boot_len (pa_cons (pe_glob (v := .ref aV) (by rfl) gV rfl) pa_nil)))))), ?_⟩
    refine ⟨v, rfl, v, d, rfl, hv, hsz, fun H1 s1 => ⟨_, rfl, ?_⟩⟩
    replace q := q' H1 s1
    cases d with
    | int i =>
      cases hv
      refine iteT ⟨_, rfl, _, _, rfl, rfl, _, rfl, ?_⟩
      cases h0 : decide (0 ≤ i) with
      | false =>
        refine iteF ?_
        have e : isValue (.int i) = false := by
          show (decide (0 ≤ i) && decide (i < 3)) = false
          rw [h0] <;> rfl
        rw [e] at q
        exact q
      | true =>
        refine iteT ⟨aV, _, rfl, .inr (sV _), _, _, rfl, rfl, ?_⟩
        have e : isValue (.int i) = decide (i < 3) := by
          show (decide (0 ≤ i) && decide (i < 3)) = _
          rw [h0] <;> rfl
        rw [e] at q
        exact q
    | none => exact iteF q
    | bool b => exact iteF q
    | str z => exact iteF q
    | list ds => exact iteF q
    | tuple ds => exact iteF q
    | dict kvs => exact iteF q
theorem ok_name {f : Addr} {fd : FuncData} (F : Fun K "is_name" "is_name" sName f fd) (M : Blt mg) (T : CellsTxt K mg) : FnOk P w K mg base CX0 1 f fd ["value"] (spB K isName) := by
  obtain ⟨tl, gL⟩ := T.long
  refine F.ok scName (fun vs H Q E h => ?_) (fun cdv A outer s H vs Q E hr h => ?_)
  · obtain ⟨v, d, rfl, _⟩ := h
    rfl
  · obtain ⟨v, d, rfl, hv, hsz, q'⟩ := h
    have q := q' H (Same.refl H)
    refine ⟨_, pss_cons (ps_if (PW.pt (pw_or (pt_not (pt_val (pe_callB call_isi (by rfl) M.isinstance (by decide +kernel) (pa_cons (pv 0) (pa_cons (pe_bltn (v := .ty "str") (by rfl) M.str (by decide +kernel) rfl) pa_nil)))))
        (pw_or1 (pt_not (pt_chain op_le op_le pe_int (pe_callB call_len (by rfl) M.len PySem.boot_len (pa_cons (pv 0) pa_nil)) (pe_glob (v := .int 8) (by rfl) gL ⟨_, rfl⟩)))))) (pss_one (ps_ret pe_bl)) pss_nil)
      (pss_one (ps_ret (pe_callB (cr_all rfl) (by rfl) M.all (by decide +kernel) (pa_cons
        (pe_lc (own := [("letter", 1)]) (g := gName 1) (by rfl) scName.nd (pi_str (pv 0)) (blkOk_by (own := [("letter", 1)]) (N := ["value", "letter"]) (sc := defScope sName) (by decide +kernel))
          (fun _ _ _ _ _ => pg_name (i := 1) scName.nd rfl (Or.inl rfl)) (fun _ _ _ _ _ => pts_nil) (fun _ _ _ _ _ => pe_chain op_le_str op_le_str pe_str (pv 1) pe_str)) pa_nil)))), ?_⟩
    have no : isName d = false → Q (.bl false) H := fun e => by
      rw [e] at q
      exact q
    refine ⟨v, rfl, v, _, _, _, _, rfl, .ty "str", dp_ty hv, kit_str K d, _, rfl, ?_⟩
    cases d with
    | str z =>
      cases hv
      refine iteF ?_
      have hzl : z.length ≤ sizeLine := Nat.le_trans (of_decide_eq_true hsz) (by decide)
      by_cases hz : z.length ≤ 8
      · refine ⟨.str z, rfl, .str z, z.length, rfl, ⟨hzl, rfl⟩, _, _, rfl, rfl, _, rfl, ?_⟩
        cases h1 : decide (1 ≤ (z.length : Int)) with
        | false =>
          refine iteF ⟨_, rfl, iteT (no ?_)⟩
          show (decide (1 ≤ (z.length : Int)) && decide ((z.length : Int) ≤ 8) && z.cps.toList.all lowCode) = false
          rw [h1]
          rfl
        | true =>
          refine iteT ⟨_, _, rfl, rfl, _, rfl, ?_⟩
          have h2 : decide ((z.length : Int) ≤ 8) = true := decide_eq_true (by omega)
          rw [h2]
          refine iteF ⟨_, rfl, z, rfl, fun D hD => ?_⟩
          have ln : z.cps.size ≤ 8 := hz
          refine lc_vals (vs := [1]) (j := 1) (σ := [some (.str z), none]) walk_str (fun i => .bl (lowCode (z.cps.getD i 0))) (by omega) hD (fun x => rfl) (fun _ _ => True.intro) (fun i x H0 H' hi s1 y => ?_) (fun H' s1 e1 => ?_)
          · obtain ⟨rfl, c, hc, rfl⟩ := y
            have gc : z.cps.getD i 0 = c := by
              rw [Array.getD_eq_getD_getElem?, hc]
              rfl
            refine ⟨Same.refl _, fun Q2 q2 => ⟨_, rfl, _, _, rfl, rfl, _, rfl, ?_⟩⟩
            show if (!decide ([c] < [97])) = true then _ else _
            rw [nlt c 97]
            cases h3 : decide (97 ≤ c) with
            | false =>
              refine iteF ?_
              have e : lowCode (z.cps.getD i 0) = false := by
                rw [gc]
                show (decide (97 ≤ c) && decide (c ≤ 122)) = false
                rw [h3]
                rfl
              have q3 := q2 _ (Same.refl _)
              rw [e] at q3
              exact q3
            | true =>
              refine iteT ⟨_, _, rfl, rfl, ?_⟩
              have e : lowCode (z.cps.getD i 0) = (!decide ([122] < [c])) := by
                rw [gc, nlt 122 c]
                show (decide (97 ≤ c) && decide (c ≤ 122)) = _
                rw [h3]
                rfl
              have q3 := q2 _ (Same.refl _)
              rw [e] at q3
              exact q3
          · refine ⟨D, (List.range z.cps.size).map (fun i => lowCode (z.cps.getD i 0)), rfl, .inl (.inl ?_), ?_⟩
            · rw [e1, List.map_map]
              rfl
            · have e : ((List.range z.cps.size).map fun i => lowCode (z.cps.getD i 0)).all id = z.cps.toList.all lowCode := by
                rw [← all_range z.cps.toList lowCode]
                have ez : z.cps.toList.length = z.cps.size := by simp
                rw [ez]
                have eg : (fun i => lowCode (z.cps.getD i 0)) = fun i => lowCode (z.cps.toList.getD i 0) := by
                  funext i
                  rw [Array.getD_eq_getD_getElem?, List.getD_eq_getElem?_getD, Array.getElem?_toList]
                rw [eg]
              have e2 : isName (.str z) = z.cps.toList.all lowCode := by
                show (decide (1 ≤ (z.length : Int)) && decide ((z.length : Int) ≤ 8) && z.cps.toList.all lowCode) = _
                rw [h1, h2]
                rfl
              have q2 := q' H' s1
              rw [e2] at q2
              rw [e]
              exact q2
      · have nz : isName (.str z) = false := by
          show (decide (1 ≤ (z.length : Int)) && decide ((z.length : Int) ≤ 8) && z.cps.toList.all lowCode) = false
          rw [decide_eq_false (show ¬ (z.length : Int) ≤ 8 by omega), Bool.and_false]
          rfl
        refine ⟨.str z, rfl, .str z, z.length, rfl, ⟨hzl, rfl⟩, _, _, rfl, rfl, _, rfl, ?_⟩
        rw [decide_eq_true (show 1 ≤ (z.length : Int) by omega)]
        refine iteT ⟨_, _, rfl, rfl, _, rfl, ?_⟩
        rw [decide_eq_false (show ¬ (z.length : Int) ≤ 8 by omega)]
        exact iteT (no nz)
    | none => exact iteT (no rfl)
    | bool b => exact iteT (no rfl)
    | int i => exact iteT (no rfl)
    | list ds => exact iteT (no rfl)
    | tuple ds => exact iteT (no rfl)
    | dict kvs => exact iteT (no rfl)
end
/-! ### terms -/
abbrev sHas : Stmt := topS 27
abbrev sCallForm : Stmt := topS 28
theorem scHas : FnScope ["part", "arguments", "word"] ["part", "arguments"] (defScope sHas) := ⟨rfl, rfl, rfl, by decide +kernel, rfl, by decide +kernel, by decide +kernel⟩
theorem scCallForm : FnScope ["terms"] ["terms"] (defScope sCallForm) := ⟨rfl, rfl, rfl, by decide +kernel, rfl, by decide +kernel, by decide +kernel⟩
def lenOf (z : Str) : Option Int := if z = "tick" then some 1 else if z = "plus" then some 3 else if z = "less" then some 3 else if z = "same" then some 3 else if z = "if" then some 4 else none
def callForm : PyData → Bool
  | .tuple ts => decide ((ts.length : Int) ≤ 2)
  | _ => false
def below (n : Int) : PyData → Bool
  | .int i => decide (0 ≤ i) && decide (i < n)
  | _ => false
def on1 (g : PyData → Bool) : List PyData → Bool
  | [x] => g x
  | _ => false
def on2 (g : PyData → PyData → Bool) : List PyData → Bool
  | [x, y] => g x y
  | _ => false
theorem len2 {α : Type} : ∀ {l : List α}, l.length = 2 → ∃ x y, l = [x, y]
  | [x, y], _ => ⟨x, y, rfl⟩
  | [], h => by cases h
  | [_], h => by cases h
  | _ :: _ :: _ :: _, h => by
    simp only [List.length_cons] at h
    omega
theorem on1_bad {g : PyData → Bool} : ∀ {l : List PyData}, l.length ≠ 1 → on1 g l = false
  | [], _ => rfl
  | [_], h => absurd rfl h
  | _ :: _ :: _, _ => rfl
theorem on2_bad {g : PyData → PyData → Bool} : ∀ {l : List PyData}, l.length ≠ 2 → on2 g l = false
  | [], _ => rfl
  | [_], _ => rfl
  | [_, _], h => absurd rfl h
  | _ :: _ :: _ :: _, _ => rfl
def formOf (n : Int) (z : Str) (rest : List PyData) : Bool :=
  if z = "arg" then on1 (below n) rest
  else if z = "cell" then on1 isName rest
  else if z = "call" then on2 (fun x y => isName x && callForm y) rest
  else match lenOf z with
    | some k => decide ((rest.length : Int) + 1 = k)
    | none => false
def hasForm (n : Int) (d : PyData) : Bool := isValue d || match d with
  | .tuple (.str z :: rest) => formOf n z rest
  | _ => false
theorem szD_tup {ds : List PyData} (h : szD (.tuple ds) = true) : szDs ds = true := (Bool.and_eq_true_iff.mp h).2
theorem szDs_get : ∀ {ds : List PyData} {i : Nat} {d : PyData}, szDs ds = true → ds[i]? = some d → szD d = true
  | [], _, _, _, e => by simp at e
  | d :: ds, 0, _, h, e => by
    have e1 := Option.some.inj e
    subst e1
    exact (Bool.and_eq_true_iff.mp h).1
  | d :: ds, i + 1, _, h, e => szDs_get (i := i) (Bool.and_eq_true_iff.mp h).2 e
theorem dint (a b : Int) : decide (V.int a = V.int b) = decide (a = b) := by
  by_cases h : a = b
  · rw [h, decide_eq_true rfl, decide_eq_true rfl]
  · rw [decide_eq_false h, decide_eq_false (fun q => h (V.int.inj q))]
theorem dstr (a b : Str) : decide (V.str a = V.str b) = decide (a = b) := by
  by_cases h : a = b
  · rw [h, decide_eq_true rfl, decide_eq_true rfl]
  · rw [decide_eq_false h, decide_eq_false (fun q => h (V.str.inj q))]
structure TermsTxt (K : PySem.W.Frag) (w : World) (mg : Str → Option Value) : Prop where
  lens : ∃ (aL : Addr) (es : Array DictEntry) (n : Nat), mg "LENGTHS" = some (.ref aL) ∧ KDict K w aL es n ∧ ∀ z, match lenOf z with
    | some k => ∃ t, PySem.W.nsIn K aL z = some (some (.int k t))
    | none => PySem.W.nsIn K aL z = some none
  args : ∃ t, mg "MOST_ARGUMENTS" = some (.int 2 t)
  deep : ∃ t, mg "MOST_DEEP" = some (.int 8 t)
  parts : ∃ t, mg "MOST_PARTS" = some (.int 30 t)
/-- a truth about one value and a number -/
def spBn (K : PySem.W.Frag) (g : Int → PyData → Bool) : Sp := fun vs H Q _ => ∃ (v : V) (d : PyData) (n : Int), vs = [v, .int n] ∧ Dp K H v d ∧ szD d = true ∧ ∀ H', Same H H' → Q (.bl (g n d)) H'
section
variable {P : Program} {w : World} {K : PySem.W.Frag} {mg : Str → Option Value} {base : Heap}
theorem ok_callForm {f : Addr} {fd : FuncData} (F : Fun K "_has_call_form" "_has_call_form" sCallForm f fd) (M : Blt mg) (T : TermsTxt K w mg) : FnOk P w K mg base CX0 1 f fd ["terms"] (spB K callForm) := by
  obtain ⟨tA, gA⟩ := T.args
  refine F.ok scCallForm (fun vs H Q E h => ?_) (fun cdv A outer s H vs Q E hr h => ?_)
  · obtain ⟨v, d, rfl, _⟩ := h
    rfl
  · obtain ⟨v, d, rfl, hv, hsz, q⟩ := h
    refine ⟨_, pss_one (ps_ret (pe_and (pe_callB call_isi (by rfl) M.isinstance (by decide +kernel) (pa_cons (pv 0) (pa_cons (pe_bltn (v := .ty "tuple") (by rfl) M.tuple (by decide +kernel) rfl) pa_nil)))
      (pe_one (pe_cmpR op_le (pe_callB call_len_seq (by rfl) M.len PySem.boot_len (pa_cons (pv 0) pa_nil)) (pe_glob (v := .int 2) (by rfl) gA ⟨_, rfl⟩) (nomark _))))), ?_⟩
    refine ⟨v, rfl, v, _, _, _, _, rfl, .ty "tuple", dp_ty hv, kit_tup K d, _, rfl, ?_⟩
    have q1 := q H (Same.refl H)
    cases d with
    | tuple ts =>
      cases hv with
      | @tup a xs _ hs ha =>
        refine iteT ⟨_, rfl, a, xs, rfl, .inr hs, _, _, rfl, rfl, ?_⟩
        have e : xs.length = ts.length := dpA_len ha
        rw [e]
        exact q1
    | none => exact iteF q1
    | bool b => exact iteF q1
    | int i => exact iteF q1
    | str z => exact iteF q1
    | list ds => exact iteF q1
    | dict kvs => exact iteF q1
structure CellFns (K : PySem.W.Frag) (mg : Str → Option Value) (fW fV fN : Addr) (dW dV dN : FuncData) : Prop where
  W : Fun K "is_whole" "is_whole" sWhole fW dW
  V : Fun K "is_value" "is_value" sValue fV dV
  N : Fun K "is_name" "is_name" sName fN dN
  bW : Binds K dW ["value"] []
  bV : Binds K dV ["value"] []
  bN : Binds K dN ["value"] []
  gW : mg "is_whole" = some (.ref fW)
  gV : mg "is_value" = some (.ref fV)
  gN : mg "is_name" = some (.ref fN)
theorem ok_has {f fC fW fV fN : Addr} {fd dC dW dV dN : FuncData} (F : Fun K "_has_form" "_has_form" sHas f fd) (M : Blt mg) (TC : CellsTxt K mg) (T : TermsTxt K w mg) (G : CellFns K mg fW fV fN dW dV dN)
    (FC : Fun K "_has_call_form" "_has_call_form" sCallForm fC dC) (bC : Binds K dC ["terms"] []) (gC : mg "_has_call_form" = some (.ref fC)) :
    FnOk P w K mg base CX0 3 f fd ["part", "arguments"] (spBn K hasForm) := by
  have GW : FnOk P w K mg base CX0 1 fW dW ["value"] (spB K isWhole) := ok_whole G.W M
  have GV : FnOk P w K mg base CX0 2 fV dV ["value"] (spB K isValue) := ok_value G.V M TC G.W G.bW G.gW
  have GN : FnOk P w K mg base CX0 1 fN dN ["value"] (spB K isName) := ok_name G.N M TC
  have GC : FnOk P w K mg base CX0 1 fC dC ["terms"] (spB K callForm) := ok_callForm FC M T
  obtain ⟨aL, es, n0, gL, kL, hL⟩ := T.lens
  refine F.ok scHas (fun vs H Q E h => ?_) (fun cdv A outer s H vs Q E hr h => ?_)
  · obtain ⟨v, d, n, rfl, _⟩ := h
    rfl
  · obtain ⟨v, d, n, rfl, hv, hsz, q⟩ := h
    have hr1 : Room 1 _ := hr.mono (by decide)
    have hu := hu_of hr
    refine ⟨_, pss_cons (ps_if (pt_val (pe_call GV hr (by rfl) G.gV G.V.kp G.bV .nil pass0 (pa_cons (pv 0) pa_nil))) (pss_one (ps_ret pe_bl)) pss_nil)
      (pss_cons (ps_if (PW.pt (pw_or (pt_not (pt_val (pe_callB call_isi (by rfl) M.isinstance (by decide +kernel) (pa_cons (pv 0) (pa_cons (pe_bltn (v := .ty "tuple") (by rfl) M.tuple (by decide +kernel) rfl) pa_nil)))))
        (pw_or (pt_cmpR op_eq (pe_callB call_len_seq (by rfl) M.len PySem.boot_len (pa_cons (pv 0) pa_nil)) pe_int (nomark _))
          (pw_or1 (pt_not (pt_val (pe_callB call_isi (by rfl) M.isinstance (by decide +kernel) (pa_cons (pe_ix ix_tup (pv 0) pe_int (fun _ _ => rfl)) (pa_cons (pe_bltn (v := .ty "str") (by rfl) M.str (by decide +kernel) rfl) pa_nil)))))))))
        (pss_one (ps_ret pe_bl)) pss_nil)
      (pss_cons (ps_set (i := 2) scHas.nd rfl (.inl rfl) (pe_ix ix_tup (pv 0) pe_int (fun _ _ => rfl)))
      (pss_cons (ps_if (pt_cmpR op_eq (pv 2) pe_str (nomark _)) (pss_one (ps_ret (pe_and (pe_cmpR op_eq (pe_callB call_len_seq (by rfl) M.len PySem.boot_len (pa_cons (pv 0) pa_nil)) pe_int (nomark _))
          (pe_and (pe_call GW hr1 (by rfl) G.gW G.W.kp G.bW .nil pass0 (pa_cons (pe_ix ix_tup (pv 0) pe_int (fun _ _ => rfl)) pa_nil))
            (pe_one (pe_chain op_le op_lt pe_int (pe_ix ix_tup (pv 0) pe_int (fun _ _ => rfl)) (pv 1))))))) pss_nil)
      (pss_cons (ps_if (pt_cmpR op_eq (pv 2) pe_str (nomark _)) (pss_one (ps_ret (pe_and (pe_cmpR op_eq (pe_callB call_len_seq (by rfl) M.len PySem.boot_len (pa_cons (pv 0) pa_nil)) pe_int (nomark _))
          (pe_one (pe_call GN hr1 (by rfl) G.gN G.N.kp G.bN .nil pass0 (pa_cons (pe_ix ix_tup (pv 0) pe_int (fun _ _ => rfl)) pa_nil)))))) pss_nil)
      (pss_cons (ps_if (pt_cmpR op_eq (pv 2) pe_str (nomark _)) (pss_one (ps_ret (pe_and (pe_cmpR op_eq (pe_callB call_len_seq (by rfl) M.len PySem.boot_len (pa_cons (pv 0) pa_nil)) pe_int (nomark _))
          (pe_and (pe_call GN hr1 (by rfl) G.gN G.N.kp G.bN .nil pass0 (pa_cons (pe_ix ix_tup (pv 0) pe_int (fun _ _ => rfl)) pa_nil))
            (pe_one (pe_call GC hr1 (by rfl) gC FC.kp bC .nil pass0 (pa_cons (pe_ix ix_tup (pv 0) pe_int (fun _ _ => rfl)) pa_nil))))))) pss_nil)
      (pss_one (ps_ret (pe_and (pe_cmpR (op_in_kd kL) (pv 2) (pe_glob (v := .ref aL) (by rfl) gL rfl) (by rfl))
        (pe_one (pe_cmpR op_eq (pe_callB call_len_seq (by rfl) M.len PySem.boot_len (pa_cons (pv 0) pa_nil)) (pe_ix ix_kdict (pe_glob (v := .ref aL) (by rfl) gL rfl) (pv 2) (fun _ _ => rfl)) (nomark _))))))))))), ?_⟩
    refine ⟨v, rfl, v, d, rfl, hv, hsz, fun H1 s1 => ⟨_, rfl, ?_⟩⟩
    have hv1 := dp_same s1 hv
    have fin : ∀ (b : Bool) H2, Same H1 H2 → hasForm n d = b → Q (.bl b) H2 := fun b H2 s2 e => by
      have q1 := q H2 (s1.trans s2)
      rw [e] at q1
      exact q1
    cases hval : isValue d with
    | true =>
      refine iteT (fin true H1 (Same.refl _) ?_)
      show (isValue d || _) = true
      rw [hval]
      rfl
    | false =>
      refine iteF ⟨v, rfl, v, _, _, _, _, rfl, .ty "tuple", dp_ty hv1, kit_tup K d, _, rfl, ?_⟩
      cases d with
      | tuple ts =>
        cases hv1 with
        | @tup a xs _ hs ha =>
          have el : xs.length = ts.length := dpA_len ha
          refine iteF ⟨_, rfl, a, xs, rfl, .inr hs, rfl, _, rfl, ?_⟩
          rw [dint]
          cases ts with
          | nil =>
            rw [el]
            exact iteT (fin false H1 (Same.refl _) (by
              show (isValue (.tuple []) || false) = false
              rw [hval]
              rfl))
          | cons d0 rest =>
            have e0 : xs.length = rest.length + 1 := el
            rw [decide_eq_false (show ¬ (xs.length : Int) = 0 by omega)]
            cases ha with
            | @cons x0 xr _ _ h0 hr0 =>
              have at0 : atI (x0 :: xr) (0 : Int) = some x0 := atI_nat (j := 0) rfl
              have lr : xr.length = rest.length := dpA_len hr0
              refine iteF ⟨_, rfl, a, x0 :: xr, 0, x0, rfl, rfl, hs, at0, x0, _, _, _, _, rfl, .ty "str", dp_ty h0, kit_str K d0, _, rfl, ?_⟩
              cases d0 with
              | str z =>
                cases h0
                refine iteF ⟨_, rfl, a, _, 0, .str z, rfl, rfl, hs, at0, ?_⟩
                have hf : hasForm n (.tuple (.str z :: rest)) = formOf n z rest := by
                  show (isValue (.tuple (.str z :: rest)) || formOf n z rest) = _
                  rw [hval]
                  rfl
                refine ⟨_, rfl, rfl, _, rfl, ?_⟩
                have hszr : szDs rest = true := (Bool.and_eq_true_iff.mp (szD_tup hsz)).2
                rw [dstr]
                by_cases z1 : z = "arg"
                · have fe : formOf n z rest = on1 (below n) rest := if_pos z1
                  rw [fe] at hf
                  rw [decide_eq_true z1]
                  refine iteT ⟨_, rfl, a, _, rfl, .inr hs, rfl, _, rfl, ?_⟩
                  rw [dint]
                  by_cases hl : rest.length = 1
                  · rw [decide_eq_true (show (((V.str z :: xr).length : Nat) : Int) = 2 by rw [List.length_cons]; omega)]
                    obtain ⟨d1, rfl⟩ := List.length_eq_one_iff.mp hl
                    cases hr0 with
                    | @cons x1 xr1 _ _ h1 hn1 =>
                      cases hn1
                      have at1 : atI [.str z, x1] (1 : Int) = some x1 := atI_nat (j := 1) rfl
                      refine iteT ⟨_, rfl, a, _, 1, x1, rfl, rfl, hs, at1, x1, d1, rfl, h1, szDs_get hszr (i := 0) rfl, fun H2 s2 => ⟨_, rfl, ?_⟩⟩
                      cases d1 with
                      | int i =>
                        cases h1
                        refine iteT ⟨_, rfl, a, _, 1, _, rfl, rfl, same_sqT s2 hs, at1, _, _, rfl, rfl, _, rfl, ?_⟩
                        have hb : hasForm n (.tuple [.str z, .int i]) = (decide (0 ≤ i) && decide (i < n)) := hf
                        cases h0 : decide (0 ≤ i) with
                        | false =>
                          rw [h0] at hb
                          exact iteF (fin false H2 s2 hb)
                        | true =>
                          rw [h0] at hb
                          exact iteT ⟨_, rfl, _, _, rfl, rfl, fin _ H2 s2 hb⟩
                      | none => exact iteF (fin false H2 s2 hf)
                      | bool b => exact iteF (fin false H2 s2 hf)
                      | str y => exact iteF (fin false H2 s2 hf)
                      | list ds => exact iteF (fin false H2 s2 hf)
                      | tuple ds => exact iteF (fin false H2 s2 hf)
                      | dict kvs => exact iteF (fin false H2 s2 hf)
                  · rw [decide_eq_false (show ¬ (((V.str z :: xr).length : Nat) : Int) = 2 by rw [List.length_cons]; omega)]
                    exact iteF (fin false H1 (Same.refl _) (hf.trans (on1_bad hl)))
                · rw [decide_eq_false z1]
                  refine iteF ⟨_, rfl, rfl, _, rfl, ?_⟩
                  rw [dstr]
                  by_cases z2 : z = "cell"
                  · have fe : formOf n z rest = on1 isName rest := (if_neg z1).trans (if_pos z2)
                    rw [fe] at hf
                    rw [decide_eq_true z2]
                    refine iteT ⟨_, rfl, a, _, rfl, .inr hs, rfl, _, rfl, ?_⟩
                    rw [dint]
                    by_cases hl : rest.length = 1
                    · rw [decide_eq_true (show (((V.str z :: xr).length : Nat) : Int) = 2 by rw [List.length_cons]; omega)]
                      obtain ⟨d1, rfl⟩ := List.length_eq_one_iff.mp hl
                      cases hr0 with
                      | @cons x1 xr1 _ _ h1 hn1 =>
                        cases hn1
                        have at1 : atI [.str z, x1] (1 : Int) = some x1 := atI_nat (j := 1) rfl
                        exact iteT ⟨_, rfl, a, _, 1, x1, rfl, rfl, hs, at1, x1, d1, rfl, h1, szDs_get hszr (i := 0) rfl, fun H2 s2 => fin _ H2 s2 hf⟩
                    · rw [decide_eq_false (show ¬ (((V.str z :: xr).length : Nat) : Int) = 2 by rw [List.length_cons]; omega)]
                      exact iteF (fin false H1 (Same.refl _) (hf.trans (on1_bad hl)))
                  · rw [decide_eq_false z2]
                    refine iteF ⟨_, rfl, rfl, _, rfl, ?_⟩
                    rw [dstr]
                    by_cases z3 : z = "call"
                    · have fe : formOf n z rest = on2 (fun x y => isName x && callForm y) rest := (if_neg z1).trans ((if_neg z2).trans (if_pos z3))
                      rw [fe] at hf
                      rw [decide_eq_true z3]
                      refine iteT ⟨_, rfl, a, _, rfl, .inr hs, rfl, _, rfl, ?_⟩
                      rw [dint]
                      by_cases hl : rest.length = 2
                      · rw [decide_eq_true (show (((V.str z :: xr).length : Nat) : Int) = 3 by rw [List.length_cons]; omega)]
                        obtain ⟨d1, d2, rfl⟩ := len2 hl
                        cases hr0 with
                        | @cons x1 xr1 _ _ h1 hn1 =>
                          cases hn1 with
                          | @cons x2 xr2 _ _ h2 hn2 =>
                            cases hn2
                            have at1 : atI [.str z, x1, x2] (1 : Int) = some x1 := atI_nat (j := 1) rfl
                            have at2 : atI [.str z, x1, x2] (2 : Int) = some x2 := atI_nat (j := 2) rfl
                            refine iteT ⟨_, rfl, a, _, 1, x1, rfl, rfl, hs, at1, x1, d1, rfl, h1, szDs_get hszr (i := 0) rfl, fun H2 s2 => ⟨_, rfl, ?_⟩⟩
                            have hb : hasForm n (.tuple [.str z, d1, d2]) = (isName d1 && callForm d2) := hf
                            cases hn : isName d1 with
                            | false =>
                              rw [hn] at hb
                              exact iteF (fin false H2 s2 hb)
                            | true =>
                              rw [hn] at hb
                              exact iteT ⟨_, rfl, a, _, 2, x2, rfl, rfl, same_sqT s2 hs, at2, x2, d2, rfl, dp_same s2 h2, szDs_get hszr (i := 1) rfl, fun H3 s3 => fin _ H3 (s2.trans s3) hb⟩
                      · rw [decide_eq_false (show ¬ (((V.str z :: xr).length : Nat) : Int) = 3 by rw [List.length_cons]; omega)]
                        exact iteF (fin false H1 (Same.refl _) (hf.trans (on2_bad hl)))
                    · rw [decide_eq_false z3]
                      have fe : formOf n z rest = (match lenOf z with | some k => decide ((rest.length : Int) + 1 = k) | none => false) := (if_neg z1).trans ((if_neg z2).trans (if_neg z3))
                      rw [fe] at hf
                      have hz := hL z
                      cases ez : lenOf z with
                      | none =>
                        rw [ez] at hz hf
                        exact iteF ⟨_, rfl, z, none, rfl, rfl, hz, _, rfl, iteF (fin false H1 (Same.refl _) hf)⟩
                      | some k =>
                        rw [ez] at hz hf
                        obtain ⟨t, hz⟩ := hz
                        refine iteF ⟨_, rfl, z, some _, rfl, rfl, hz, _, rfl, iteT ⟨_, rfl, a, _, rfl, .inr hs, _, rfl, aL, z, .int k, rfl, rfl, ⟨es, n0, _, kL.at_, kL.lit, hz, ⟨_, rfl⟩⟩, rfl, ?_⟩⟩
                        rw [dint]
                        have e5 : (((V.str z :: xr).length : Nat) : Int) = (rest.length : Int) + 1 := by
                          rw [List.length_cons]
                          omega
                        have e6 := fin _ H1 (Same.refl _) hf
                        rw [← e5] at e6
                        exact e6
              | none => exact iteT (fin false H1 (Same.refl _) (Bool.or_eq_false_iff.mpr ⟨hval, rfl⟩))
              | bool b => exact iteT (fin false H1 (Same.refl _) (Bool.or_eq_false_iff.mpr ⟨hval, rfl⟩))
              | int i => exact iteT (fin false H1 (Same.refl _) (Bool.or_eq_false_iff.mpr ⟨hval, rfl⟩))
              | list ds => exact iteT (fin false H1 (Same.refl _) (Bool.or_eq_false_iff.mpr ⟨hval, rfl⟩))
              | tuple ds => exact iteT (fin false H1 (Same.refl _) (Bool.or_eq_false_iff.mpr ⟨hval, rfl⟩))
              | dict kvs => exact iteT (fin false H1 (Same.refl _) (Bool.or_eq_false_iff.mpr ⟨hval, rfl⟩))
      | none => exact iteT (fin false H1 (Same.refl _) (Bool.or_eq_false_iff.mpr ⟨hval, rfl⟩))
      | bool b => exact iteT (fin false H1 (Same.refl _) (Bool.or_eq_false_iff.mpr ⟨hval, rfl⟩))
      | int i => exact iteT (fin false H1 (Same.refl _) (Bool.or_eq_false_iff.mpr ⟨hval, rfl⟩))
      | str z => exact iteT (fin false H1 (Same.refl _) (Bool.or_eq_false_iff.mpr ⟨hval, rfl⟩))
      | list ds => exact iteT (fin false H1 (Same.refl _) (Bool.or_eq_false_iff.mpr ⟨hval, rfl⟩))
      | dict kvs => exact iteT (fin false H1 (Same.refl _) (Bool.or_eq_false_iff.mpr ⟨hval, rfl⟩))
end
/-! ### what stands in a term -/
abbrev sInner : Stmt := topS 29
abbrev sNext : Stmt := topS 30
theorem scInner : FnScope ["term"] ["term"] (defScope sInner) := ⟨rfl, rfl, rfl, by decide +kernel, rfl, by decide +kernel, by decide +kernel⟩
theorem scNext : FnScope ["level", "part", "inner"] ["level"] (defScope sNext) := ⟨rfl, rfl, rfl, by decide +kernel, rfl, by decide +kernel, by decide +kernel⟩
def second : List PyData → List PyData
  | [_, .tuple ts] => ts
  | _ => []
def inner : PyData → List PyData
  | .tuple (.str z :: rest) => if z = "arg" ∨ z = "cell" then [] else if z = "call" then second rest else rest
  | _ => []
theorem form_str {n : Int} {d : PyData} (h : hasForm n d = true) (hv : isValue d = false) : ∃ z rest, d = .tuple (.str z :: rest) ∧ formOf n z rest = true := by
  unfold hasForm at h
  rw [hv] at h
  match d, h with
  | .tuple (.str z :: rest), h => exact ⟨z, rest, rfl, h⟩
theorem in_two (z a b : Str) : inV (.str z) [.str a, .str b] = decide (z = a ∨ z = b) := by
  show ((a == z) || ((b == z) || false)) = _
  rw [Bool.or_false]
  by_cases h1 : z = a
  · subst h1
    rw [beq_self_eq_true, decide_eq_true (.inl rfl)]
    rfl
  · have e1 : (a == z) = false := beq_eq_false_iff_ne.mpr (fun q => h1 q.symm)
    rw [e1]
    by_cases h2 : z = b
    · subst h2
      rw [beq_self_eq_true, decide_eq_true (.inr rfl)]
      rfl
    · have e2 : (b == z) = false := beq_eq_false_iff_ne.mpr (fun q => h2 q.symm)
      rw [e2, decide_eq_false (fun q => q.elim h1 h2)]
      rfl
def spInner (K : PySem.W.Frag) : Sp := fun vs H Q _ => ∃ (v : V) (d : PyData) (n : Int) (H0 : Hp), vs = [v] ∧ Same H0 H ∧ Dp K H0 v d ∧ szD d = true ∧ hasForm n d = true ∧
  ∀ p xs H', Same H H' → H p = none → H' p = some (.lst xs) → DpAll K H0 xs (inner d) → Q (.ref p) H'
section
variable {P : Program} {w : World} {K : PySem.W.Frag} {mg : Str → Option Value} {base : Heap}
theorem ok_inner {f fW fV fN : Addr} {fd dW dV dN : FuncData} (F : Fun K "inner_terms" "inner_terms" sInner f fd) (M : Blt mg) (TC : CellsTxt K mg) (G : CellFns K mg fW fV fN dW dV dN) : FnOk P w K mg base CX0 3 f fd ["term"] (spInner K) := by
  have GV : FnOk P w K mg base CX0 2 fV dV ["value"] (spB K isValue) := ok_value G.V M TC G.W G.bW G.gW
  refine F.ok scInner (fun vs H Q E h => ?_) (fun cdv A outer s H vs Q E hr h => ?_)
  · obtain ⟨v, d, n, H0, rfl, _⟩ := h
    rfl
  · obtain ⟨v, d, n, H0, rfl, s0, hv, hsz, hf, q⟩ := h
    refine ⟨_, pss_cons (ps_if (PW.pt (pw_or (pt_val (pe_call GV hr (by rfl) G.gV G.V.kp G.bV .nil pass0 (pa_cons (pv 0) pa_nil)))
        (pw_or1 (pt_cmpR op_in_seq (pe_ix ix_tup (pv 0) pe_int (fun _ _ => rfl)) (pe_tup (pa_cons pe_str (pa_cons pe_str pa_nil))) (by rfl))))) (pss_one (ps_ret (pe_lst pa_nil))) pss_nil)
      (pss_cons (ps_if (pt_cmpR op_eq (pe_ix ix_tup (pv 0) pe_int (fun _ _ => rfl)) pe_str (nomark _)) (pss_one (ps_ret (pe_callTy call_list_of (by rfl) M.list (by decide +kernel) (pa_cons (pe_ix ix_tup (pv 0) pe_int (fun _ _ => rfl)) pa_nil)))) pss_nil)
      (pss_one (ps_ret (pe_callTy call_list_of (by rfl) M.list (by decide +kernel) (pa_cons (pe_slice sl_tup (pv 0) (po_some pe_int) po_none) pa_nil))))), ?_⟩
    have fin : ∀ xs H1, Same H H1 → DpAll K H0 xs (inner d) → ∀ p, H1 p = none → Q (.ref p) (upd H1 p (.lst xs)) := fun xs H1 s1 ha p np => q p xs _ (s1.trans (same_upd np)) (s1.free np) upd_same ha
    refine ⟨v, rfl, v, d, rfl, dp_same s0 hv, hsz, fun H1 s1 => ⟨_, rfl, ?_⟩⟩
    cases hval : isValue d with
    | true =>
      have ei : inner d = [] := by cases d <;> first | rfl | cases hval
      exact iteT ⟨Nat.zero_le _, fun p np => fin [] H1 s1 (by rw [ei]; exact .nil) p np⟩
    | false =>
      obtain ⟨z, rest, rfl, hf1⟩ := form_str hf hval
      cases hv with
      | @tup a xs _ hs ha =>
        cases ha with
        | @cons x0 xr _ _ h0 hr0 =>
          cases h0
          have at0 : atI (V.str z :: xr) (0 : Int) = some (.str z) := atI_nat (j := 0) rfl
          refine iteF ⟨_, rfl, a, _, 0, .str z, rfl, rfl, same_sqT (s0.trans s1) hs, at0, (by show 2 ≤ sizeLine; decide), fun p np => ?_⟩
          have s2 : Same H1 (upd H1 p (.tup [.str "arg", .str "cell"])) := same_upd np
          refine ⟨p, _, rfl, .inr (.inl (.inl upd_same)), rfl, rfl, _, rfl, ?_⟩
          rw [in_two]
          by_cases z1 : z = "arg" ∨ z = "cell"
          · rw [decide_eq_true z1]
            have ei : inner (.tuple (.str z :: rest)) = [] := if_pos z1
            exact iteT ⟨Nat.zero_le _, fun p2 np2 => fin [] _ (s1.trans s2) (by rw [ei]; exact .nil) p2 np2⟩
          · rw [decide_eq_false z1]
            have hs2 := same_sqT s2 (same_sqT (s0.trans s1) hs)
            refine iteF ⟨_, rfl, a, _, 0, .str z, rfl, rfl, hs2, at0, rfl, _, rfl, ?_⟩
            rw [dstr]
            by_cases z3 : z = "call"
            · rw [decide_eq_true z3]
              have fe : formOf n z rest = on2 (fun x y => isName x && callForm y) rest := (if_neg (fun h => z1 (.inl h))).trans ((if_neg (fun h => z1 (.inr h))).trans (if_pos z3))
              rw [fe] at hf1
              have ei : inner (.tuple (.str z :: rest)) = second rest := (if_neg z1).trans (if_pos z3)
              have hl : rest.length = 2 := by
                by_cases h : rest.length = 2
                · exact h
                · rw [on2_bad h] at hf1
                  cases hf1
              obtain ⟨d1, d2, rfl⟩ := len2 hl
              cases hr0 with
              | @cons x1 xr1 _ _ h1 hn1 =>
                cases hn1 with
                | @cons x2 xr2 _ _ h2 hn2 =>
                  cases hn2
                  have at2 : atI [.str z, x1, x2] (2 : Int) = some x2 := atI_nat (j := 2) rfl
                  have hc : callForm d2 = true := (Bool.and_eq_true_iff.mp hf1).2
                  cases d2 with
                  | tuple ts =>
                    cases h2 with
                    | @tup b ys _ hb hys =>
                      exact iteT ⟨_, rfl, a, _, 2, _, rfl, rfl, hs2, at2, b, ys, rfl, .inr (same_sqT s2 (same_sqT (s0.trans s1) hb)), fun p2 np2 => fin ys _ (s1.trans s2) (by rw [ei]; exact hys) p2 np2⟩
                  | none => cases hc
                  | bool _ => cases hc
                  | int _ => cases hc
                  | str _ => cases hc
                  | list _ => cases hc
                  | dict _ => cases hc
            · rw [decide_eq_false z3]
              have ei : inner (.tuple (.str z :: rest)) = rest := (if_neg z1).trans (if_neg z3)
              refine iteF ⟨_, rfl, 1, rfl, a, _, rfl, hs2, ?_, fun p2 np2 => ?_⟩
              · intro h
                have h1 := h.1
                rw [show HT.sIx (V.str z :: xr).length 0 (some 1) = min 1 (V.str z :: xr).length from HT.sIx_nat _ 0 1, List.length_cons] at h1
                omega
              · have s3 := (s1.trans s2).trans (same_upd (o := .tup (cutV (V.str z :: xr) (some 1) none)) np2)
                refine ⟨p2, cutV (V.str z :: xr) (some 1) none, rfl, .inr (.inl (.inl upd_same)), fun p3 np3 => fin _ _ s3 ?_ p3 np3⟩
                rw [ei, cut1]
                exact hr0
end
def spNext (K : PySem.W.Frag) : Sp := fun vs H Q _ => ∃ (a : Addr) (xs : List V) (ds : List PyData) (n : Int) (H0 : Hp), vs = [.ref a] ∧ Same H0 H ∧ SqL K H a xs ∧ DpAll K H0 xs ds ∧ szDs ds = true ∧ ds.all (hasForm n) = true ∧ (ds.flatMap inner).length ≤ 10000 ∧ ds.length ≤ 10000 ∧
  ∀ p ys H', Same H H' → H p = none → H' p = some (.lst ys) → DpAll K H0 ys (ds.flatMap inner) → Q (.ref p) H'
theorem flat_take {ds : List PyData} {i : Nat} {d : PyData} (h : ds[i]? = some d) : (ds.take (i + 1)).flatMap inner = (ds.take i).flatMap inner ++ inner d := by
  rw [take_snoc h, List.flatMap_append]
  simp
theorem flat_take_len (ds : List PyData) (i : Nat) : ((ds.take i).flatMap inner).length ≤ (ds.flatMap inner).length := by
  have h : ds.flatMap inner = (ds.take i).flatMap inner ++ (ds.drop i).flatMap inner := by
    rw [← List.flatMap_append, List.take_append_drop]
  rw [h, List.length_append]
  omega
section
variable {P : Program} {w : World} {K : PySem.W.Frag} {mg : Str → Option Value} {base : Heap}
theorem ok_next {f fI : Addr} {fd dI : FuncData} (F : Fun K "_next_level" "_next_level" sNext f fd) (GI : FnOk P w K mg base CX0 3 fI dI ["term"] (spInner K)) (FI : Fun K "inner_terms" "inner_terms" sInner fI dI) (bI : Binds K dI ["term"] []) (gI : mg "inner_terms" = some (.ref fI)) :
    FnOk P w K mg base CX0 4 f fd ["level"] (spNext K) := by
  refine F.ok scNext (fun vs H Q E h => ?_) (fun cdv A outer s H vs Q E hr h => ?_)
  · obtain ⟨a, xs, ds, n, H0, rfl, _⟩ := h
    rfl
  · obtain ⟨a, xs, ds, n, H0, rfl, s0, hs, ha, hsz, hf, hlen, hlen2, q⟩ := h
    refine' ⟨_, pss_one (ps_ret ?e), ?r⟩
    case e =>
      refine' pe_lc2 (own := [("part", 1), ("inner", 2)]) (vs1 := [2]) (g := gName 1) (g1 := gName 2) (wi1 := iList K (tCall (spInner K) [] E0 (tCons (tVar 1) tNil))) (by rfl) scNext.nd (pi_list (pv 0)) (blkOk_by (own := [("part", 1), ("inner", 2)]) (N := ["level", "part", "inner"]) (sc := defScope sNext) (by decide +kernel)) (by decide)
        ?hg ?ht ?hi ?hg1 ?ht1 ?he
      case hg => exact fun _ _ _ _ _ => pg_name (i := 1) scNext.nd rfl (Or.inl rfl)
      case ht => exact fun _ _ _ _ _ => pts_nil
      case hi => exact fun _ _ _ _ _ => pi_list (pe_call GI hr (by rfl) gI FI.kp bI .nil pass0 (pa_cons (pv 1) pa_nil))
      case hg1 => exact fun _ _ _ _ _ => pg_name (i := 2) scNext.nd rfl (Or.inl rfl)
      case ht1 => exact fun _ _ _ _ _ => pts_nil
      case he => exact fun _ _ _ _ _ => pv 2
    have el : xs.length = ds.length := dpA_len ha
    refine ⟨_, rfl, a, rfl, ⟨_, hs⟩, fun D hD => ?_⟩
    refine walk_gen (walk_list (K := K) (a := a) (xs := xs)) (fun i H' => Same H H' ∧ ∃ acc, H' D = some (.lst acc) ∧ DpAll K H0 acc ((ds.take i).flatMap inner)) ⟨same_upd hD, [], upd_same, .nil⟩ (fun i H' _ p => p.1.seq hs) (fun i x H1 H2 hi p y => ?_) (fun H' p => ?_)
    · obtain ⟨s1, acc, e1, ac⟩ := p
      obtain ⟨rfl, hx⟩ := y
      obtain ⟨d, hd, dx⟩ := dpA_at ha hx
      have hfd : hasForm n d = true := List.all_eq_true.mp hf d (List.mem_of_getElem? hd)
      refine And.intro rfl ?_
      unfold tYes
      refine iteT ?_
      refine ⟨_, rfl, x, d, n, H0, rfl, s0.trans s1, dx, szDs_get hsz hd, hfd, fun p ys H3 s3 np e3 hys => ?_⟩
      have nDp : D ≠ p := ne_of_none e1 np
      refine ⟨p, rfl, ⟨ys, .inl (.inl e3)⟩, ?_⟩
      have ely : ys.length = (inner d).length := dpA_len hys
      have e13 : H3 D = some (.lst acc) := s3 _ _ e1
      refine walk_gen (walk_list (K := K) (a := p) (xs := ys)) (fun j H' => Same H H' ∧ H' p = some (.lst ys) ∧ H' D = some (.lst (acc ++ ys.take j))) ⟨s1.trans s3, e3, by rw [List.take_zero, List.append_nil]; exact e13⟩ (fun j H' _ p' => .inl (.inl p'.2.1)) (fun j z H4 H5 hj p4 y4 => ?_) (fun H' p' => ?_)
      · obtain ⟨s4, e4, f4⟩ := p4
        obtain ⟨rfl, hz⟩ := y4
        refine And.intro rfl ?_
        refine iteT ?_
        refine ⟨z, rfl, acc ++ ys.take j, f4, ?_, fun b o e => ?_, ?_, ?_⟩
        · rw [List.length_append, List.length_take, dpA_len ac]
          have h1 := flat_take_len ds (i + 1)
          rw [flat_take hd, List.length_append] at h1
          exact Nat.lt_of_le_of_lt (show _ ≤ 10000 by omega) (by decide)
        · rw [upd_ne (ne_of_none e hD)]
          exact s4 _ _ e
        · rw [upd_ne (fun e => nDp e.symm)]
          exact e4
        · rw [upd_same, take_snoc hz, List.append_assoc]
      · obtain ⟨s5, e5, f5⟩ := p'
        refine ⟨s5, acc ++ ys, ?_, ?_⟩
        · rw [f5, List.take_length]
        · rw [flat_take hd]
          exact dpA_app ac hys
    · obtain ⟨s1, acc, e1, ac⟩ := p
      rw [el, List.take_length] at ac
      exact q D acc H' s1 hD e1 ac
end
/-! ### is_term -/
abbrev sTerm : Stmt := topS 26
theorem scTerm : FnScope ["value", "arguments", "level", "deep", "many", "part"] ["value", "arguments"] (defScope sTerm) := ⟨rfl, rfl, rfl, by decide +kernel, rfl, by decide +kernel, by decide +kernel⟩
def goT (n : Int) : Nat → List PyData → Nat → Nat → Bool
  | 0, _, _, _ => false
  | _ + 1, [], _, _ => true
  | f + 1, d :: ds, deep, many => !decide (8 < deep + 1 ∨ 30 < many + (d :: ds).length) && ((d :: ds).all (hasForm n) && goT n f ((d :: ds).flatMap inner) (deep + 1) (many + (d :: ds).length))
def isTerm (n : Int) (d : PyData) : Bool := goT n 9 [d] 0 0
theorem goT_nil {n : Int} {f deep many : Nat} : goT n (f + 1) [] deep many = true := rfl
theorem goT_cons {n : Int} {f deep many : Nat} {ds : List PyData} (h : ds ≠ []) : goT n (f + 1) ds deep many = (!decide (8 < deep + 1 ∨ 30 < many + ds.length) && (ds.all (hasForm n) && goT n f (ds.flatMap inner) (deep + 1) (many + ds.length))) := by
  cases ds with
  | nil => exact absurd rfl h
  | cons d ds => rfl
theorem form_len {n : Int} {z : Str} {rest : List PyData} (h : formOf n z rest = true) : rest.length ≤ 3 ∧ (z = "call" → ∃ d1 ts, rest = [d1, .tuple ts] ∧ ts.length ≤ 2) := by
  unfold formOf at h
  by_cases z1 : z = "arg"
  · rw [if_pos z1] at h
    have hl : rest.length = 1 := by
      by_cases q : rest.length = 1
      · exact q
      · rw [on1_bad q] at h
        cases h
    refine ⟨by omega, fun q => ?_⟩
    rw [z1] at q
    exact absurd q (by decide +kernel)
  · rw [if_neg z1] at h
    by_cases z2 : z = "cell"
    · rw [if_pos z2] at h
      have hl : rest.length = 1 := by
        by_cases q : rest.length = 1
        · exact q
        · rw [on1_bad q] at h
          cases h
      refine ⟨by omega, fun q => ?_⟩
      rw [z2] at q
      exact absurd q (by decide +kernel)
    · rw [if_neg z2] at h
      by_cases z3 : z = "call"
      · rw [if_pos z3] at h
        have hl : rest.length = 2 := by
          by_cases q : rest.length = 2
          · exact q
          · rw [on2_bad q] at h
            cases h
        refine ⟨by omega, fun _ => ?_⟩
        obtain ⟨d1, d2, rfl⟩ := len2 hl
        have hc : callForm d2 = true := (Bool.and_eq_true_iff.mp h).2
        cases d2 with
        | tuple ts => exact ⟨d1, ts, rfl, by have := of_decide_eq_true hc; omega⟩
        | none => cases hc
        | bool _ => cases hc
        | int _ => cases hc
        | str _ => cases hc
        | list _ => cases hc
        | dict _ => cases hc
      · rw [if_neg z3] at h
        refine ⟨?_, fun q => absurd q z3⟩
        cases e : lenOf z with
        | none =>
          rw [e] at h
          cases h
        | some k =>
          rw [e] at h
          have h1 := of_decide_eq_true h
          have hk : k ≤ 4 := by
            unfold lenOf at e
            split at e
            · cases e
              decide
            · split at e
              · cases e
                decide
              · split at e
                · cases e
                  decide
                · split at e
                  · cases e
                    decide
                  · split at e
                    · cases e
                      decide
                    · cases e
          omega
theorem inner_len {n : Int} {d : PyData} (h : hasForm n d = true) : (inner d).length ≤ 3 := by
  cases hv : isValue d with
  | true =>
    have e : inner d = [] := by cases d <;> first | rfl | cases hv
    rw [e]
    exact Nat.zero_le _
  | false =>
    obtain ⟨z, rest, rfl, hf⟩ := form_str h hv
    have hl := form_len hf
    show (if z = "arg" ∨ z = "cell" then [] else if z = "call" then second rest else rest).length ≤ 3
    by_cases z1 : z = "arg" ∨ z = "cell"
    · rw [if_pos z1]
      exact Nat.zero_le _
    · rw [if_neg z1]
      by_cases z3 : z = "call"
      · rw [if_pos z3]
        obtain ⟨d1, ts, rfl, ht⟩ := hl.2 z3
        show ts.length ≤ 3
        omega
      · rw [if_neg z3]
        exact hl.1
theorem flat_len {n : Int} : ∀ {ds : List PyData}, ds.all (hasForm n) = true → (ds.flatMap inner).length ≤ 3 * ds.length
  | [], _ => Nat.le_refl _
  | d :: ds, h => by
    have h1 := Bool.and_eq_true_iff.mp h
    rw [List.flatMap_cons, List.length_append, List.length_cons]
    have := inner_len h1.1
    have := flat_len h1.2
    omega
theorem szDs_app : ∀ {a b : List PyData}, szDs (a ++ b) = (szDs a && szDs b)
  | [], _ => rfl
  | d :: a, b => by
    show (szD d && szDs (a ++ b)) = ((szD d && szDs a) && szDs b)
    rw [szDs_app, Bool.and_assoc]
theorem sz_inner {d : PyData} (h : szD d = true) : szDs (inner d) = true := by
  match d, h with
  | .none, _ => rfl
  | .bool _, _ => rfl
  | .int _, _ => rfl
  | .str _, _ => rfl
  | .list _, _ => rfl
  | .dict _, _ => rfl
  | .tuple [], _ => rfl
  | .tuple (.none :: _), _ => rfl
  | .tuple (.bool _ :: _), _ => rfl
  | .tuple (.int _ :: _), _ => rfl
  | .tuple (.list _ :: _), _ => rfl
  | .tuple (.tuple _ :: _), _ => rfl
  | .tuple (.dict _ :: _), _ => rfl
  | .tuple (.str z :: rest), h =>
    have hr : szDs rest = true := (Bool.and_eq_true_iff.mp (szD_tup h)).2
    show szDs (if z = "arg" ∨ z = "cell" then [] else if z = "call" then second rest else rest) = true
    by_cases z1 : z = "arg" ∨ z = "cell"
    · rw [if_pos z1]
      rfl
    · rw [if_neg z1]
      by_cases z3 : z = "call"
      · rw [if_pos z3]
        match rest, hr with
        | [_, .tuple ts], hr => exact szD_tup (szDs_get (i := 1) hr rfl)
        | [], _ => rfl
        | [_], _ => rfl
        | [_, .none], _ => rfl
        | [_, .bool _], _ => rfl
        | [_, .int _], _ => rfl
        | [_, .str _], _ => rfl
        | [_, .list _], _ => rfl
        | [_, .dict _], _ => rfl
        | _ :: b :: _ :: _, _ => cases b <;> rfl
      · rw [if_neg z3]
        exact hr
theorem sz_flat : ∀ {ds : List PyData}, szDs ds = true → szDs (ds.flatMap inner) = true
  | [], _ => rfl
  | d :: ds, h => by
    have h1 := Bool.and_eq_true_iff.mp h
    rw [List.flatMap_cons, szDs_app, sz_inner h1.1, sz_flat h1.2]
    rfl
theorem all_rangeD (l : List PyData) (g : PyData → Bool) : ((List.range l.length).map fun i => g (l.getD i .none)).all id = l.all g := by
  have e : (List.range l.length).map (fun i => g (l.getD i .none)) = l.map g := by
    apply List.ext_getElem?
    intro i
    rw [List.getElem?_map, List.getElem?_map]
    by_cases hi : i < l.length
    · rw [List.getElem?_range hi, List.getElem?_eq_getElem hi]
      show some (g (l.getD i .none)) = some (g l[i])
      rw [List.getD_eq_getElem?_getD, List.getElem?_eq_getElem hi]
      rfl
    · rw [List.getElem?_eq_none (by simpa using hi), List.getElem?_eq_none (by simpa using hi)]
      rfl
  rw [e, List.all_map]
  rfl
section
variable {P : Program} {w : World} {K : PySem.W.Frag} {mg : Str → Option Value} {base : Heap}
theorem ok_term {f fH fX : Addr} {fd dH dX : FuncData} (F : Fun K "is_term" "is_term" sTerm f fd) (M : Blt mg) (T : TermsTxt K w mg)
    (GH : FnOk P w K mg base CX0 3 fH dH ["part", "arguments"] (spBn K hasForm)) (FH : Fun K "_has_form" "_has_form" sHas fH dH) (bH : Binds K dH ["part", "arguments"] []) (gH : mg "_has_form" = some (.ref fH))
    (GX : FnOk P w K mg base CX0 4 fX dX ["level"] (spNext K)) (FX : Fun K "_next_level" "_next_level" sNext fX dX) (bX : Binds K dX ["level"] []) (gX : mg "_next_level" = some (.ref fX)) :
    FnOk P w K mg base CX0 5 f fd ["value", "arguments"] (spBn K isTerm) := by
  obtain ⟨tD, gD⟩ := T.deep
  obtain ⟨tP, gP⟩ := T.parts
  refine F.ok scTerm (fun vs H Q E h => ?_) (fun cdv A outer s H vs Q E hr h => ?_)
  · obtain ⟨v, d, n, rfl, _⟩ := h
    rfl
  · obtain ⟨v, d, n, rfl, hv, hsz, q⟩ := h
    have hr3 : Room 3 _ := hr.mono (by decide)
    refine ⟨_, pss_cons (ps_set (i := 2) scTerm.nd rfl (.inl rfl) (pe_lst (pa_cons (pv 0) pa_nil)))
      (pss_cons (ps_set (i := 3) scTerm.nd rfl (.inl rfl) pe_int)
      (pss_cons (ps_set (i := 4) scTerm.nd rfl (.inl rfl) pe_int)
      (pss_cons (ps_while PassesOwn.never (pt_truth (pv 2) (by intro _; rfl))
        (pss_cons (ps_aug (i := 3) scTerm.nd rfl (.inl rfl) pe_int ip_add)
        (pss_cons (ps_aug (i := 4) scTerm.nd rfl (.inl rfl) (pe_callB call_len_seq (by rfl) M.len PySem.boot_len (pa_cons (pv 2) pa_nil)) ip_add)
        (pss_cons (ps_if (PW.pt (pw_or (pt_cmpR op_gt (pv 3) (pe_glob (v := .int 8) (by rfl) gD ⟨_, rfl⟩) (nomark _)) (pw_or1 (pt_cmpR op_gt (pv 4) (pe_glob (v := .int 30) (by rfl) gP ⟨_, rfl⟩) (nomark _))))) (pss_one (ps_ret pe_bl)) pss_nil)
        (pss_cons (ps_if (pt_not (pt_val (pe_callB (cr_all rfl) (by rfl) M.all (by decide +kernel) (pa_cons
            (pe_lc (own := [("part", 5)]) (g := gName 5) (te := tCall (spBn K hasForm) [] E0 (tCons (tVar 5) (tCons (tVar 1) tNil))) (by rfl) scTerm.nd (pi_list (pv 2)) (blkOk_by (own := [("part", 5)]) (N := ["value", "arguments", "level", "deep", "many", "part"]) (sc := defScope sTerm) (by decide +kernel))
              (fun _ _ _ _ _ => pg_name (i := 5) scTerm.nd rfl (Or.inl rfl)) (fun _ _ _ _ _ => pts_nil) (fun _ _ _ _ _ => pe_call GH hr3 (by rfl) gH FH.kp bH .nil pass0 (pa_cons (pv 5) (pa_cons (pv 1) pa_nil)))) pa_nil)))) (pss_one (ps_ret pe_bl)) pss_nil)
        (pss_one (ps_set (i := 2) scTerm.nd rfl (.inl rfl) (pe_call GX hr (by rfl) gX FX.kp bX .nil pass0 (pa_cons (pv 2) pa_nil)))))))))
      (pss_one (ps_ret pe_bl))))), ?_⟩
    have fin : ∀ (b : Bool) H1, Same H H1 → isTerm n d = b → Q (.bl b) H1 := fun b H1 s1 e => by
      rw [← e]
      exact q H1 s1
    refine ⟨v, rfl, (by show 1 ≤ sizeLine; decide), fun a0 na0 => ?_⟩
    refine q_c (σ := [some v, some (.int n), some (.ref a0), none, none, none]) (i := 3) (v := .int 0) ?_
    refine q_c (i := 4) (v := .int 0) ?_
    dsimp only [List.set]
    refine q_w ?_
    refine while_by (fun σ H' => ∃ (a : Addr) (xs : List V) (lv : List PyData) (k m : Nat) (y : Option V), σ = [some v, some (.int n), some (.ref a), some (.int k), some (.int m), y] ∧ Same H H' ∧ H' a = some (.lst xs) ∧ DpAll K H xs lv ∧ szDs lv = true ∧ k ≤ 8 ∧ lv.length ≤ 3000 ∧ goT n (9 - k) lv k m = isTerm n d)
      (fun σ _ => match σ with | [_, _, _, some (.int k), _, _] => 9 - k.toNat | _ => 0)
      ⟨a0, [v], [d], 0, 0, none, rfl, same_upd na0, upd_same, .cons hv .nil, (by show (szD d && true) = true; rw [hsz]; rfl), by omega, (by show 1 ≤ 3000; decide), rfl⟩ (fun σ H' hW => ?_) (fun σ H' Q1 Q2 hq ⟨x, e, k, t, q⟩ => ⟨x, e, k, t, hq _ _ q⟩)
    obtain ⟨a, xs, lv, k, m, y, rfl, s1, ea, ha, hz, hk, hln, hg⟩ := hW
    have el : xs.length = lv.length := dpA_len ha
    have hS : SqL K H' a xs := .inl (.inl ea)
    refine ⟨.ref a, rfl, _, .inl ⟨xs, hS, rfl⟩, ?_⟩
    cases lv with
    | nil =>
      have ex : xs = [] := List.eq_nil_of_length_eq_zero el
      subst ex
      refine iteF (fin true H' s1 ?_)
      rw [← hg, show 9 - k = (8 - k) + 1 by omega]
      rfl
    | cons d0 ds =>
      have ex : (!xs.isEmpty) = true := by
        cases xs with
        | nil => cases el
        | cons _ _ => rfl
      rw [ex]
      generalize hlv : d0 :: ds = lv at *
      have hne : lv ≠ [] := by
        rw [← hlv]
        exact List.cons_ne_nil _ _
      rw [show 9 - k = (8 - k) + 1 by omega, goT_cons hne] at hg
      refine iteT ⟨_, rfl, _, _, rfl, rfl, ?_⟩
      refine ⟨_, rfl, _, rfl, a, xs, rfl, .inl hS, _, _, rfl, rfl, ?_⟩
      refine ⟨_, rfl, _, _, rfl, rfl, _, rfl, ?_⟩
      have c1 : decide ((8 : Int) < (k : Int) + 1) = decide (8 < k + 1) := by
        by_cases h : 8 < k + 1
        · rw [decide_eq_true h, decide_eq_true (by omega)]
        · rw [decide_eq_false h, decide_eq_false (by omega)]
      have c2 : decide ((30 : Int) < (m : Int) + (xs.length : Int)) = decide (30 < m + lv.length) := by
        by_cases h : 30 < m + lv.length
        · rw [decide_eq_true h, decide_eq_true (by omega)]
        · rw [decide_eq_false h, decide_eq_false (by omega)]
      rw [c1]
      by_cases h1 : 8 < k + 1
      · rw [decide_eq_true h1]
        refine iteT (iteT (fin false H' s1 ?_))
        rw [← hg, decide_eq_true (.inl h1)]
        rfl
      · rw [decide_eq_false h1]
        refine iteF ⟨_, rfl, _, _, rfl, rfl, _, rfl, ?_⟩
        rw [c2]
        by_cases h2 : 30 < m + lv.length
        · rw [decide_eq_true h2]
          refine iteT (fin false H' s1 ?_)
          rw [← hg, decide_eq_true (.inr h2)]
          rfl
        · rw [decide_eq_false h2]
          rw [decide_eq_false (show ¬ (8 < k + 1 ∨ 30 < m + lv.length) from fun q => q.elim h1 h2)] at hg
          refine iteF ⟨_, rfl, a, rfl, ⟨_, hS⟩, fun D hD => ?_⟩
          refine lc_vals (vs := [5]) (j := 5) (walk_list (K := K) (a := a) (xs := xs)) (fun i => .bl (hasForm n (lv.getD i .none))) (by omega) hD (fun x => rfl) (fun H2 s2 => s2.seq hS) (fun i x H2 H3 hi s2 y2 => ?_) (fun H2 s2 e2 => ?_)
          · obtain ⟨rfl, hx⟩ := y2
            obtain ⟨di, hdi, dx⟩ := dpA_at ha hx
            refine ⟨Same.refl _, fun Q2 q2 => ?_⟩
            refine ⟨x, rfl, _, rfl, x, di, n, rfl, dp_same (s1.trans s2) dx, szDs_get hz hdi, fun H4 s4 => ?_⟩
            have e4 := q2 H4 s4
            rw [List.getD_eq_getElem?_getD, hdi] at e4
            exact e4
          · have eb : ((List.range xs.length).map fun i => hasForm n (lv.getD i .none)).all id = lv.all (hasForm n) := by
              rw [el]
              exact all_rangeD lv (hasForm n)
            refine ⟨D, (List.range xs.length).map (fun i => hasForm n (lv.getD i .none)), rfl, .inl (.inl ?_), ?_⟩
            · rw [e2, List.map_map]
              rfl
            · refine ⟨_, rfl, ?_⟩
              rw [eb]
              cases hb : lv.all (hasForm n) with
              | false =>
                refine iteT (fin false H2 (s1.trans s2) ?_)
                rw [← hg, hb]
                rfl
              | true =>
                rw [hb] at hg
                refine iteF ⟨_, rfl, a, xs, lv, n, H, rfl, s1.trans s2, s2.seq hS, ha, hz, hb, ?_, by omega, fun p ys H5 s5 np e5 hys => ?_⟩
                · have := flat_len hb
                  omega
                · have hfl := flat_len hb
                  refine ⟨⟨p, ys, lv.flatMap inner, k + 1, m + lv.length, y, ?_, (s1.trans s2).trans s5, e5, hys, sz_flat hz, by omega, by omega, ?_⟩, ?_⟩
                  · show [some v, some (V.int n), some (V.ref p), some (V.int ((k : Int) + 1)), some (V.int ((m : Int) + (xs.length : Int))), y] = _
                    rw [el]
                    rfl
                  · rw [show 9 - (k + 1) = 8 - k by omega]
                    exact hg
                  · show 9 - ((k : Int) + 1).toNat < 9 - (k : Int).toNat
                    omega
end
/-! ### an error of the text's own, over an own base -/
/-- what is written of the class B, whose __init__ is asked for by the class's name x -/
structure OwnBase (K : PySem.W.Frag) (mg : Str → Option Value) (x : Str) (B : Addr) : Prop where
  nam : mg x = some (.ref B)
  gta : PySem.W.specialIn K (.ref B) "__getattribute__" = some (some (.builtin "type.__getattribute__"))
  typ : PySem.W.typeIn K (.ref B) = some (.type "type")
  rds : PySem.W.readsIn K B (.type "type") = true
  ini : PySem.W.findCls K (.ref B) (.type "type") "__init__" = some (.val (.builtin "ValueError.__init__"))
section
variable {X : Cx} {e : Expr} {es : List Expr} {ta : TA} {p1 p2 pos : Pos}
theorem pe_baseI {pl : Sem Bool} {x : Str} {B : Addr} (vis : Gl X x) (T : OwnBase X.K X.mg x B) (arg : PA X (e :: es) ta)
    (run : eval (.Call (.Attribute (.Name x p1) "__init__" p2) (e :: es) [] pos) X.env = (do
      let cv ← eval (.Name x p1) X.env
      standAt p2.atName
      let (g, hd) ← holding [cv] (getMethod cv "__init__" pl)
      callWith pos g hd (backTo pos (starEach (e :: es) X.env)) (backToKw pos (keywordEach [] X.env))) := by rfl)
    (dbg : (x == ("__debug__" : Str)) = false := by decide) (one : starEach (e :: es) X.env = (false, eval e X.env) :: starEach es X.env := by rfl)
    (nos : (backTo pos (starEach es X.env)).any (·.1) = false := by rfl) : PE X (.Call (.Attribute (.Name x p1) "__init__" p2) (e :: es) [] pos) (tVeI X.K ta) := ⟨fun pins s σ H Q I h => by
  obtain ⟨m, fr⟩ := I.fr
  have kin := I.ok.mod.kin
  refine PySem.W.methodCall_KW (ld_glob I vis T.nam (PySem.W.method_of_cls fr kin T.gta (PySem.W.cls_val fr kin T.typ T.rds T.ini (by decide +kernel) ?_)) dbg) run
  exact PyProof.Rows.callWith_method1 (thn (arg.run pos pins _ σ H _ (I.tok _) h) fun us s1 z => by
    obtain ⟨vs, H1, I1, r1, a, C, ws, ev, hl, T1, ea, q⟩ := z
    subst ev
    cases r1 with
    | @cons _ u0 _ ur ra rw' =>
      cases (show u0 = Value.ref a from ra)
      have hlen : ur.length ≤ sizeLine := by rw [← Paired.length rw', sizeLine_eq]; omega
      exact oinit_ok T1 I1 ea hlen fun s' J => ⟨V.non, H1, J, rfl, q⟩) one nos⟩
end
/-- C(e, ..) in a try: what leaves __init__ goes to the wish at the present slots -/
def tMakeS (C : Addr) (sp : Sp) (E : L2.St → XK) (t : TA) : TE := fun σ H Q => t σ H fun vs H1 => ∀ x dx, H1 x = none → H1 dx = none → dx ≠ x → sp (.ref x :: vs) (upd (upd H1 dx (.own x)) x (.ins C dx [])) (fun v H2 => v = .non ∧ Q (.ref x) H2) (E σ)
theorem pe_makeS {X : Cx} {CX : CXT} {C f : Addr} {fd : FuncData} {k : Nat} {ps : List Str} {sp : Sp} {x : Str} {p pos : Pos} {e : Expr} {es : List Expr} {t : TA} {E : L2.St → XK} (M : Mk X.K C f) (F : FnOk X.prog X.w X.K X.mg X.base CX k f fd ps sp)
    (hr : Room (k + 1) X.A) (hg : Gl X x) (hm : X.mg x = some (.ref C)) (hb : Binds X.K fd ps []) (way : ∀ σ, PassesAt CX X σ (E σ)) (ha : PA X (e :: es) t) (hdb : (x == ("__debug__" : Str)) = false := by decide)
    (he : starEach (e :: es) X.env = (false, eval e X.env) :: starEach es X.env := by rfl) (hpl : (backTo pos (starEach es X.env)).any (·.1) = false := by rfl) : PE X (.Call (.Name x p) (e :: es) [] pos) (tMakeS C sp E t) := ⟨fun pins s σ H Q I h => by
  refine wpAny_Call_Name_kw (ld_glob I hg hm (PySem.W.callWith_K (h₀ := X.base) I.ok.mod.kin M.kp (thn (ha.run pos pins s σ H _ I h) fun us s1 z => ?_) he hpl) hdb)
  obtain ⟨vs, H1, I1, r, q⟩ := z
  let n := s1.heap.objs.size
  have here := q (n + 1) n (I1.hok.fresh (Nat.le_succ _)) (I1.hok.fresh (Nat.le_refl _)) (Nat.ne_of_lt (Nat.lt_succ_self _))
  have made := Inv.made (C := C) I1
  have rs : Vals (V.ref (n + 1) :: vs) (Value.ref (n + 1) :: us) := .cons rfl r
  have many : (Value.ref (n + 1) :: us).length = ps.length := rs.length.symm.trans (F.len _ _ _ _ here)
  have bind := hb ⟨_, s1.gens, s1.drawn, s1.toks, s1.os⟩ (Value.ref (n + 1) :: us) made.kIn (by rw [List.append_nil]; exact many)
  rw [List.append_nil] at bind
  refine ⟨I1.kIn, wpAny_call (make_map (f := f) I1.kIn M.makes M.init (beq_iff_eq.mp M.fn) (codeAny_mono (F.run _ X.stack _ _ ⟨Value.ref (n + 1) :: us, []⟩ (Value.ref (n + 1) :: us) _ _ (E σ) (hr.make C us []) (made.env0.make C us []) bind rs here) fun r s' z => ?_))⟩
  cases r with
  | error er => exact way σ pins _ _ er s' made z
  | ok fl =>
    cases fl with
    | ret u =>
      obtain ⟨v, H', J, rv, ev, q3⟩ := made.after z
      subst ev
      exact ⟨rv, V.ref (n + 1), H', J, rfl, q3⟩
    | next => exact False.elim z
    | brk => exact False.elim z
    | cont => exact False.elim z⟩
/-- a def that may raise, called where it doesn't -/
theorem pass00 {X : Cx} : Passes (L2.CX X.prog X.w) X (fun _ _ _ => False) := passes_call takes0 (fun _ _ _ _ h => h)
/-! ### isinstance of a caught error that has its dict -/
structure ErrC (K : PySem.W.Frag) (C : Addr) : Prop where
  cl : (PySem.W.clsIn K C).isSome = true
  ga : PySem.W.findIn K (.ref C) "__getattribute__" = some (some (.builtin "BaseException.__getattribute__"))
  gt : PySem.W.findIn K (.ref C) "__getattr__" = some none
  be : PySem.W.subIn K (.ref C) (.type "BaseException") = some true
  ca : PySem.W.findIn K (.ref C) "__class__" = some (some (.builtin "object.__class__"))
  cn : PySem.W.specialIn K (.builtin "object.__class__") "__get__" = some (some (.builtin "getset_descriptor.__get__"))
  tk : PySem.W.takesIn K (.builtin "object.__class__") = some true
  mo : PySem.W.mroIn K C (.type "object") = some true
def rIsD (K : PySem.W.Frag) (D a : Addr) (cls : Value) (d : Option Addr) : List V → Hp → VK → Prop := fun xs H Q => ∃ (c : V) (cv : Value) (b : Bool) (dd : Addr) (fs : List (Str × V)), xs = [.ref a, c] ∧ (∀ u, RelV c u → u = cv) ∧ cls = .ref D ∧ d = some dd ∧ H dd = some (.xd fs) ∧ PySem.W.kitOne K (.ref D) cv = some b ∧ Q (.bl b) H
theorem call_isD {X : Cx} {a D : Addr} {cls : Value} {d : Option Addr} {oe : Obj} {pn : List (Addr × Obj)} (T : ErrC X.K D) (hz : Zc cls d oe) (hf : ∃ vs, oe.data = .fields vs) : CallR (X.suite a ((a, oe) :: pn)) (.builtin "isinstance") (rIsD X.K D a cls d) := by
  intro pins s σ H xs us Q I r h
  obtain ⟨c, cv, b, dd, fs, rfl, hcv, rfl, rfl, hd, e, q⟩ := h
  obtain ⟨u1, u2, rfl, r1, r2⟩ := vals2 r
  cases (show u1 = Value.ref a from r1)
  cases hcv _ r2
  obtain ⟨hget, _⟩ := I.pin (a, oe) (List.mem_append_left _ List.mem_cons_self)
  obtain ⟨vs, hv⟩ := hf
  obtain ⟨mA, hns, _⟩ := (show ObjOk X.prog X.w H s.heap dd (.xd fs) from I.hok dd _ hd)
  obtain ⟨od, ho, _⟩ := lookIn_ns hns
  have J : PySem.W.InstAt s.heap a oe D (some od) := ⟨hget, hz.1, by unfold PySem.W.notCls; rw [hv] <;> rfl, by rw [hz.2]; exact ho⟩
  exact PySem.W.kia_one (PySem.W.kitx_exc T.cl T.ga T.gt T.be T.ca T.cn T.tk T.mo) I.kIn J e (fun z => nomatch z) fun tk => ⟨.bl b, H, I.kept (t' := tk) fun _ _ z => z, rfl, q⟩
/-! ### operators by own defs -/
section
variable {X : Cx} {n : Nat} {C g : Addr} {fd : FuncData} {ps : List Str} {sp : Sp}
def rOwnI (C : Addr) (sp : Sp) : R2 := fun x y H Q => ∃ a b dx dy fs gs, x = .ref a ∧ y = .ref b ∧ H a = some (.ins C dx fs) ∧ H b = some (.ins C dy gs) ∧ sp [x, y] H Q E0
theorem op_ownI {op : CmpOp} (hs : PySem.W.findIn X.K (.ref C) (cmpInfo op).2.1 = some (some (.ref g))) (hf : PySem.W.isFn X.K (.ref g) = true) (F : FnOk X.prog X.w X.K X.mg X.base CX0 n g fd ps sp) (hb : Binds X.K fd ps []) (hr : Room n X.A)
    (hop : ∀ a b, compareOp op a b = richCompare op a b := by intro _ _; rfl) : OpR X (compareOp op) (rOwnI C sp) := by
  intro pins s σ H x y v u Q I rx ry h
  obtain ⟨a, b, dx, dy, fs, gs, rfl, rfl, ea, eb, q⟩ := h
  cases (show v = Value.ref a from rx)
  cases (show u = Value.ref b from ry)
  obtain ⟨mA, J, _⟩ := ins_get I.hok ea
  obtain ⟨mB, J', _⟩ := ins_get I.hok eb
  obtain ⟨od, J, _⟩ := J.look
  obtain ⟨od', J', _⟩ := J'.look
  obtain ⟨m, hF⟩ := I.fr
  rw [hop]
  refine PySem.W.cmp_K (op := op) (tb := .ref C) hr.units0 hF I.ok.mod.kin J J'.type (by simp [PySem.W.notFirst]) hs hf ?_
  exact wpAny_mono (run_fn (vs := [.ref a, .ref b]) F hr hb .nil pass0 I (.cons rfl (.cons rfl .nil)) q) (fun w s' ⟨z', H', I', rz, qz⟩ => SlX.cmpback rz ⟨z', H', I', rz, qz⟩) fun _ _ x => x
end
/-! ### != by an own == -/
namespace NeX
open PySem.W
section
variable {prog : Program} {w : World} {A : Around} {E : Value → Shared → Prop} {s : Shared} {K : Frag} {x C L f : Addr} {h₀ : Heap} {m : Str → Option Value} {ox : Obj} {od : Option Obj} {b tb : Value}
theorem bound_blt {M : Model} {name : Str} {id : String} {args : List Value} {Q : Option Value → Shared → Prop} (X : K.In s.heap) (I : InstAt s.heap x ox C od) (hs : findIn K (.ref C) name = some (some (.builtin id)))
    (hb : bindSpecial (.builtin id) (.ref x) = pure (Value.builtin id, [Value.ref x])) (h : wpAny M A (call (.builtin id) (.ref x :: args)) (fun v => Q (some v)) E s) : wpAny M A (callSpecialIfBound? (.ref x) name args) Q E s := by
  simp only [callSpecialIfBound?, bindSpecialIfBound?]
  refine wpAny_holding (wpAny_bind (wpAny_bind (wpAny_bind (I.type.here ((looks_findIn X hs).here ?_)))))
  simp only [hb]
  have out : wpAny M A (call (.builtin id) ([.ref x] ++ args) >>= fun v => pure (some v)) Q E s := wpAny_bind (wpAny_mono h (fun _ _ z => wpAny_pure z) fun _ _ z => z)
  refine wpAny_bind (wpAny_askSetting (wpAny_ite ?_))
  split
  · exact wpAny_bind (wpAny_pure (wpAny_pure out))
  · exact wpAny_tryCatch (wpAny_bind (wpAny_pure (wpAny_pure out)))
theorem run_ne (hu : A.units < cLine) (X : K.In s.heap) (I : InstAt s.heap x ox C od) (he : findIn K (.ref C) "__eq__" = some (some (.ref f))) (hf : isFn K (.ref f) = true) {Q : Fin → Shared → Prop}
    (h : wpAny (model prog w) A (call (.ref f) [.ref x, b]) (fun v s' => ∃ k, v = .bool k ∧ Q (.done (.ret (.bool (!k)))) s') E s) : wpAny (model prog w) A (Builtin.«object.__ne__» ⟨[.ref x, b], []⟩) Q E s := by
  unfold Builtin.«object.__ne__»
  repeat (first
    | with_reducible refine wpAny_cRoomFor hu ?_
    | (refine wpAny_bind (m := callSpecialIfBound? (.ref x) (Str.ofString "__eq__") [b]) (ifBound_K X I he hf (wpAny_mono h (fun r s' hr => by
          obtain ⟨k, rfl, hq⟩ := hr
          repeat (first | exact hq | exact wpAny_pure hq | exact wpAny_truthy_bool hq | (refine wpAny_bind (m := truthy (.bool _)) (wpAny_truthy_bool ?_)) | wp_step)) fun _ _ z => z)))
    | wp_step)
theorem rich_ne (hu : A.units + 1 < cLine) (F : Fr h₀ L s.heap m) (X₀ : K.In h₀) (I : InstAt s.heap x ox C od) (hb : Looks (model prog w) s.heap (typeOf b) tb) (hn : notFirst K C tb = true)
    (hne : findIn K (.ref C) "__ne__" = some (some (.builtin "object.__ne__"))) (hso : subIn K (.ref C) (.type "object") = some true)
    (he : findIn K (.ref C) "__eq__" = some (some (.ref f))) (hf : isFn K (.ref f) = true) {Q : Value → Shared → Prop}
    (h : wpAny (model prog w) A.in1 (call (.ref f) [.ref x, b]) (fun v s' => ∃ k, v = .bool k ∧ Q (.bool (!k)) s') E s) : wpAny (model prog w) A (richCompare .NotEq (.ref x) b) Q E s := by
  have X := X₀.keeps F.keep
  have one : wpAny (model prog w) A (tryCompare (.ref x) "__ne__" b) (fun r s' => ∃ v, r = some v ∧ Q v s') E s := by
    unfold tryCompare
    refine wpAny_bind (bound_blt X I hne (PySem.F.cmp_object.ne.bind _) (wpAny_call (codeAny_call_builtin PySem.F.cmp_object.ne.plain PySem.F.cmpEntry_ne
      (check_slot PySem.F.cmpKind_ne PySem.F.cmpSplit_ne (I.type.andThen (looks_subIn X hso)) (PySem.F.cmpArgs_ne _ _) (run_ne (A := A.in1) (by show A.units + 1 < cLine; exact hu) X I he hf (wpAny_mono h (fun v s' hv => ?_) fun _ _ z => z))))))
    obtain ⟨k, rfl, hq⟩ := hv
    exact ⟨k, rfl, wpAny_pure ⟨_, rfl, hq⟩⟩
  unfold richCompare
  simp only [oneThing_ref]
  refine wpAny_holding (wpAny_bind (wpAny_cRoomFor (Nat.lt_of_succ_lt hu) ?_))
  rw [cmpInfo_NotEq]
  dsimp only
  refine wpAny_bind (I.type.here (wpAny_bind (hb.here ?_)))
  split
  · rename_i q
    have e : subIn K tb (.ref C) = some false := by
      rcases Bool.or_eq_true_iff.mp hn with z | z
      · rw [beq_iff_eq.mp z] at q; simp at q
      · exact beq_iff_eq.mp z
    refine wpAny_bind ((looks_subIn X e).here ?_)
    simp only [Bool.false_eq_true, if_false]
    exact wpAny_bind (wpAny_mono one (fun r s' ⟨v, z, hq⟩ => by subst z; exact wpAny_pure hq) fun _ _ z => z)
  · refine wpAny_bind (wpAny_pure ?_)
    simp only [Bool.false_eq_true, if_false]
    exact wpAny_bind (wpAny_mono one (fun r s' ⟨v, z, hq⟩ => by subst z; exact wpAny_pure hq) fun _ _ z => z)
end
end NeX
section
variable {X : Cx} {n : Nat} {C g : Addr} {fd : FuncData} {ps : List Str} {sp : Sp}
/-- what y, on the other side, is: an instance of the same class, or plain -/
def Other (K : PySem.W.Frag) (H : Hp) (C : Addr) (y : V) : Prop := (∃ b dy gs, y = .ref b ∧ H b = some (.ins C dy gs)) ∨ ∃ z, y = .str z
/-- x != y, by C's own == alone -/
def rNeI (K : PySem.W.Frag) (C : Addr) (sp : Sp) : R2 := fun x y H Q => ∃ a dx fs, x = .ref a ∧ H a = some (.ins C dx fs) ∧ Other K H C y ∧ sp [x, y] H (fun v H' => ∃ k, v = .bl k ∧ Q (.bl (!k)) H') E0
theorem op_neI (hne : PySem.W.findIn X.K (.ref C) "__ne__" = some (some (.builtin "object.__ne__"))) (hso : PySem.W.subIn X.K (.ref C) (.type "object") = some true) (hst : PySem.W.notFirst X.K C (.type "str") = true)
    (he : PySem.W.findIn X.K (.ref C) "__eq__" = some (some (.ref g))) (hf : PySem.W.isFn X.K (.ref g) = true) (F : FnOk X.prog X.w X.K X.mg X.base CX0 n g fd ps sp) (hb : Binds X.K fd ps []) (hr : Room (n + 1) X.A) : OpR X (compareOp .NotEq) (rNeI X.K C sp) := by
  intro pins s σ H x y v u Q I rx ry h
  obtain ⟨a, dx, fs, rfl, ea, ho, q⟩ := h
  cases (show v = Value.ref a from rx)
  obtain ⟨mA, J, _⟩ := ins_get I.hok ea
  obtain ⟨od, J, _⟩ := J.look
  obtain ⟨m, hF⟩ := I.fr
  have hu : X.A.units + 1 < cLine := by have := hr.units; omega
  have call1 : wpAny (model X.prog X.w) X.A.in1 (call (.ref g) [.ref a, u]) (fun v' s' => ∃ k, v' = .bool k ∧ EP X pins σ Q (.bool (!k)) s') X.xe s := by
    refine wpAny_mono (wpAny_call (SlX.run_at (us := [.ref a, u]) (ws := [.ref a, y]) (F.raw hb .nil) hr.in1 I.env0.in1 pass0 I (.cons rfl (.cons ry .nil)) q)) (fun w' s' z => ?_) fun _ _ z => z
    obtain ⟨z', H', I', rz, k, ez, qz⟩ := z
    subst ez
    cases rz
    exact ⟨k, rfl, .bl (!k), H', I', rfl, qz⟩
  rcases ho with ⟨b, dy, gs, rfl, eb⟩ | ⟨z, rfl⟩
  · cases (show u = Value.ref b from ry)
    obtain ⟨mB, J', _⟩ := ins_get I.hok eb
    obtain ⟨od', J', _⟩ := J'.look
    exact NeX.rich_ne hu hF I.ok.mod.kin J J'.type (by simp [PySem.W.notFirst]) hne hso he hf call1
  · obtain ⟨t, et⟩ := (show ∃ t, u = Value.str z t from ry)
    cases et
    exact NeX.rich_ne hu hF I.ok.mod.kin J (PySem.W.Looks.of_pure rfl) hst hne hso he hf call1
end

/-! ### != of two lists whose items are equal, one by one -/
namespace NlX
open PySem.SeqAt MeetsSeq MeetsSeq2 MeetsSeq3 SeqRoads2
open AutoSeq1 (wpAny_loadPart')
section
variable {prog : Program} {w : World} {A : Around} {R : Result → Shared → Prop}
/-- where the machine stands at the item number j of N: both lists as they are now, and the two items are seen to be equal -/
def Turns (prog : Program) (w : World) (A : Around) (E : Value → Shared → Prop) (p q : Addr) (N : Nat) (J : Nat → Shared → Prop) : Prop := GQ.ListI prog w A E p q N J
theorem ne_turns (p q : Addr) (N : Nat) (J : Nat → Shared → Prop) (T : Turns prog w A (fun e s' => R (.error e) s') p q N J) (out : ∀ s, J N s → R (.ok (.ret (.bool false))) s) :
    ∀ (left j : Nat), j + left = N → ∀ s, J j s → wpAny (model prog w) A.in1 (Builtin.«list.__eq__.loop» ⟨[.ref p, .ref q, rawInt j, rawInt 3], []⟩) (GQ.FinOf prog w A R) (fun e s' => R (.error e) s') s
  | 0, j, hj, s, h => by
    obtain ⟨xs, ys, m1, m2, e1, e2, z1, z2, _⟩ := T _ _ h
    have hjN : j = N := by omega
    subst hjN
    have fin := out s h
    obtain ⟨hp, g, d, tk, os⟩ := s
    wp_walk using wpAny_loadPart' e1, wpAny_loadPart' e2
    have a1 : xs[((j : Nat) : Int).toNat]? = none := by simp; omega
    have a2 : ys[((j : Nat) : Int).toNat]? = none := by simp; omega
    rw [a1, a2]
    wp_walk using wpAny_loadPart' e1, wpAny_loadPart' e2
    show R (.ok (.ret (.bool (xs.size != ys.size)))) _
    rw [z1, z2]
    simpa using fin
  | left + 1, j, hj, s, h => by
    obtain ⟨xs, ys, m1, m2, e1, e2, z1, z2, turn⟩ := T _ _ h
    have b1 : j < xs.size := by omega
    have b2 : j < ys.size := by omega
    have step := turn b1 b2
    obtain ⟨hp, g, d, tk, os⟩ := s
    wp_walk using wpAny_loadPart' e1, wpAny_loadPart' e2
    have a1 : xs[((j : Nat) : Int).toNat]? = some xs[j] := by simp [b1]
    have a2 : ys[((j : Nat) : Int).toNat]? = some ys[j] := by simp [b2]
    have up : ((j : Int) + 1) = ((j + 1 : Nat) : Int) := by omega
    rw [a1, a2]
    refine wpAny_bind (wpAny_mono step (fun r s2 z => ?_) fun _ _ z => z)
    obtain ⟨er, z⟩ := z
    subst er
    have more := ne_turns p q N J T out left (j + 1) (by omega) s2 z
    obtain ⟨hp2, g2, d2, tk2, os2⟩ := s2
    wp_walk
    rw [up]
    exact ⟨plainId_quiet plain_eq_loop _, codeAny_builtin entry_eq_loop (by
      rw [Around.under_plainId plain_eq_loop _]
      exact more)⟩
theorem ne_lists (p q : Addr) (N : Nat) (J : Nat → Shared → Prop) (T : Turns prog w A (fun e s' => R (.error e) s') p q N J) (out : ∀ s, J N s → R (.ok (.ret (.bool false))) s) {s : Shared} (h : J 0 s) :
    wpAny (model prog w) A.in1 (Builtin.«list.__ne__» ⟨[.ref p, .ref q], []⟩) (GQ.FinOf prog w A R) (fun e s' => R (.error e) s') s := by
  obtain ⟨xs, ys, m1, m2, e1, e2, z1, z2, _⟩ := T _ _ h
  have more := ne_turns (A := A) (R := R) p q N J T out N 0 (by omega) s h
  obtain ⟨hp, g, d, tk, os⟩ := s
  have sub := AutoSeq1.sub_list_list
  have same : ¬ (xs.size != ys.size) = true := by simp [z1, z2]
  wp_walk using wpAny_loadPart' e1, wpAny_loadPart' e2
  exact ⟨plainId_quiet plain_eq_loop _, codeAny_builtin entry_eq_loop (by
    rw [Around.under_plainId plain_eq_loop _]
    exact more)⟩
end
section
variable {prog : Program} {w : World} {A : Around} {E : Value → Shared → Prop} {s : Shared}
theorem rich_neL {p q : Addr} {N : Nat} {Q : Value → Shared → Prop} (hu : A.units < cLine) (J : Nat → Shared → Prop) (T : Turns prog w A E p q N J) (out : ∀ s, J N s → Q (.bool false) s) (h : J 0 s) :
    wpAny (model prog w) A (richCompare .NotEq (.ref p) (.ref q)) Q E s := by
  obtain ⟨xs, ys, m1, m2, e1, e2, _, _, _⟩ := T _ _ h
  refine wpAny_richCompare_same_room (op := .NotEq) ⟨_, e1, rfl⟩ ⟨_, e2, rfl⟩ F.slot_list_ne (GQ.call_here F.slot_list_ne ⟨_, e1, rfl⟩ F.entry_list_ne (F.args_list_ne_2 _ _) ?_) hu
  exact ne_lists (R := wants (fun v s' => v ≠ .notImplemented ∧ Q v s') E) p q N J T (fun s' z => ⟨(fun x => nomatch x), out s' z⟩) h
end
end NlX
section
variable {X : Cx} {n : Nat} {D : Eqv}
/-- xs != ys, lists whose items are equal by D -/
def rNeL (D : Eqv) : R2 := fun x y H Q => DList D x y H ∧ ∀ H', Ext H H' → Q (.bl false) H'
theorem op_neL (hD : Mon D) (h : EqG X n D) (hr : Room (n + 1) X.A) : OpR X (compareOp .NotEq) (rNeL D) := by
  intro pins s σ H x y v u Q I rx ry ⟨d, q⟩
  obtain ⟨a, b, xs, ys, rfl, rfl, ea, eb, p⟩ := d
  cases rx
  cases ry
  refine NlX.rich_neL (N := xs.length) hr.units0 (fun _ s' => LoopI X pins σ H s') (fun i s' z => ?_) (fun s' ⟨H', I', e⟩ => ⟨.bl false, H', I', rfl, q H' e⟩) ⟨H, I, Ext.rfl'⟩
  obtain ⟨H1, I1, e1⟩ := id z
  obtain ⟨_, its, k, r, o1⟩ := I1.hok a _ (e1 _ _ ea)
  obtain ⟨_, its2, k2, r2, o2⟩ := I1.hok b _ (e1 _ _ eb)
  exact ⟨its.toArray, its2.toArray, k, k2, o1, o2, by rw [List.size_toArray, ← r.length], by rw [List.size_toArray, ← r2.length, ← p.1], fun h1 h2 => turnG hD h ⟨hr, rfl⟩ p r r2 i h1 h2 s' z⟩
end
/-! ### defs that are run where no repr is under way: what repr of a list or tuple wants -/
/-- as FnOk, for a def that lets nothing out, called where no repr is under way -/
structure FnG (P : Program) (w : World) (K : PySem.W.Frag) (mg : Str → Option Value) (base : Heap) (k : Nat) (f : Addr) (fd : FuncData) (ps : List Str) (sp : Sp) : Prop where
  many : ∀ vs H Q, sp vs H Q E0 → vs.length = ps.length
  goes : ∀ (A : Around) (outer : List Env) (s : Shared) (H : Hp) (us : List Value) (vs : List V) (Q : VK), A.guards = some [] → Room k A → Env0 P w K mg base A outer s H → BindsTo s fd ⟨us, []⟩ (ps.zip us) → Vals vs us → sp vs H Q E0 →
    codeAny (model P w) A (.call (.ref f) ⟨us, []⟩) (CR CX0 outer P w H s Q E0) s
section
variable {P : Program} {w : World} {K : PySem.W.Frag} {mg : Str → Option Value} {base : Heap}
theorem Fun.okG {x qual : Str} {st : Stmt} {f : Addr} {fd : FuncData} {N ps : List Str} {k : Nat} {sp : Sp} (F : Fun K x qual st f fd) (S : FnScope N ps (defScope st)) (many : ∀ vs H Q, sp vs H Q E0 → vs.length = ps.length)
    (body : ∀ (cdv : Value) (A : Around) (outer : List Env) (s : Shared) (H : Hp) (vs : List V) (Q : VK), A.guards = some [] → Room k (A.deeper (envOfC qual (defScope st) s.heap.objs.size f cdv)) → sp vs H Q E0 →
      ∃ t, PSs (cxOf CX0 P w K mg base N qual (defScope st) f cdv A outer s H E0).nox (defBody st) t ∧ t { nx := fun _ H' => Q .non H', rt := Q } (start N vs) H) : FnG P w K mg base (k + 1) f fd ps sp := by
  obtain ⟨oc, od, kV, doc, pm, an, cdv, ct, osl, rfl, at_, cd⟩ := F.ex
  refine ⟨many, fun A outer s H us vs Q hg hr e0 hb r hs => ?_⟩
  have KX : K.In s.heap := e0.mod.kin.keeps fun b o e => (e0.bs b o e).1
  have lim : s.heap.NoLimit := e0.mod.nolimit.keeps fun b o e => (e0.bs b o e).1
  refine codeAny_call_function hr.depth (KX _ _ at_) rfl S.co S.gen rfl (PySem.W.codeRec_of KX cd) (hb _ _ _ _ ?_)
  refine wpAny_newFunctionEnv_cells S.kind (fun ⟨n, v⟩ hy => ?_) fun env he s1 x => ?_
  · rcases S.par n (List.of_mem_zip hy).1 with q | q
    · exact .inl q
    · exact .inr ⟨q, PySem.W.cellsFrom_some _ _ _ (.inl q)⟩
  · subst he
    obtain ⟨t, ht, hq⟩ := body cdv A outer s H vs Q hg (hr.deeper _) hs
    refine ⟨lim.keeps x.toInCall.keep, codeAny_func (wpAny_mono (ht.nox.run [] s1 (start N vs) H _ (inv_start S hr.hd e0 (many _ _ _ hs) r x) hq) (fun fl s' z => ?_) fun e s' z => z)⟩
    have out : ∀ {σ' : L2.St} {H' : Hp} {v : V} {u : Value}, Inv (cxOf CX0 P w K mg base N qual (defScope st) f cdv A outer s H E0) [] σ' H' s' → RelV v u → Q v H' → CE outer P w H s Q u s' := fun {σ' H' v u} J rv q => ⟨v, H', J.os, J.bare, J.base, J.hok, rv, q⟩
    cases fl with
    | ret u => exact let ⟨v, σ', H', J, rv, q⟩ := z; out J rv q
    | next => exact let ⟨σ', H', J, q⟩ := z; out (v := V.non) (u := Value.none) J rfl q
    | brk => exact let ⟨_, _, _, q⟩ := z; False.elim q
    | cont => exact let ⟨_, _, _, q⟩ := z; False.elim q
end
section
variable {X : Cx} {k : Nat} {f : Addr} {fd : FuncData} {ps : List Str} {sp : Sp} {x : Str} {e : Expr} {es : List Expr} {p pos : Pos} {t : TA}
theorem pe_callG (F : FnG X.prog X.w X.K X.mg X.base k f fd ps sp) (gu : X.A.guards = some []) (hr : Room k X.A) (hg : Gl X x) (hm : X.mg x = some (.ref f)) (hk : PySem.W.keepIn X.K (.ref f) = true) (hb : Binds X.K fd ps []) (ha : PA X (e :: es) t)
    (hdb : (x == ("__debug__" : Str)) = false := by decide) (he : starEach (e :: es) X.env = (false, eval e X.env) :: starEach es X.env := by rfl) (hpl : (backTo pos (starEach es X.env)).any (·.1) = false := by rfl) :
    PE X (.Call (.Name x p) (e :: es) [] pos) (tCall sp [] E0 t) := ⟨fun pins s σ H Q I h => by
  refine wpAny_Call_Name_kw (ld_glob I hg hm (PySem.W.callWith_K (h₀ := X.base) I.ok.mod.kin hk (thn (ha.run pos pins s σ H _ I h) fun us s1 z => ?_) he hpl) hdb)
  obtain ⟨vs, H1, I1, r, q⟩ := z
  have q' : sp vs H1 Q E0 := by
    have z : sp (vs ++ []) H1 Q E0 := q
    rwa [List.append_nil] at z
  have hl : (us ++ []).length = ps.length := by rw [List.append_nil, ← r.length]; exact F.many _ _ _ q'
  have bt := hb s1 us I1.kIn hl
  rw [List.append_nil] at bt
  refine ⟨I1.kIn, wpAny_call (codeAny_mono (F.goes X.A X.stack s1 H1 us vs Q gu hr I1.env0 bt r q') fun r s' z => ?_)⟩
  cases r with
  | error e => exact z.elim
  | ok fl =>
    cases fl with
    | ret u => exact I1.after z
    | next => exact False.elim z
    | brk => exact False.elim z
    | cont => exact False.elim z⟩
/-- repr of data -/
def rReprD (K : PySem.W.Frag) : List V → Hp → VK → Prop := fun xs H Q => ∃ (x : V) (d : PyData), xs = [x] ∧ Dp K H x d ∧ d.showable = true ∧ d.hasDict = false ∧ d.depth ≤ 60 ∧ d.shown.length ≤ sizeLine ∧ Q (.str d.shown) H
theorem call_reprD (gu : X.A.guards = some []) (un : X.A.units + 100 < cLine) : CallR X (.builtin "repr") (rReprD X.K) := by
  intro pins s σ H xs us Q I r h
  obtain ⟨x, d, rfl, hd, hs, hn, hdp, hz, q⟩ := h
  obtain ⟨u, rfl, ru⟩ := r.one

  obtain ⟨as, R⟩ := Dp.reads I d x u hd ru
  have put : ∀ {t : Tok} {z : Str}, z = d.shown → EP X pins σ Q (.str z t) { s with toks := s.toks + 1 } := fun {t z} e => by
    subst e
    exact ⟨.str d.shown, H, I.tok _, ⟨t, rfl⟩, q⟩
  cases hd with
  | non => cases (show u = Value.none from ru); exact PySem.P.repr_of_none (put rfl)
  | bl b => cases (show u = Value.bool b from ru); exact PySem.P.repr_of_bool (put rfl)
  | int i =>
    obtain ⟨t, e⟩ := (show ∃ t, u = Value.int i t from ru)
    cases e
    exact PySem.P.repr_of_int (by simpa [PyData.showable] using hs) (put rfl)
  | str z =>
    obtain ⟨t, e⟩ := (show ∃ t, u = Value.str z t from ru)
    cases e
    exact PySem.P.repr_of_str (put rfl) (by simpa [PyData.shown] using hz)
  | @lst a vs ds hS hD =>
    cases (show u = Value.ref a from ru)
    exact repr_of_reads' R hs (PyData.noDict_hsm hn) gu (by omega) (fun _ _ e => e) (fun h' t tk k => ⟨.str _, H, I.kept (t' := tk) k, ⟨t, rfl⟩, q⟩) hz
  | @tup a vs ds hS hD =>
    cases (show u = Value.ref a from ru)
    exact repr_of_reads' R hs (PyData.noDict_hsm hn) gu (by omega) (fun _ _ e => e) (fun h' t tk k => ⟨.str _, H, I.kept (t' := tk) k, ⟨t, rfl⟩, q⟩) hz
end
/-! ### the end, by a law's def that is run where no repr is under way -/
namespace EndG
section
variable {P : Program} {w : World} {K : PySem.W.Frag} {mg mb : Str → Option Value} {k : Nat} {fa a : Addr} {fd : FuncData} {x : Str} {sp : Sp} {s : Shared} {vs : List Value} {ns : List Int}
/-- what is asked of the run at last -/
def Told (s : Shared) (r : Result) (s' : Shared) : Prop := r = .ok (.ret (.bool true)) ∧ OldK s.heap s'.heap ∧ s'.os = s.os ∧ AllBare s'.gens
/-- from a heap of which at most the script is tracked -/
theorem told_at (KX : K.In s.heap) (n1 : s.heap.Ns mainGlobals mg) (n2 : s.heap.Ns builtinsNs mb) (bb : ∀ x : Str, x ≠ "__name__" → mb x = bootBuiltins x) (lim : s.heap.NoLimit) (gs : s.gens = #[])
    (oa : s.heap.get? a = some { cls := .type "list", data := .seq vs.toArray }) (hr : Room k callerA) (F : ∀ base : Heap, K.In base → base.Ns mainGlobals mg → FnG P w K mg base k fa fd [x] sp)
    (bind : ∀ (s : Shared) (u : Value), BindsTo s fd ⟨[u], []⟩ [(x, u)]) (H : Hp) (only : Only H) (ok : HOk P w H s.heap) (at_a : ∀ b, H b ≠ none → b = a) (notK : H a ≠ none → K.lookup a = none)
    (h : sp [.ref a] H (fun v _ => v = .bl true) E0) : codeAny (model P w) callerA (.call (.ref fa) ⟨[.ref a], []⟩) (Told s) s := by
  have none_or : ∀ b, H b = none ∨ b = a := fun b => by
    cases q : H b with
    | none => exact .inl rfl
    | some u => exact .inr (at_a b (by rw [q]; exact fun z => nomatch z))
  have free : ∀ {b : Addr} {o : Obj} {es : Array DictEntry} {ep : Nat}, s.heap.get? b = some o → o.data = .dict es ep → H b = none := fun {b o es ep} e d => by
    rcases none_or b with z | z
    · exact z
    · rw [z, oa] at e
      cases e
      exact absurd (show Data.seq vs.toArray _ = Data.dict es ep from d) (fun y => nomatch y)
  have ns0 : ∀ {b : Addr} {m : Str → Option Value}, s.heap.Ns b m → (hidT s.heap H).Ns b m := fun {b m} z => by
    obtain ⟨o, es, ep, e, d, r⟩ := z
    exact ⟨o, es, ep, hidT_get e (free e d), d, r⟩
  have kb : K.In (hidT s.heap H) := fun b o e => hidT_get (KX b o e) (by
    rcases none_or b with z | z
    · exact z
    · cases q : H b with
      | none => rfl
      | some u =>
        rw [z] at q e
        rw [notK (by rw [q]; exact fun y => nomatch y)] at e
        cases e)
  have md : Mod K mg (hidT s.heap H) := ⟨kb, ns0 n1, ⟨mb, ns0 n2, bb⟩, by
    obtain ⟨mc, c1, c2⟩ := lim
    exact ⟨mc, ns0 c1, c2⟩⟩
  have noF : ∀ b : Addr, b ∉ ([] : List Addr) := fun b => by simp
  have e0 : Env0 P w K mg (hidT s.heap H) callerA [] s H := ⟨rfl, md, fun b o z => of_hidT z, Nat.le_of_eq (hidT_size _ _), trivial, fun b z => absurd (show b ∈ ([] : List Addr) from z) (noF b), ok, .of_eq gs⟩
  refine codeAny_mono ((F _ kb (ns0 n1)).goes callerA [] s H [.ref a] [.ref a] _ rfl hr e0 (bind s (.ref a)) (.cons rfl .nil) h) fun r s' z => ?_
  cases r with
  | error e => exact z.elim
  | ok fl =>
    cases fl with
    | next => exact False.elim z
    | brk => exact False.elim z
    | cont => exact False.elim z
    | ret u =>
      obtain ⟨v, H', os, bare, un, ok', rv, ev⟩ := z
      cases (show v = .bl true from ev)
      cases (show u = Value.bool true from rv)
      refine ⟨rfl, OldK.of_keep fun b o e => ?_, os, bare⟩
      cases q : H b with
      | none => exact un.keep b o e q (fun y => absurd (show b ∈ ([] : List Addr) from y) (noF b)) (noF b)
      | some u =>
        rcases only b with y | ⟨ob, xs, y⟩
        · rw [q] at y
          cases y
        · obtain ⟨g1, _⟩ := ok b _ y
          obtain ⟨g2, _⟩ := ok' b _ (un.frzs b ob _ y)
          rw [e] at g1
          cases g1
          exact g2
theorem law_told (KX : K.In s.heap) (n1 : s.heap.Ns mainGlobals mg) (n2 : s.heap.Ns builtinsNs mb) (bb : ∀ x : Str, x ≠ "__name__" → mb x = bootBuiltins x) (lim : s.heap.NoLimit) (gs : s.gens = #[])
    (oa : s.heap.get? a = some { cls := .type "list", data := .seq vs.toArray }) (isI : IntsAre vs ns) (few : ns.length ≤ sizeLine) (hr : Room k callerA) (F : ∀ base : Heap, K.In base → base.Ns mainGlobals mg → FnG P w K mg base k fa fd [x] sp)
    (bind : ∀ (s : Shared) (u : Value), BindsTo s fd ⟨[u], []⟩ [(x, u)]) (h : ∀ H : Hp, Only H → SqL K H a (ns.map V.int) → sp [.ref a] H (fun v _ => v = .bl true) E0) : codeAny (model P w) callerA (.call (.ref fa) ⟨[.ref a], []⟩) (Told s) s := by
  have rv := vals_ints isI
  have len := isI.length
  cases inK : K.lookup a with
  | some o =>
    have e := KX a o inK
    rw [oa] at e
    cases e
    have only : Only (fun _ => none) := fun _ => .inl rfl
    refine told_at KX n1 n2 bb lim gs oa hr F bind (fun _ => none) only (fun b u z => nomatch (show (none : Option HO) = some u from z)) (fun b z => absurd rfl z) (fun z => absurd rfl z) (h _ only ?_)
    exact .inr ⟨_, vs.toArray, _, inK, rfl, rfl, rfl, by rw [List.size_toArray, len]; exact few, by simpa using rv⟩
  | none =>
    let scr : Obj := { cls := .type "list", data := .seq vs.toArray }
    let H : Hp := fun b => if b = a then some (.frz scr (.lst (ns.map V.int))) else none
    have Ha : H a = some (.frz scr (.lst (ns.map V.int))) := if_pos rfl
    have Hb : ∀ b, b ≠ a → H b = none := fun b z => if_neg z
    have only : Only H := fun b => by
      by_cases z : b = a
      · exact .inr ⟨scr, _, by rw [z]; exact Ha⟩
      · exact .inl (Hb b z)
    refine told_at KX n1 n2 bb lim gs oa hr F bind H only (fun b u z => ?_) (fun b z => ?_) (fun _ => inK) (h H only (.inl (.inr ⟨scr, Ha⟩)))
    · by_cases y : b = a
      · subst y
        rw [Ha] at z
        cases z
        exact ⟨oa, by rw [List.length_map]; exact few, vs, _, rv, oa⟩
      · rw [Hb b y] at z
        cases z
    · by_cases y : b = a
      · exact y
      · exact absurd (Hb b y) z
end
theorem walk_told {l : PySem.W.OpenLaw} {n k : Nat} {q : Program} {loose : List Str} {XP : (Str → Option Value) → Heap → Prop} {YP : World → Heap → Prop} {d : DefRec} {K : Params → PySem.W.Frag} {sp : World → Sp} {x : Str} (most : l.most = some n) (few : n ≤ sizeLine) (nod : d.params.defaults = []) (hr : Room k callerA)
    (KI : ∀ (w : World) (h : Heap), YP w h → (K w.params).In h)
    (F : ∀ (w : World) (mg : Str → Option Value) (fa : Addr) (h : Heap), (K w.params).In h → h.Ns mainGlobals mg → mg d.name = some (.ref fa) → ∃ fd : FuncData, (∀ (s : Shared) (u : Value), BindsTo s fd ⟨[u], []⟩ [(x, u)]) ∧ ∀ base : Heap, (K w.params).In base → base.Ns mainGlobals mg → FnG l.prog w (K w.params) mg base k fa fd [x] (sp w))
    (holds : ∀ (w : World) (H : Hp) (a : Addr) (ns : List Int), ns.length ≤ n → SqL (K w.params) H a (ns.map V.int) → sp w [.ref a] H (fun v _ => v = .bl true) E0) : PySem.W.WalkO q loose XP YP l.row.toRowW d [] (fun f vs => PySem.call f vs) := Att.attach_call most nod fun w s₀ s₁ mg mb fa o pm cd doc a vs ns G Y ho hd hcd hmg hobj hints hlen hg => by
  obtain ⟨fd, bind, F1⟩ := F w mg fa _ (KI w _ Y) G.T.g hmg
  exact law_told (KI w _ Y) G.T.g G.T.b G.T.builtins G.T.nolimit hg hobj hints (Nat.le_trans hlen few) hr F1 bind fun H _ hS => holds w H a ns hlen hS
end EndG
/-! ### a tuple from behind: t[::-1] -/
namespace RvT
section
variable {prog : Program} {w : World} {A : Around} {E : Value → Shared → Prop} {s : Shared}
theorem from_end (n : Nat) : Builtin.Slice.sliceAdjust none none (-1) (n : Int) = ((n : Int) - 1, -1) := by
  unfold Builtin.Slice.sliceAdjust
  simp
theorem as_many (n : Nat) : Builtin.Slice.slicePlaces ((n : Int) - 1) (-1) (-1) = n := by
  unfold Builtin.Slice.slicePlaces
  simp
  omega
theorem applied_back {sl : Addr} {vk : Value} {n : Nat} {Q : Int × Int × Nat → Shared → Prop} (hs : s.heap.IsSliceOf sl .none .none vk) (pk : IsPart vk (some (-1))) (h : Q ((n : Int) - 1, -1, n) s) :
    wpAny (model prog w) A (Builtin.Slice.sliceApplied (.ref sl) (pure (n : Int))) Q E s := by
  obtain ⟨os, o1, _, o2⟩ := id hs
  unfold Builtin.Slice.sliceApplied Builtin.Slice.sliceFields
  refine wpAny_bind (wpAny_bind (wpAny_field o1 o2 (x := .none) rfl (wpAny_bind (wpAny_field o1 o2 (x := .none) rfl (wpAny_bind (wpAny_field o1 o2 (x := vk) rfl (wpAny_pure ?_)))))))
  refine wpAny_bind (HT.slicePart_ pk ?_)
  show wpAny _ _ (if ((-1 : Int) == 0) = true then _ else _) _ _ s
  rw [if_neg (by decide)]
  refine wpAny_bind (slicePart_none (wpAny_bind (slicePart_none (wpAny_bind (wpAny_pure ?_)))))
  show wpAny _ _ (match Builtin.Slice.sliceAdjust none none (-1) (n : Int) with | (a, b) => pure (a, (-1 : Int), Builtin.Slice.slicePlaces a b (-1))) _ _ s
  rw [from_end n]
  show wpAny _ _ (pure ((n : Int) - 1, (-1 : Int), Builtin.Slice.slicePlaces ((n : Int) - 1) (-1) (-1))) _ _ s
  rw [as_many]
  exact wpAny_pure h
theorem picked (xs : Array Value) : ((List.range xs.size).filterMap fun (m : Nat) => xs[(((xs.size : Int) - 1) + (m : Int) * (-1)).toNat]?).toArray = xs.toList.reverse.toArray := by
  have e : (List.range xs.size).filterMap (fun (m : Nat) => xs[(((xs.size : Int) - 1) + (m : Int) * (-1)).toNat]?) = ((List.range xs.size).map fun m => xs.size - 1 - m).filterMap (xs[·]?) := by
    rw [List.filterMap_map]
    have all : ∀ l : List Nat, (∀ m ∈ l, m < xs.size) → l.filterMap (fun (m : Nat) => xs[(((xs.size : Int) - 1) + (m : Int) * (-1)).toNat]?) = l.filterMap ((xs[·]?) ∘ fun m => xs.size - 1 - m) := by
      intro l
      induction l with
      | nil => exact fun _ => rfl
      | cons m l ih =>
        intro hl
        have lt := hl m List.mem_cons_self
        have z : (((xs.size : Int) - 1) + (m : Int) * (-1)).toNat = xs.size - 1 - m := by omega
        rw [List.filterMap_cons, List.filterMap_cons, z, ih fun m' h' => hl m' (List.mem_cons_of_mem _ h')]
        rfl
    exact all _ fun m hm => List.mem_range.mp hm
  rw [e, PySem.W.krv_range, List.filterMap_reverse, PySem.W.krv_all]
theorem item_back {t sl : Addr} {items : Array Value} {vk : Value} {Q : Value → Shared → Prop} (ht : IsTup s.heap t items) (hs : s.heap.IsSliceOf sl .none .none vk) (pk : IsPart vk (some (-1))) (hz : items.size ≤ sizeLine)
    (h : Q (.ref s.heap.objs.size) { s with heap := s.heap.push { cls := .type "tuple", data := .seq items.toList.reverse.toArray } }) : wpAny (model prog w) A (getItem (.ref t) (.ref sl)) Q E s := by
  have room : sizeOk (.seq items.toList.reverse.toArray) := by
    show items.toList.reverse.toArray.size ≤ sizeLine
    rw [List.size_toArray, List.length_reverse, Array.length_toList]
    exact hz
  obtain ⟨os, o1, o2, _⟩ := id hs
  have isSl : s.TypeIs (.ref sl) "slice" := ⟨os, o1, o2⟩
  unfold getItem
  try with_reducible refine wpAny_holding ?_
  first | refine wpAny_bind (wpAny_pure ?_) | skip
  refine wpAny_bind (wpAny_sequenceKey ht.typeIs (by decide) ?_)
  refine wpAny_bind (wpAny_callSpecial?_slot (name := Str.ofString "__getitem__") ht.typeIs slot_tuple_getitem (wpAny_call_entry slot_tuple_getitem ht.typeIs entry_tuple_getitem ?_ (args_tuple_getitem _ _)))
  show wpAny _ _ (Builtin.Tuple.tupleItemsOf (.ref t) >>= _) _ _ s
  refine wpAny_bind (tupleItemsOf_ ht (wpAny_bind (wpAny_typeOf isSl ?_)))
  rw [if_pos (by decide)]
  refine wpAny_bind (applied_back hs pk ?_)
  show wpAny _ _ (if (((items.size : Int) - 1) == 0 && (-1 : Int) == 1 && items.size == items.size) = true then _ else _) _ _ s
  rw [if_neg (by simp), picked]
  first
    | exact wpAny_bind (m := Builtin.Tuple.tupleExact _) (wpAny_newObj_type (wpAny_pure ⟨_, rfl, wpAny_pure h⟩) room)
    | exact wpAny_bind (m := Builtin.Tuple.tupleExact _) (wpAny_newObj_type (wpAny_bind (wpAny_pure (wpAny_pure ⟨_, rfl, wpAny_pure h⟩))) room)
    | exact wpAny_bind (wpAny_bind (m := Builtin.Tuple.tupleExact _) (wpAny_newObj_type (wpAny_pure (wpAny_pure ⟨_, rfl, wpAny_pure h⟩)) room))
    | exact wpAny_bind (wpAny_bind (m := Builtin.Tuple.tupleExact _) (wpAny_newObj_type (wpAny_pure ⟨_, rfl, wpAny_pure h⟩) room))
end
end RvT
section
variable {X : Cx}
def tRevT (K : PySem.W.Frag) (te : TE) : TE := fun σ H Q => te σ H fun x H1 => ∃ a xs, x = .ref a ∧ SqT K H1 a xs ∧ ∀ p, H1 p = none → Q (.ref p) (upd H1 p (.tup xs.reverse))
theorem pe_revT {e : Expr} {te : TE} {k : Nat} {p1 p2 p3 pos : Pos} (he : PE X e te) : PE X (.Subscript e (.Slice none none (some (.UnaryOp .USub (.Constant (.int 1) k p1) p2)) p3) pos) (tRevT X.K te) := ⟨fun pins s σ H Q I h => by
  refine Subscript_ (thn (he.run pins s σ H _ I h) fun v s1 ⟨x, H1, I1, r1, q1⟩ => ?_)
  obtain ⟨a, xs, ex, hx, q⟩ := q1
  subst ex
  cases r1
  have none_at : ∀ (sA : Shared) (HA : Hp), Inv X pins σ HA sA → tNoPart σ HA (fun o HB => o = none ∧ HB = HA) := fun _ _ _ => ⟨rfl, rfl⟩
  have back : PO X (some (.UnaryOp .USub (.Constant (.int 1) k p1) p2)) (tPart (tUn (rU fun i => .int (-i)) (tC (.int 1)))) := po_some (pe_un un_neg pe_int)
  refine wpAny_Slice (thn (po_none.run pins s1 σ H1 _ I1 (none_at _ _ I1)) fun vl s2 ⟨l, H2, I2, pl, e1⟩ => ?_)
  obtain ⟨el, e2⟩ := e1
  subst el e2
  refine thn (po_none.run pins s2 σ H2 _ I2 (none_at _ _ I2)) fun vu s3 ⟨u, H3, I3, pu, e3⟩ => ?_
  obtain ⟨eu, e4⟩ := e3
  subst eu e4
  refine thn (back.run pins s3 σ H3 (fun o H4 => o = some (-1) ∧ H4 = H3) I3 ⟨1, rfl, -1, rfl, rfl, rfl⟩) fun vk s4 ⟨o, H4, I4, pk, e5⟩ => ?_
  obtain ⟨eo, e6⟩ := e5
  subst eo e6
  cases pl
  cases pu
  have I5 : Inv X pins σ H4 { s4 with heap := s4.heap.push { cls := .type "slice", data := .fields #[Value.none, .none, vk] } } := I4.kept (t' := s4.toks) fun b ob z => Heap.get?_push_of_some _ z
  obtain ⟨its, r, ht, hz⟩ := I5.tuple hx
  have len : its.toArray.size = xs.length := by rw [List.size_toArray]; exact r.length.symm
  show wpAny (model X.prog X.w) X.A (subscriptTail e (.Slice none none (some (.UnaryOp .USub (.Constant (.int 1) k p1) p2)) p3) (.ref a) (.ref s4.heap.objs.size)) (EP X pins σ Q) X.xe { s4 with heap := s4.heap.push { cls := .type "slice", data := .fields #[Value.none, .none, vk] } }
  refine tail_any (ops := [.ref a, .ref s4.heap.objs.size]) ht.typeIs slot_tuple_getitem.lookup ?_ (by with_unfolding_all rfl)
  refine RvT.item_back ht (Heap.IsSliceOf.new _ .none .none vk) pk (by rw [len]; exact hz) ?_
  refine ⟨.ref _, _, I5.laid (t' := s4.toks) (o := .tup xs.reverse) (fun b ob z => Heap.get?_push_of_some _ z) (Nat.le_refl _) ?_, rfl, q _ (I5.hok.fresh (Nat.le_refl _))⟩
  exact ⟨by rw [List.length_reverse]; exact hz, _, r.reverse, IsTup.new _ _⟩⟩
end
/-! ### BadLabel -/
abbrev sBL : Stmt := inClass (topS 3) 0
abbrev sBadPart : Stmt := inClass (topS 5) 0
theorem scBadPart : FnScope ["self", "part"] ["self", "part"] (defScope sBadPart) := ⟨rfl, rfl, rfl, by decide +kernel, rfl, by decide +kernel, by decide +kernel⟩
abbrev sBadTerm : Stmt := inClass (topS 6) 0
theorem scBadTerm : FnScope ["self", "term"] ["self", "term"] (defScope sBadTerm) := ⟨rfl, rfl, rfl, by decide +kernel, rfl, by decide +kernel, by decide +kernel⟩
abbrev sLab : Stmt := inClass (topS 50) 0
theorem scBL : FnScope ["self", "label"] ["self", "label"] (defScope sBL) := ⟨rfl, rfl, rfl, by decide +kernel, rfl, by decide +kernel, by decide +kernel⟩
theorem scLab : FnScope ["self", "name"] ["self", "name"] (defScope sLab) := ⟨rfl, rfl, rfl, by decide +kernel, rfl, by decide +kernel, by decide +kernel⟩
/-- an error of the class C that keeps its argument under the name f: what its __init__ leaves -/
def spErr (C : Addr) (f : Str) : Sp := fun vs H Q _ => ∃ a v, vs = [.ref a, v] ∧ H a = some (exo a C none) ∧ ∀ d, H d = none → d ≠ a → Q .non (upd (upd H d (exd d [(f, v)])) a (exo a C (some d)))
/-- what is written of an error's class -/
structure ErrT (K : PySem.W.Frag) (mg : Str → Option Value) (x : Str) (f : Str) (C fI : Addr) : Prop where
  oex : OexC K C
  nof : PySem.W.findIn K (.ref C) f = some none
  ini : PySem.W.findIn K (.ref C) "__init__" = some (some (.ref fI))
  typ : PySem.W.typeIn K (.ref fI) = some (.type "function")
  nam : mg x = some (.ref C)
/-- what comes of raise C(v): its dict, new, holds v -/
def Left (H : Hp) (d : Addr) (f : Str) (v : V) (H' : Hp) : Prop := H d = none ∧ Same H H' ∧ H' d = some (.xd [(f, v)])
theorem mk_left {H : Hp} {C : Addr} {f : Str} {v : V} {Q : XK} (h : ∀ d H', Left H d f v H' → Q (.ref C) (some d) H') : ∀ a, H a = none → spErr C f [.ref a, v] (upd H a (exo a C none))
    (fun w H2 => w = .non ∧ ∃ (d : Addr) (fs : List (Str × V)), H2 a = some (exo a C (some d)) ∧ H2 d = some (exd d fs) ∧ H d = none ∧ Q (.ref C) (some d) (upd (L2.del H2 a) d (.xd fs))) (fun _ _ _ => False) := fun a na => by
  refine ⟨a, v, rfl, upd_same, fun d nd hda => ?_⟩
  have nd0 : H d = none := by rw [upd_ne hda] at nd; exact nd
  refine ⟨rfl, d, _, upd_same, by rw [upd_ne hda]; exact upd_same, nd0, h d _ ⟨nd0, fun b o e => ?_, upd_same⟩⟩
  have b1 : b ≠ d := ne_of_none e nd0
  have b2 : b ≠ a := ne_of_none e na
  rw [upd_ne b1, L2.del_ne b2, upd_ne b2, upd_ne b1, upd_ne b2]
  exact e
/-! ### labels -/
def labRow : List Str := ["always", "session", "statement", "changing"]
/-- no name of a label -/
def noLab : PyData → Bool
  | .str z => decide (z ∉ labRow)
  | _ => true
/-- what is written of the class Label -/
structure LabC (K : PySem.W.Frag) (mg : Str → Option Value) (C : Addr) : Prop where
  cl : Cls K C
  nh : NoAttr K C "_height"
  nn : NoAttr K C "name"
  me : PySem.W.kitOne K (.ref C) (.ref C) = some true
  ot : PySem.W.kitOne K (.type "str") (.ref C) = some false
  gC : mg "Label" = some (.ref C)
  ca : PySem.W.findIn K (.ref C) "__class__" = some (some (.builtin "object.__class__"))
  cg : PySem.W.specialIn K (.builtin "object.__class__") "__get__" = some (some (.builtin "getset_descriptor.__get__"))
  ct : PySem.W.takesIn K (.builtin "object.__class__") = some true
  cm : PySem.W.mroIn K C (.type "object") = some true
  ne : PySem.W.findIn K (.ref C) "__ne__" = some (some (.builtin "object.__ne__"))
  so : PySem.W.subIn K (.ref C) (.type "object") = some true
  nf : PySem.W.notFirst K C (.type "str") = true
/-- the table of the names -/
def RowT (K : PySem.W.Frag) (mg : Str → Option Value) : Prop := ∃ a o, mg "LABELS" = some (.ref a) ∧ K.lookup a = some o ∧ o.cls = .type "tuple" ∧ o.dict = none ∧ ∀ H : Hp, SqT K H a (labRow.map V.str)
/-- the label number i of the row, at a -/
def LabAt (H : Hp) (C a : Addr) (i : Nat) : Prop := ∃ dx fs z, H a = some (.ins C dx fs) ∧ labRow[i]? = some z ∧ fs.lookup ("_height" : Str) = some (V.int (4 - (i : Int))) ∧ fs.lookup ("name" : Str) = some (V.str z) ∧
  fs.lookup ("is_steady" : Str) = none ∧ fs.lookup ("higher" : Str) = none
theorem LabAt.ext {H H' : Hp} {C a : Addr} {i : Nat} (h : LabAt H C a i) (s : Ext H H') : LabAt H' C a i := by
  obtain ⟨dx, fs, z, e, r⟩ := h
  exact ⟨dx, fs, z, s _ _ e, r⟩
theorem LabAt.but {H H' : Hp} {C a D : Addr} {i : Nat} {zs : List V} (h : LabAt H C a i) (e : H D = some (.lst zs)) (b : But D H H') : LabAt H' C a i := by
  obtain ⟨dx, fs, z, ea, r⟩ := h
  exact ⟨dx, fs, z, b _ _ ea (fun q => by rw [q, e] at ea; cases ea), r⟩
theorem LabAt.lt {H : Hp} {C a : Addr} {i : Nat} (h : LabAt H C a i) : i < 4 := by
  obtain ⟨dx, fs, z, e, r, _⟩ := h
  exact List.getElem?_eq_some_iff.mp r |>.1
theorem LabAt.at {H : Hp} {C a : Addr} {i j : Nat} (h : LabAt H C a i) (e : j = i) : LabAt H C a j := e ▸ h
abbrev spOut (H : Hp) (v : V) (CB : Addr) (E : XK) : Prop := ∀ dd H', Left H dd "label" v H' → E (.ref CB) (some dd) H'
theorem upd_twice {H : Hp} {a : Addr} {x y : HO} : upd (upd H a x) a y = upd H a y := by
  funext b
  by_cases h : b = a
  · subst h
    rw [upd_same, upd_same]
  · rw [upd_ne h, upd_ne h, upd_ne h]
def spLab (K : PySem.W.Frag) (C CB : Addr) : Sp := fun vs H Q E => ∃ a dx v d, vs = [.ref a, v] ∧ H a = some (.ins C dx []) ∧ Dp K H v d ∧
  ((∃ (i : Nat) (z : Str), labRow[i]? = some z ∧ v = .str z ∧ ∀ fs, fs.lookup ("_height" : Str) = some (V.int (4 - (i : Int))) → fs.lookup ("name" : Str) = some (V.str z) → fs.lookup ("is_steady" : Str) = none → fs.lookup ("higher" : Str) = none → Q .non (upd H a (.ins C dx fs))) ∨
   (noLab d = true ∧ ∀ dd H', Left H dd "label" v H' → E (.ref CB) (some dd) H'))
def spLabEq (K : PySem.W.Frag) (C : Addr) : Sp := fun vs H Q _ => ∃ (a : Addr) (i : Nat) (y : V), vs = [.ref a, y] ∧ LabAt H C a i ∧ ((∃ b j, y = .ref b ∧ LabAt H C b j ∧ Q (.bl (decide (i = j))) H) ∨ ∃ z, y = .str z ∧ Q (.bl false) H)
def spLabLt (C : Addr) : Sp := fun vs H Q _ => ∃ (a b : Addr) (i j : Nat), vs = [.ref a, .ref b] ∧ LabAt H C a i ∧ LabAt H C b j ∧ Q (.bl (decide (j < i))) H
def spLabLe (C : Addr) : Sp := fun vs H Q _ => ∃ (a b : Addr) (i j : Nat), vs = [.ref a, .ref b] ∧ LabAt H C a i ∧ LabAt H C b j ∧ Q (.bl (decide (j ≤ i))) H
def spSteady (C : Addr) : Sp := fun vs H Q _ => ∃ (a : Addr) (i : Nat), vs = [.ref a] ∧ LabAt H C a i ∧ Q (.bl (decide (i ≠ 3))) H
abbrev sLabEq : Stmt := inClass (topS 50) 1
abbrev sLabLt : Stmt := inClass (topS 50) 2
abbrev sLabLe : Stmt := inClass (topS 50) 3
abbrev sSteady : Stmt := inClass (topS 50) 4
theorem scLabEq : FnScope ["self", "other"] ["self", "other"] (defScope sLabEq) := ⟨rfl, rfl, rfl, by decide +kernel, rfl, by decide +kernel, by decide +kernel⟩
theorem scLabLt : FnScope ["self", "other"] ["self", "other"] (defScope sLabLt) := ⟨rfl, rfl, rfl, by decide +kernel, rfl, by decide +kernel, by decide +kernel⟩
theorem scLabLe : FnScope ["self", "other"] ["self", "other"] (defScope sLabLe) := ⟨rfl, rfl, rfl, by decide +kernel, rfl, by decide +kernel, by decide +kernel⟩
theorem scSteady : FnScope ["self"] ["self"] (defScope sSteady) := ⟨rfl, rfl, rfl, by decide +kernel, rfl, by decide +kernel, by decide +kernel⟩
theorem row_str {i : Nat} {z : Str} (h : labRow[i]? = some z) : (i = 0 ∧ z = "always") ∨ (i = 1 ∧ z = "session") ∨ (i = 2 ∧ z = "statement") ∨ (i = 3 ∧ z = "changing") := by
  rcases i with _ | _ | _ | _ | i
  · exact .inl ⟨rfl, (Option.some.inj h).symm⟩
  · exact .inr (.inl ⟨rfl, (Option.some.inj h).symm⟩)
  · exact .inr (.inr (.inl ⟨rfl, (Option.some.inj h).symm⟩))
  · exact .inr (.inr (.inr ⟨rfl, (Option.some.inj h).symm⟩))
  · simp [labRow] at h
theorem inV_row (z : Str) : inV (V.str z) (labRow.map V.str) = decide (z ∈ labRow) := by
  rw [Bool.eq_iff_iff]
  unfold inV
  rw [List.any_eq_true, decide_eq_true_eq]
  constructor
  · rintro ⟨y, hy, e⟩
    obtain ⟨w, hw, rfl⟩ := List.mem_map.mp hy
    have e2 : w = z := by
      have e' : (w == z) = true := e
      exact beq_iff_eq.mp e'
    exact e2 ▸ hw
  · intro h
    exact ⟨V.str z, List.mem_map.mpr ⟨z, h, rfl⟩, (beq_self_eq_true z : (z == z) = true)⟩
section
variable {P : Program} {w : World} {K : PySem.W.Frag} {mg : Str → Option Value} {base : Heap}
theorem ok_badL {C f B : Addr} {fd : FuncData} (F : Fun K "__init__" "BadLabel.__init__" sBL f fd) (TB : OwnBase K mg "StoreError" B) (oex : OexC K C) (nof : PySem.W.findIn K (.ref C) "label" = some none) :
    FnOk P w K mg base CX0 1 f fd ["self", "label"] (spErr C "label") := by
  refine F.ok scBL (fun vs H Q E h => ?_) (fun cdv A outer s H vs Q E hr h => ?_)
  · obtain ⟨a, v, rfl, _⟩ := h
    rfl
  · obtain ⟨a, v, rfl, e, q⟩ := h
    refine ⟨_, pss_cons (ps_expr (pe_baseI (by rfl) TB (pa_cons (pv 0) (pa_cons pe_str pa_nil)))) (pss_one (ps_ost (pv 0) (pv 1))), ?_⟩
    refine ⟨.ref a, rfl, a, C, _, rfl, by show (1 : Nat) ≤ 1000; decide, oex, e, ?_⟩
    exact ⟨v, rfl, .ref a, rfl, a, C, rfl, oex, nof, .inl ⟨e, fun d nd ne => q d nd ne⟩⟩
theorem ok_badPart {C f B : Addr} {fd : FuncData} (F : Fun K "__init__" "BadPart.__init__" sBadPart f fd) (TB : OwnBase K mg "StoreError" B) (oex : OexC K C) (nof : PySem.W.findIn K (.ref C) "part" = some none) :
    FnOk P w K mg base CX0 1 f fd ["self", "part"] (spErr C "part") := by
  refine F.ok scBadPart (fun vs H Q E h => ?_) (fun cdv A outer s H vs Q E hr h => ?_)
  · obtain ⟨a, v, rfl, _⟩ := h
    rfl
  · obtain ⟨a, v, rfl, e, q⟩ := h
    refine ⟨_, pss_cons (ps_expr (pe_baseI (by rfl) TB (pa_cons (pv 0) (pa_cons pe_str pa_nil)))) (pss_one (ps_ost (pv 0) (pv 1))), ?_⟩
    refine ⟨.ref a, rfl, a, C, _, rfl, by show (1 : Nat) ≤ 1000; decide, oex, e, ?_⟩
    exact ⟨v, rfl, .ref a, rfl, a, C, rfl, oex, nof, .inl ⟨e, fun d nd ne => q d nd ne⟩⟩
theorem ok_badTerm {C f B : Addr} {fd : FuncData} (F : Fun K "__init__" "BadTerm.__init__" sBadTerm f fd) (TB : OwnBase K mg "StoreError" B) (oex : OexC K C) (nof : PySem.W.findIn K (.ref C) "term" = some none) :
    FnOk P w K mg base CX0 1 f fd ["self", "term"] (spErr C "term") := by
  refine F.ok scBadTerm (fun vs H Q E h => ?_) (fun cdv A outer s H vs Q E hr h => ?_)
  · obtain ⟨a, v, rfl, _⟩ := h
    rfl
  · obtain ⟨a, v, rfl, e, q⟩ := h
    refine ⟨_, pss_cons (ps_expr (pe_baseI (by rfl) TB (pa_cons (pv 0) (pa_cons pe_str pa_nil)))) (pss_one (ps_ost (pv 0) (pv 1))), ?_⟩
    refine ⟨.ref a, rfl, a, C, _, rfl, by show (1 : Nat) ≤ 1000; decide, oex, e, ?_⟩
    exact ⟨v, rfl, .ref a, rfl, a, C, rfl, oex, nof, .inl ⟨e, fun d nd ne => q d nd ne⟩⟩
theorem ok_lab {C CB f fB : Addr} {fd fdB : FuncData} (F : Fun K "__init__" "Label.__init__" sLab f fd) (M : Blt mg) (T : LabC K mg C) (R : RowT K mg) (TE : ErrT K mg "BadLabel" "label" CB fB)
    (GB : FnOk P w K mg base CX0 1 fB fdB ["self", "label"] (spErr CB "label")) (bB : Binds K fdB ["self", "label"] []) : FnOk P w K mg base (L2.CX P w) 3 f fd ["self", "name"] (spLab K C CB) := by
  obtain ⟨aR, oR, gR, lR, cR, dR, hR⟩ := R
  refine F.okX scLab (fun vs H Q E h => ?_) (fun cdv A outer s H vs Q E hr h => ?_)
  · obtain ⟨a, dx, v, d, rfl, _⟩ := h
    rfl
  · obtain ⟨a, dx, v, d, rfl, ea, hv, h⟩ := h
    have gl : ∀ {X : Cx}, X.mg = mg → X.mg "LABELS" = some (.ref aR) := fun e => e ▸ gR
    refine ⟨_, pss_cons (ps_if (PW.pt (pw_or (pt_not (pt_val (pe_callB call_isi (by rfl) M.isinstance (by decide +kernel) (pa_cons (pv 1) (pa_cons (pe_bltn (v := .ty "str") (by rfl) M.str (by decide +kernel) rfl) pa_nil)))))
        (pw_or1 (pt_cmpR op_notIn_seq (pv 1) (pe_glob (v := .ref aR) (by rfl) gR rfl) (by rfl))))) (pss_one (ps_raise rfl (takes_of rfl rfl rfl rfl) (pmk_oex (k := 1) (ps := ["self", "label"]) (sp := spErr CB "label") (ds := []) (dvs := []) TE.oex TE.ini TE.typ GB hr bB .nil pass0 (by rfl) TE.nam (pa_cons (pv 1) pa_nil)))) pss_nil)
      (pss_cons (ps_fld (pv 0) (pv 1) (by rfl))
      (pss_one (ps_fld (pv 0) (pe_op op_sub (pe_callB call_len_seq (by rfl) M.len PySem.boot_len (pa_cons (pe_glob (v := .ref aR) (by rfl) gR rfl) pa_nil))
        (pe_bm PySem.F.plainAttrs_tuple PySem.F.slot_tuple_index PySem.F.type_tuple_index mt_tup_index (pe_glob (v := .ref aR) (by rfl) gR rfl) (pa_cons (pv 1) pa_nil))) (by rfl)))), ?_⟩
    refine ⟨v, rfl, v, .ty "str", _, _, _, rfl, .ty "str", dp_ty hv, kit_str K d, _, rfl, ?_⟩
    rcases h with ⟨i, z, hi, rfl, q⟩ | ⟨hno, q⟩
    · have hd : d = .str z := by cases hv; rfl
      subst hd
      have hz : z ∈ labRow := List.mem_of_getElem? hi
      have i4 : i < 4 := List.getElem?_eq_some_iff.mp hi |>.1
      refine iteF ⟨V.str z, rfl, aR, _, rfl, .inr (hR H), rfl, by decide, _, rfl, ?_⟩
      have e1 : inV (V.str z) (labRow.map V.str) = true := by rw [inV_row, decide_eq_true hz]
      simp only [e1]
      refine iteF ⟨V.str z, rfl, .ref a, rfl, a, C, dx, [], rfl, ea, T.cl, T.nn, by decide, ?_⟩
      refine ⟨aR, _, rfl, .inr (hR _), .inr (.inl ⟨rfl, oR, lR, cR, dR⟩), V.str z, rfl, ?_⟩
      have at_ : ∀ m, m < i → labRow[m]? ≠ some z := fun m hm => by
        rcases row_str hi with ⟨e, e'⟩ | ⟨e, e'⟩ | ⟨e, e'⟩ | ⟨e, e'⟩ <;> subst e e'
        · omega
        · obtain rfl : m = 0 := by omega
          decide
        · rcases (show m = 0 ∨ m = 1 by omega) with e | e <;> subst e <;> decide
        · rcases (show m = 0 ∨ m = 1 ∨ m = 2 by omega) with e | e | e <;> subst e <;> decide
      refine ⟨aR, labRow, z, i, rfl, rfl, hR _, hi, at_, ?_⟩
      refine ⟨_, _, rfl, rfl, .ref a, rfl, a, C, dx, _, rfl, upd_same, T.cl, T.nh, (by show (1 : Nat) < 1000; decide), ?_⟩
      rw [upd_twice]
      refine q _ ?_ rfl rfl rfl
      have e4 : ((List.map V.str labRow).length : Int) = 4 := by decide
      rw [e4]
      rfl
    · have out : spOut H v CB E := q
      cases hv with
      | str z =>
        have hz : z ∉ labRow := of_decide_eq_true hno
        refine iteF ⟨V.str z, rfl, aR, _, rfl, .inr (hR H), rfl, by decide, _, rfl, ?_⟩
        have e1 : inV (V.str z) (labRow.map V.str) = false := by rw [inV_row, decide_eq_false hz]
        simp only [e1]
        exact iteT ⟨V.str z, rfl, by show (1 : Nat) ≤ 1000; decide, mk_left out⟩
      | non => exact iteT (iteT ⟨_, rfl, by show (1 : Nat) ≤ 1000; decide, mk_left out⟩)
      | bl b => exact iteT (iteT ⟨_, rfl, by show (1 : Nat) ≤ 1000; decide, mk_left out⟩)
      | int b => exact iteT (iteT ⟨_, rfl, by show (1 : Nat) ≤ 1000; decide, mk_left out⟩)
      | lst h1 h2 => exact iteT (iteT ⟨_, rfl, by show (1 : Nat) ≤ 1000; decide, mk_left out⟩)
      | tup h1 h2 => exact iteT (iteT ⟨_, rfl, by show (1 : Nat) ≤ 1000; decide, mk_left out⟩)
theorem ok_labEq {C f : Addr} {fd : FuncData} (F : Fun K "__eq__" "Label.__eq__" sLabEq f fd) (M : Blt mg) (T : LabC K mg C) : FnOk P w K mg base CX0 1 f fd ["self", "other"] (spLabEq K C) := by
  refine F.ok scLabEq (fun vs H Q E h => ?_) (fun cdv A outer s H vs Q E hr h => ?_)
  · obtain ⟨a, i, y, rfl, _⟩ := h
    rfl
  · obtain ⟨a, i, y, rfl, ⟨dx, fs, z, ea, hi, ha, na, _⟩, h⟩ := h
    refine ⟨_, pss_one (ps_ret (pe_and (pe_callB call_isi (by rfl) M.isinstance (by decide +kernel) (pa_cons (pv 1) (pa_cons (pe_glob (v := .ref C) (by rfl) T.gC rfl) pa_nil)))
      (pe_one (pe_cmpR op_eq (pe_fld (pv 0) (by rfl)) (pe_fld (pv 1) (by rfl)) (nomark _))))), ?_⟩
    rcases h with ⟨b, j, rfl, ⟨dy, gs, z2, eb, hj, hb, nb, _⟩, q⟩ | ⟨z2, rfl, q⟩
    · refine ⟨_, rfl, _, _, _, _, _, rfl, .own C, .base (.ins eb T.cl T.ca T.cg T.ct T.cm), T.me, _, rfl, iteT ?_⟩
      refine ⟨_, rfl, a, C, dx, fs, _, rfl, ea, T.cl, T.nh, ha, _, rfl, b, C, dy, gs, _, rfl, eb, T.cl, T.nh, hb, rfl, ?_⟩
      have e : decide (V.int (4 - (i : Int)) = V.int (4 - (j : Int))) = decide (i = j) := by
        by_cases h : i = j
        · subst h
          rw [decide_eq_true rfl, decide_eq_true rfl]
        · rw [decide_eq_false h, decide_eq_false (fun z => h (by have := V.int.inj z; omega))]
      rw [e]
      exact q
    · exact ⟨_, rfl, _, _, _, _, _, rfl, .own C, .base (.str z2), T.ot, _, rfl, iteF q⟩
theorem ok_labLt {C f : Addr} {fd : FuncData} (F : Fun K "__lt__" "Label.__lt__" sLabLt f fd) (M : Blt mg) (T : LabC K mg C) : FnOk P w K mg base CX0 1 f fd ["self", "other"] (spLabLt C) := by
  refine F.ok scLabLt (fun vs H Q E h => ?_) (fun cdv A outer s H vs Q E hr h => ?_)
  · obtain ⟨a, b, i, j, rfl, _⟩ := h
    rfl
  · obtain ⟨a, b, i, j, rfl, ⟨dx, fs, z, ea, hi, ha, na, _⟩, ⟨dy, gs, z2, eb, hj, hb, nb, _⟩, q⟩ := h
    refine ⟨_, pss_cons (ps_if (pt_not (pt_val (pe_callB call_isi (by rfl) M.isinstance (by decide +kernel) (pa_cons (pv 1) (pa_cons (pe_glob (v := .ref C) (by rfl) T.gC rfl) pa_nil))))) (pss_one ps_never) pss_nil)
      (pss_one (ps_ret (pe_cmpR op_lt (pe_fld (pv 0) (by rfl)) (pe_fld (pv 1) (by rfl)) (nomark _)))), ?_⟩
    refine ⟨_, rfl, _, _, _, _, _, rfl, .own C, .base (.ins eb T.cl T.ca T.cg T.ct T.cm), T.me, _, rfl, iteF ?_⟩
    refine ⟨_, rfl, a, C, dx, fs, _, rfl, ea, T.cl, T.nh, ha, _, rfl, b, C, dy, gs, _, rfl, eb, T.cl, T.nh, hb, _, _, rfl, rfl, ?_⟩
    have e : decide ((4 - (i : Int)) < 4 - (j : Int)) = decide (j < i) := by
      by_cases h : j < i
      · rw [decide_eq_true h, decide_eq_true (by omega)]
      · rw [decide_eq_false h, decide_eq_false (by omega)]
    rw [← e] at q
    exact q
theorem ok_labLe {C f : Addr} {fd : FuncData} (F : Fun K "__le__" "Label.__le__" sLabLe f fd) (M : Blt mg) (T : LabC K mg C) : FnOk P w K mg base CX0 1 f fd ["self", "other"] (spLabLe C) := by
  refine F.ok scLabLe (fun vs H Q E h => ?_) (fun cdv A outer s H vs Q E hr h => ?_)
  · obtain ⟨a, b, i, j, rfl, _⟩ := h
    rfl
  · obtain ⟨a, b, i, j, rfl, ⟨dx, fs, z, ea, hi, ha, na, _⟩, ⟨dy, gs, z2, eb, hj, hb, nb, _⟩, q⟩ := h
    refine ⟨_, pss_cons (ps_if (pt_not (pt_val (pe_callB call_isi (by rfl) M.isinstance (by decide +kernel) (pa_cons (pv 1) (pa_cons (pe_glob (v := .ref C) (by rfl) T.gC rfl) pa_nil))))) (pss_one ps_never) pss_nil)
      (pss_one (ps_ret (pe_cmpR op_le (pe_fld (pv 0) (by rfl)) (pe_fld (pv 1) (by rfl)) (nomark _)))), ?_⟩
    refine ⟨_, rfl, _, _, _, _, _, rfl, .own C, .base (.ins eb T.cl T.ca T.cg T.ct T.cm), T.me, _, rfl, iteF ?_⟩
    refine ⟨_, rfl, a, C, dx, fs, _, rfl, ea, T.cl, T.nh, ha, _, rfl, b, C, dy, gs, _, rfl, eb, T.cl, T.nh, hb, _, _, rfl, rfl, ?_⟩
    have e : decide ((4 - (i : Int)) ≤ 4 - (j : Int)) = decide (j ≤ i) := by
      by_cases h : j ≤ i
      · rw [decide_eq_true h, decide_eq_true (by omega)]
      · rw [decide_eq_false h, decide_eq_false (by omega)]
    rw [← e] at q
    exact q
/-- Label(name), the name number i, in a def that lets nothing out: a new label -/
theorem lab_made {H H1 : Hp} {C CB : Addr} {E : XK} {Q : VK} {i : Nat} {z : Str} (hi : labRow[i]? = some z) (s0 : Same H H1) (h : ∀ x H', H1 x = none → Same H H' → Same H1 H' → LabAt H' C x i → Q (.ref x) H') :
    ∀ x dx, H1 x = none → H1 dx = none → dx ≠ x → spLab K C CB [.ref x, .str z] (upd (upd H1 dx (.own x)) x (.ins C dx [])) (fun v H2 => v = .non ∧ Q (.ref x) H2) E := fun x dx nx nd ne => by
  refine ⟨x, dx, _, _, rfl, upd_same, .str z, .inl ⟨i, z, hi, rfl, fun fs f1 f2 f3 f4 => ⟨rfl, ?_⟩⟩⟩
  have s1 : Same H1 (upd (upd (upd H1 dx (.own x)) x (.ins C dx [])) x (.ins C dx fs)) := fun b o e => by
    rw [upd_ne (ne_of_none e nx), upd_ne (ne_of_none e nx), upd_ne (ne_of_none e nd)]
    exact e
  exact h x _ nx (s0.trans s1) s1 ⟨dx, fs, z, upd_same, hi, f1, f2, f3, f4⟩
/-- what is at hand of the class Label, its __init__ with its promise -/
structure LabM (P : Program) (w : World) (K : PySem.W.Frag) (mg : Str → Option Value) (base : Heap) (C CB f : Addr) (fd : FuncData) : Prop where
  make : Mk K C f
  ok : FnOk P w K mg base (L2.CX P w) 3 f fd ["self", "name"] (spLab K C CB)
  bi : Binds K fd ["self", "name"] []
  gC : mg "Label" = some (.ref C)
/-- the labels above the one number i, from the next one up: a new list -/
def Higher (H : Hp) (C : Addr) (i : Nat) (ys : List V) : Prop := ys.length = i ∧ ∀ k v, ys[k]? = some v → ∃ a, v = .ref a ∧ LabAt H C a (i - 1 - k)
def spHigh (K : PySem.W.Frag) (C : Addr) : Sp := fun vs H Q _ => ∃ (a : Addr) (i : Nat), vs = [.ref a] ∧ LabAt H C a i ∧ ∀ l ys H', Same H H' → H' l = some (.lst ys) → Higher H' C i ys → Q (.ref l) H'
theorem take_rev {i k : Nat} (hi : i ≤ 4) (hk : k < i) : ((labRow.map V.str).take i).reverse[k]? = (labRow[i - 1 - k]?).map V.str := by
  have len : (labRow.map V.str).length = 4 := rfl
  rw [List.getElem?_reverse (by rw [List.length_take, len]; omega), List.length_take, len, List.getElem?_take_of_lt (by omega), List.getElem?_map]
  congr 2
  omega
theorem cut_to (i : Nat) (hi : i < 4) : cutV (labRow.map V.str) none (some (i : Int)) = (labRow.map V.str).take i := by
  rcases (show i = 0 ∨ i = 1 ∨ i = 2 ∨ i = 3 by omega) with e | e | e | e <;> subst e <;> rfl
end
/-! ### to_label -/
abbrev sToLab : Stmt := topS 51
theorem scToLab : FnScope ["value"] ["value"] (defScope sToLab) := ⟨rfl, rfl, rfl, by decide +kernel, rfl, by decide +kernel, by decide +kernel⟩
/-- no datum is of the class C -/
def NoKit (K : PySem.W.Frag) (C : Addr) : Prop := ∀ d : PyData, PySem.W.kitOne K (.type (kind d)) (.ref C) = some false
def spToLab (K : PySem.W.Frag) (C CB : Addr) : Sp := fun vs H Q E => ∃ v, vs = [v] ∧
  ((∃ a i, v = .ref a ∧ LabAt H C a i ∧ ∀ H', Same H H' → Q v H') ∨
   (∃ i z, labRow[i]? = some z ∧ v = .str z ∧ ∀ x H', Same H H' → LabAt H' C x i → Q (.ref x) H') ∨
   (∃ d, Dp K H v d ∧ noLab d = true ∧ ∀ dd H', Left H dd "label" v H' → E (.ref CB) (some dd) H'))
theorem Left.back {H H1 H' : Hp} {d : Addr} {f : Str} {v : V} (h : Left H1 d f v H') (s : Same H H1) : Left H d f v H' := by
  obtain ⟨n, s2, e⟩ := h
  exact ⟨s.free n, s.trans s2, e⟩
theorem made_same {H : Hp} {x dx C : Addr} (nx : H x = none) (nd : H dx = none) : Same H (upd (upd H dx (.own x)) x (.ins C dx [])) := fun b o e => by
  rw [upd_ne (ne_of_none e nx), upd_ne (ne_of_none e nd)]
  exact e
section
variable {P : Program} {w : World} {K : PySem.W.Frag} {mg : Str → Option Value} {base : Heap}
theorem ok_toLab {C CB f fL : Addr} {fd fdL : FuncData} (F : Fun K "to_label" "to_label" sToLab f fd) (M : Blt mg) (T : LabC K mg C) (N : NoKit K C) (L : LabM P w K mg base C CB fL fdL) : FnOk P w K mg base (L2.CX P w) 5 f fd ["value"] (spToLab K C CB) := by
  refine F.okX scToLab (fun vs H Q E h => ?_) (fun cdv A outer s H vs Q E hr h => ?_)
  · obtain ⟨v, rfl, _⟩ := h
    rfl
  · obtain ⟨v, rfl, h⟩ := h
    refine ⟨_, pss_cons (ps_if (pt_val (pe_callB call_isi (by rfl) M.isinstance (by decide +kernel) (pa_cons (pv 0) (pa_cons (pe_glob (v := .ref C) (by rfl) T.gC rfl) pa_nil)))) (pss_one (ps_ret (pv 0))) pss_nil)
      (pss_one (ps_ret (pe_make (E := E) (dvs := []) L.make L.ok hr (by rfl) L.gC L.bi .nil (passes_call (takes_of rfl rfl rfl rfl) (fun _ _ _ _ h => h)) (pa_cons (pv 0) pa_nil)))), ?_⟩
    rcases h with ⟨a, i, rfl, la, q⟩ | ⟨i, z, hi, rfl, q⟩ | ⟨d, hv, hno, out⟩
    · obtain ⟨dx, fs, z, ea, _⟩ := id la
      exact ⟨_, rfl, _, _, _, _, _, rfl, .own C, .base (.ins ea T.cl T.ca T.cg T.ct T.cm), T.me, _, rfl, iteT ⟨_, rfl, q H (Same.refl H)⟩⟩
    · refine ⟨_, rfl, _, _, _, _, _, rfl, .own C, .base (.str z), T.ot, _, rfl, iteF ?_⟩
      exact ⟨_, rfl, lab_made hi (Same.refl H) fun x H' nx s1 _ lx => q x H' s1 lx⟩
    · refine ⟨_, rfl, _, _, _, _, _, rfl, .own C, dp_ty hv, N d, _, rfl, iteF ?_⟩
      refine ⟨v, rfl, fun x dx nx nd ne => ⟨x, dx, v, d, rfl, upd_same, dp_same (made_same nx nd) hv, .inr ⟨hno, fun dd H' l => out dd H' (l.back (made_same nx nd))⟩⟩⟩
end
/-! ### _are_writes -/
abbrev sAreW : Stmt := topS 56
theorem scAreW : FnScope ["value", "names", "entry"] ["value"] (defScope sAreW) := ⟨rfl, rfl, rfl, by decide +kernel, rfl, by decide +kernel, by decide +kernel⟩
def isSeq : PyData → Bool
  | .list _ => true
  | .tuple _ => true
  | _ => false
theorem kit_seq (K : PySem.W.Frag) (d : PyData) : PySem.W.kitAny K (.type (kind d)) [.type "list", .type "tuple"] = some (isSeq d) := by
  have hl : PySem.W.kitOne K (.type (kind d)) (.type "list") = some (match d with | .list _ => true | _ => false) := by
    cases d with
    | none => exact kit_ty (show kitB "NoneType" "list" = some false by decide +kernel)
    | bool _ => exact kit_ty (show kitB "bool" "list" = some false by decide +kernel)
    | int _ => exact kit_ty (show kitB "int" "list" = some false by decide +kernel)
    | str _ => exact kit_ty (show kitB "str" "list" = some false by decide +kernel)
    | list _ => exact kit_ty (show kitB "list" "list" = some true by decide +kernel)
    | tuple _ => exact kit_ty (show kitB "tuple" "list" = some false by decide +kernel)
    | dict _ => exact kit_ty (show kitB "dict" "list" = some false by decide +kernel)
  have ht := kit_tup K d
  cases d <;> simp [PySem.W.kitAny, hl, ht, isSeq, isTup]
/-- what is asked of one entry -/
def entryOk (seen : List Str) : PyData → Option Str
  | .tuple [.str z, _] => if isName (.str z) && !decide (z ∈ seen) then some z else none
  | _ => none
/-- the writes behind some whose names are seen -/
def writesGo : List Str → List PyData → Bool
  | _, [] => true
  | seen, d :: r => match entryOk seen d with
    | some z => writesGo (seen ++ [z]) r
    | none => false
def areWrites : PyData → Bool
  | .list ds => decide (ds.length ≤ 3) && writesGo [] ds
  | .tuple ds => decide (ds.length ≤ 3) && writesGo [] ds
  | _ => false
theorem inV_strs (z : Str) (seen : List Str) : inV (V.str z) (seen.map V.str) = decide (z ∈ seen) := by
  rw [Bool.eq_iff_iff]
  unfold inV
  rw [List.any_eq_true, decide_eq_true_eq]
  constructor
  · rintro ⟨y, hy, e⟩
    obtain ⟨w, hw, rfl⟩ := List.mem_map.mp hy
    have e' : (w == z) = true := e
    exact (beq_iff_eq.mp e') ▸ hw
  · intro h
    exact ⟨V.str z, List.mem_map.mpr ⟨z, h, rfl⟩, (beq_self_eq_true z : (z == z) = true)⟩
theorem flat_strs (seen : List Str) : (seen.map V.str).all flatV = true := by
  rw [List.all_map]
  exact List.all_eq_true.mpr fun _ _ => rfl
theorem szD_item {ds : List PyData} {i : Nat} {d : PyData} (h : szDs ds = true) (e : ds[i]? = some d) : szD d = true := by
  induction ds generalizing i with
  | nil => simp at e
  | cons c ds ih =>
    have h2 : (szD c && szDs ds) = true := by
      unfold szDs at h
      exact h
    rw [Bool.and_eq_true] at h2
    cases i with
    | zero =>
      cases e
      exact h2.1
    | succ i => exact ih h2.2 e
theorem szD_seqL {ds : List PyData} (h : szD (.list ds) = true) : szDs ds = true := by
  unfold szD at h
  exact (Bool.and_eq_true_iff.mp h).2
theorem szD_seqT {ds : List PyData} (h : szD (.tuple ds) = true) : szDs ds = true := by
  unfold szD at h
  exact (Bool.and_eq_true_iff.mp h).2
theorem iteS {c A B : Prop} [Decidable c] (hc : ¬ c) (h : A) : if (!decide c) = true then A else B := by
  rw [decide_eq_false hc]
  exact iteT h
/-- what is at hand of the module of functions -/
structure FunTxt (K : PySem.W.Frag) (mg : Str → Option Value) : Prop where
  most : ∃ t, mg "MOST_WRITES" = some (.int 3 t)
  cost : ∃ t, mg "GREATEST_COST" = some (.int 99 t)
section
variable {P : Program} {w : World} {K : PySem.W.Frag} {mg : Str → Option Value} {base : Heap}
theorem ok_areW {f fN : Addr} {fd dN : FuncData} (F : Fun K "_are_writes" "_are_writes" sAreW f fd) (M : Blt mg) (T : FunTxt K mg) (GN : FnOk P w K mg base CX0 1 fN dN ["value"] (spB K isName)) (kN : PySem.W.keepIn K (.ref fN) = true) (bN : Binds K dN ["value"] []) (gN : mg "is_name" = some (.ref fN)) :
    FnOk P w K mg base CX0 2 f fd ["value"] (spB K areWrites) := by
  obtain ⟨tm, gm⟩ := T.most
  refine F.ok scAreW (fun vs H Q E h => ?_) (fun cdv A outer s H vs Q E hr h => ?_)
  · obtain ⟨v, d, rfl, _⟩ := h
    rfl
  · obtain ⟨v, d, rfl, hv, hsz, q⟩ := h
    have no : ∀ e : isSeq d = false, areWrites d = false := fun e => by cases d <;> first | rfl | exact Bool.noConfusion e
    by_cases hq : isSeq d = true
    · cases d with
      | list ds =>
        cases hv with
        | @lst a xs _ hs ha =>
        have hv : Dp K H (.ref a) (.list ds) := .lst hs ha
        refine ⟨_, pss_cons (ps_if (PW.pt (pw_or (pt_not (pt_val (pe_callB call_isiT (by rfl) M.isinstance (by decide +kernel) (pa_cons (pv 0) (pa_cons (pe_tup (pa_cons (pe_bltn (v := .ty "list") (by rfl) M.list (by decide +kernel) rfl) (pa_cons (pe_bltn (v := .ty "tuple") (by rfl) M.tuple (by decide +kernel) rfl) pa_nil))) pa_nil)))))
          (pw_or1 (pt_cmpR op_gt (pe_callB call_len_seq (by rfl) M.len PySem.boot_len (pa_cons (pv 0) pa_nil)) (pe_glob (v := .int 3) (by rfl) gm ⟨_, rfl⟩) (nomark _))))) (pss_one (ps_ret pe_bl)) pss_nil)
        (pss_cons (ps_set (i := 1) scAreW.nd rfl (.inl rfl) (pe_lst pa_nil))
        (pss_cons (ps_for PassesOwn.never rfl (pi_list (pv 0)) (pg_name (i := 2) scAreW.nd rfl (.inl rfl))
          (pss_cons (ps_if (PW.pt (pw_or (pt_not (pt_val (pe_callB call_isi (by rfl) M.isinstance (by decide +kernel) (pa_cons (pv 2) (pa_cons (pe_bltn (v := .ty "tuple") (by rfl) M.tuple (by decide +kernel) rfl) pa_nil)))))
            (pw_or (pt_cmpR op_ne (pe_callB call_len_seq (by rfl) M.len PySem.boot_len (pa_cons (pv 2) pa_nil)) pe_int (nomark _))
            (pw_or1 (pt_not (pt_val (pe_call GN hr (by rfl) gN kN bN .nil pass0 (pa_cons (pe_ix ix_tup (pv 2) pe_int (fun _ _ => rfl)) pa_nil)))))))) (pss_one (ps_ret pe_bl)) pss_nil)
          (pss_cons (ps_if (pt_cmpR op_in_seq (pe_ix ix_tup (pv 2) pe_int (fun _ _ => rfl)) (pv 1) (by rfl)) (pss_one (ps_ret pe_bl)) pss_nil)
          (pss_one (ps_expr (pe_bm PySem.F.plainAttrs_list PySem.F.slot_list_append PySem.F.type_list_append mt_append (pv 1) (pa_cons (pe_ix ix_tup (pv 2) pe_int (fun _ _ => rfl)) pa_nil)))))))
        (pss_one (ps_ret pe_bl)))), ?_⟩
        refine ⟨.ref a, rfl, (by show 2 ≤ sizeLine; decide), fun tp np => ⟨.ref a, tp, [.ty "list", .ty "tuple"], _, [.type "list", .type "tuple"], _, rfl, upd_same, .cons (.ty "list") (.cons (.ty "tuple") .nil), dp_ty (dp_same (same_upd np) hv), kit_seq K _, _, rfl, ?_⟩⟩
        have s0 : Same H (upd H tp (HO.tup [.ty "list", .ty "tuple"])) := same_upd np
        refine iteF ⟨_, rfl, a, xs, rfl, .inl (s0.seq hs), _, _, rfl, rfl, _, rfl, ?_⟩
        have len := dpA_len ha
        have qf : ∀ H', Same H H' → areWrites (.list ds) = false → Q (.bl false) H' := fun H' s e => by
          have := q H' s
          rw [e] at this
          exact this
        refine ite2 (fun t => ?_) (fun t => ?_)
        · refine qf _ s0 ?_
          have : ¬ ds.length ≤ 3 := by
            have h4 := of_decide_eq_true t
            omega
          show (decide (ds.length ≤ 3) && writesGo [] ds) = false
          rw [decide_eq_false this]
          rfl
        · have h3 : ds.length ≤ 3 := by
            have : ¬ ((xs.length : Int) > 3) := fun h => t (decide_eq_true h)
            omega
          have qb : ∀ b H', Same H H' → writesGo [] ds = b → Q (.bl b) H' := fun b H' s e => by
            have := q H' s
            have e2 : areWrites (.list ds) = b := by
              show (decide (ds.length ≤ 3) && writesGo [] ds) = b
              rw [decide_eq_true h3, Bool.true_and, e]
            rw [e2] at this
            exact this
          refine ⟨(by show 0 ≤ sizeLine; decide), fun ln nn => ?_⟩
          have e1 := upd_same (H := upd H tp (HO.tup [V.ty "list", .ty "tuple"])) (a := ln) (o := HO.lst [])
          have nH : H ln = none := s0.free nn
          have s1 : Same H (upd (upd H tp (HO.tup [V.ty "list", .ty "tuple"])) ln (HO.lst [])) := s0.trans (same_upd nn)
          generalize upd (upd H tp (HO.tup [V.ty "list", .ty "tuple"])) ln (HO.lst []) = H1 at e1 s1 ⊢
          refine ⟨.ref a, rfl, a, rfl, ⟨_, s1.seq hs⟩, ?_⟩
          refine for_list (K := K) (a := a) (xs := xs) (fun k σ H' => ∃ (seen : List Str) (z2 : Option V), σ = [some (.ref a), some (.ref ln), z2] ∧ H' ln = some (.lst (seen.map V.str)) ∧ Same H H' ∧ writesGo [] ds = writesGo seen (ds.drop k) ∧ seen.length = k)
            ⟨[], none, rfl, e1, s1, rfl, rfl⟩ (fun k σ H' _ hW => ?_) (fun k x σ H2 hk hW => ?_) (fun σ H2 hW => ?_)
          · obtain ⟨_, _, _, _, s, _⟩ := hW
            exact s.seq hs
          · obtain ⟨seen, z2, rfl, e2, s2, eg, el⟩ := hW
            obtain ⟨d, hd, hx0⟩ := dpA_at ha hk
            have hx := dp_same s2 hx0
            have szd := szD_item (szD_seqL hsz) hd
            have hdr : ds.drop k = d :: ds.drop (k + 1) := List.drop_eq_getElem_cons (List.getElem?_eq_some_iff.mp hd).1 ▸ by rw [(List.getElem?_eq_some_iff.mp hd).2]
            have stop : entryOk seen d = none → ∀ H', Same H H' → Q (.bl false) H' := fun e H' s => qb _ H' s (by
              rw [eg, hdr]
              unfold writesGo
              rw [e])
            refine ⟨x, rfl, x, _, _, _, _, rfl, .ty "tuple", dp_ty hx, kit_tup K d, _, rfl, ?_⟩
            cases d with
            | tuple es =>
              cases hx with
              | @tup b ys _ hb hy =>
              have ylen := dpA_len hy
              refine iteF ⟨_, rfl, b, ys, rfl, .inr hb, rfl, _, rfl, ?_⟩
              by_cases h2 : es.length = 2
              · obtain ⟨d0, d1, rfl⟩ : ∃ d0 d1, es = [d0, d1] := by
                  match es, h2 with
                  | [d0, d1], _ => exact ⟨d0, d1, rfl⟩
                obtain ⟨y0, ey0, hy0⟩ := dpA_get (i := 0) (d := d0) hy rfl
                have at0 : atI ys 0 = some y0 := atI_nat (j := 0) ey0
                have sz0 : szD d0 = true := szD_item (i := 0) (szD_seqT szd) rfl
                refine iteNS (by rw [ylen]; rfl) ?_
                refine ⟨_, rfl, b, ys, 0, y0, rfl, rfl, hb, at0, ⟨y0, d0, rfl, hy0, sz0, fun H3 s3 => ⟨_, rfl, ?_⟩⟩⟩
                by_cases hn : isName d0 = true
                · obtain ⟨z, rfl⟩ : ∃ z, d0 = .str z := by
                    cases d0 <;> first | exact ⟨_, rfl⟩ | exact Bool.noConfusion hn
                  cases hy0
                  rw [hn]
                  refine iteF ?_
                  have e3 := s3 _ _ e2
                  refine ⟨_, rfl, b, ys, 0, _, rfl, rfl, same_sqT s3 hb, at0, .ref ln, rfl, ln, _, rfl, .inl (.inl (.inl e3)), rfl, flat_strs seen, _, rfl, ?_⟩
                  rw [inV_strs]
                  by_cases hz : z ∈ seen
                  · rw [decide_eq_true hz]
                    refine iteT (stop ?_ H3 (s2.trans s3))
                    show (if (isName (.str z) && !decide (z ∈ seen)) = true then some z else none) = none
                    rw [decide_eq_true hz, Bool.not_true, Bool.and_false]
                    rfl
                  · rw [decide_eq_false hz]
                    refine iteF ?_
                    refine ⟨.ref ln, rfl, .inl ⟨rfl, _, .inl (.inl e3)⟩, _, rfl, b, ys, 0, _, rfl, rfl, same_sqT s3 hb, at0, ln, _, _, rfl, rfl, e3, ?_, ?_⟩
                    · rw [List.length_map, el]
                      have := (List.getElem?_eq_some_iff.mp hk).1
                      exact Nat.lt_of_lt_of_le (Nat.lt_of_lt_of_le this (by rw [len]; exact h3)) (by decide)
                    · refine ⟨seen ++ [z], some (.ref b), rfl, ?_, fun c o e => ?_, ?_, ?_⟩
                      · rw [List.map_append]
                        exact upd_same
                      · rw [upd_ne (ne_of_none e nH)]
                        exact s3 _ _ (s2 _ _ e)
                      · rw [eg, hdr]
                        show (match entryOk seen (.tuple [.str z, d1]) with | some z => writesGo (seen ++ [z]) (ds.drop (k + 1)) | none => false) = _
                        have ee : entryOk seen (.tuple [.str z, d1]) = some z := by
                          show (if (isName (.str z) && !decide (z ∈ seen)) = true then some z else none) = some z
                          rw [hn, decide_eq_false hz]
                          rfl
                        rw [ee]
                      · rw [List.length_append, el]
                        rfl
                · have hn0 := eq_false_of_ne_true hn
                  rw [hn0]
                  refine iteT (stop ?_ H3 (s2.trans s3))
                  cases d0 with
                  | str z =>
                    show (if (isName (.str z) && !decide (z ∈ seen)) = true then some z else none) = none
                    rw [hn0]
                    rfl
                  | _ => rfl
              · refine iteS (by
                  rw [ylen]
                  intro e
                  exact h2 (by exact_mod_cast V.int.inj e)) ?_
                refine stop ?_ H2 s2
                match es, h2 with
                | [], _ => rfl
                | [_], _ => unfold entryOk; split <;> first | rfl | (next e => cases e)
                | [_, _], h => exact absurd rfl h
                | _ :: _ :: _ :: _, _ => unfold entryOk; split <;> first | rfl | (next e => cases e)
            | none => exact iteT (stop rfl H2 s2)
            | bool _ => exact iteT (stop rfl H2 s2)
            | int _ => exact iteT (stop rfl H2 s2)
            | str _ => exact iteT (stop rfl H2 s2)
            | list _ => exact iteT (stop rfl H2 s2)
            | dict _ => exact iteT (stop rfl H2 s2)
          · obtain ⟨seen, z2, rfl, e2, s2, eg, el⟩ := hW
            refine qb true H2 s2 ?_
            rw [eg, len, List.drop_length]
            unfold writesGo
            rfl
      | tuple ds =>
        cases hv with
        | @tup a xs _ hs ha =>
        have hv : Dp K H (.ref a) (.tuple ds) := .tup hs ha
        refine ⟨_, pss_cons (ps_if (PW.pt (pw_or (pt_not (pt_val (pe_callB call_isiT (by rfl) M.isinstance (by decide +kernel) (pa_cons (pv 0) (pa_cons (pe_tup (pa_cons (pe_bltn (v := .ty "list") (by rfl) M.list (by decide +kernel) rfl) (pa_cons (pe_bltn (v := .ty "tuple") (by rfl) M.tuple (by decide +kernel) rfl) pa_nil))) pa_nil)))))
          (pw_or1 (pt_cmpR op_gt (pe_callB call_len_seq (by rfl) M.len PySem.boot_len (pa_cons (pv 0) pa_nil)) (pe_glob (v := .int 3) (by rfl) gm ⟨_, rfl⟩) (nomark _))))) (pss_one (ps_ret pe_bl)) pss_nil)
        (pss_cons (ps_set (i := 1) scAreW.nd rfl (.inl rfl) (pe_lst pa_nil))
        (pss_cons (ps_for PassesOwn.never rfl (pi_tup (pv 0)) (pg_name (i := 2) scAreW.nd rfl (.inl rfl))
          (pss_cons (ps_if (PW.pt (pw_or (pt_not (pt_val (pe_callB call_isi (by rfl) M.isinstance (by decide +kernel) (pa_cons (pv 2) (pa_cons (pe_bltn (v := .ty "tuple") (by rfl) M.tuple (by decide +kernel) rfl) pa_nil)))))
            (pw_or (pt_cmpR op_ne (pe_callB call_len_seq (by rfl) M.len PySem.boot_len (pa_cons (pv 2) pa_nil)) pe_int (nomark _))
            (pw_or1 (pt_not (pt_val (pe_call GN hr (by rfl) gN kN bN .nil pass0 (pa_cons (pe_ix ix_tup (pv 2) pe_int (fun _ _ => rfl)) pa_nil)))))))) (pss_one (ps_ret pe_bl)) pss_nil)
          (pss_cons (ps_if (pt_cmpR op_in_seq (pe_ix ix_tup (pv 2) pe_int (fun _ _ => rfl)) (pv 1) (by rfl)) (pss_one (ps_ret pe_bl)) pss_nil)
          (pss_one (ps_expr (pe_bm PySem.F.plainAttrs_list PySem.F.slot_list_append PySem.F.type_list_append mt_append (pv 1) (pa_cons (pe_ix ix_tup (pv 2) pe_int (fun _ _ => rfl)) pa_nil)))))))
        (pss_one (ps_ret pe_bl)))), ?_⟩
        refine ⟨.ref a, rfl, (by show 2 ≤ sizeLine; decide), fun tp np => ⟨.ref a, tp, [.ty "list", .ty "tuple"], _, [.type "list", .type "tuple"], _, rfl, upd_same, .cons (.ty "list") (.cons (.ty "tuple") .nil), dp_ty (dp_same (same_upd np) hv), kit_seq K _, _, rfl, ?_⟩⟩
        have s0 : Same H (upd H tp (HO.tup [.ty "list", .ty "tuple"])) := same_upd np
        refine iteF ⟨_, rfl, a, xs, rfl, .inr (same_sqT s0 hs), _, _, rfl, rfl, _, rfl, ?_⟩
        have len := dpA_len ha
        have qf : ∀ H', Same H H' → areWrites (.tuple ds) = false → Q (.bl false) H' := fun H' s e => by
          have := q H' s
          rw [e] at this
          exact this
        refine ite2 (fun t => ?_) (fun t => ?_)
        · refine qf _ s0 ?_
          have : ¬ ds.length ≤ 3 := by
            have h4 := of_decide_eq_true t
            omega
          show (decide (ds.length ≤ 3) && writesGo [] ds) = false
          rw [decide_eq_false this]
          rfl
        · have h3 : ds.length ≤ 3 := by
            have : ¬ ((xs.length : Int) > 3) := fun h => t (decide_eq_true h)
            omega
          have qb : ∀ b H', Same H H' → writesGo [] ds = b → Q (.bl b) H' := fun b H' s e => by
            have := q H' s
            have e2 : areWrites (.tuple ds) = b := by
              show (decide (ds.length ≤ 3) && writesGo [] ds) = b
              rw [decide_eq_true h3, Bool.true_and, e]
            rw [e2] at this
            exact this
          refine ⟨(by show 0 ≤ sizeLine; decide), fun ln nn => ?_⟩
          have e1 := upd_same (H := upd H tp (HO.tup [V.ty "list", .ty "tuple"])) (a := ln) (o := HO.lst [])
          have nH : H ln = none := s0.free nn
          have s1 : Same H (upd (upd H tp (HO.tup [V.ty "list", .ty "tuple"])) ln (HO.lst [])) := s0.trans (same_upd nn)
          generalize upd (upd H tp (HO.tup [V.ty "list", .ty "tuple"])) ln (HO.lst []) = H1 at e1 s1 ⊢
          refine ⟨.ref a, rfl, a, rfl, ⟨_, same_sqT s1 hs⟩, ?_⟩
          refine for_tup (K := K) (a := a) (xs := xs) (fun k σ H' => ∃ (seen : List Str) (z2 : Option V), σ = [some (.ref a), some (.ref ln), z2] ∧ H' ln = some (.lst (seen.map V.str)) ∧ Same H H' ∧ writesGo [] ds = writesGo seen (ds.drop k) ∧ seen.length = k)
            ⟨[], none, rfl, e1, s1, rfl, rfl⟩ (fun k σ H' _ hW => ?_) (fun k x σ H2 hk hW => ?_) (fun σ H2 hW => ?_)
          · obtain ⟨_, _, _, _, s, _⟩ := hW
            exact same_sqT s hs
          · obtain ⟨seen, z2, rfl, e2, s2, eg, el⟩ := hW
            obtain ⟨d, hd, hx0⟩ := dpA_at ha hk
            have hx := dp_same s2 hx0
            have szd := szD_item (szD_seqT hsz) hd
            have hdr : ds.drop k = d :: ds.drop (k + 1) := List.drop_eq_getElem_cons (List.getElem?_eq_some_iff.mp hd).1 ▸ by rw [(List.getElem?_eq_some_iff.mp hd).2]
            have stop : entryOk seen d = none → ∀ H', Same H H' → Q (.bl false) H' := fun e H' s => qb _ H' s (by
              rw [eg, hdr]
              unfold writesGo
              rw [e])
            refine ⟨x, rfl, x, _, _, _, _, rfl, .ty "tuple", dp_ty hx, kit_tup K d, _, rfl, ?_⟩
            cases d with
            | tuple es =>
              cases hx with
              | @tup b ys _ hb hy =>
              have ylen := dpA_len hy
              refine iteF ⟨_, rfl, b, ys, rfl, .inr hb, rfl, _, rfl, ?_⟩
              by_cases h2 : es.length = 2
              · obtain ⟨d0, d1, rfl⟩ : ∃ d0 d1, es = [d0, d1] := by
                  match es, h2 with
                  | [d0, d1], _ => exact ⟨d0, d1, rfl⟩
                obtain ⟨y0, ey0, hy0⟩ := dpA_get (i := 0) (d := d0) hy rfl
                have at0 : atI ys 0 = some y0 := atI_nat (j := 0) ey0
                have sz0 : szD d0 = true := szD_item (i := 0) (szD_seqT szd) rfl
                refine iteNS (by rw [ylen]; rfl) ?_
                refine ⟨_, rfl, b, ys, 0, y0, rfl, rfl, hb, at0, ⟨y0, d0, rfl, hy0, sz0, fun H3 s3 => ⟨_, rfl, ?_⟩⟩⟩
                by_cases hn : isName d0 = true
                · obtain ⟨z, rfl⟩ : ∃ z, d0 = .str z := by
                    cases d0 <;> first | exact ⟨_, rfl⟩ | exact Bool.noConfusion hn
                  cases hy0
                  rw [hn]
                  refine iteF ?_
                  have e3 := s3 _ _ e2
                  refine ⟨_, rfl, b, ys, 0, _, rfl, rfl, same_sqT s3 hb, at0, .ref ln, rfl, ln, _, rfl, .inl (.inl (.inl e3)), rfl, flat_strs seen, _, rfl, ?_⟩
                  rw [inV_strs]
                  by_cases hz : z ∈ seen
                  · rw [decide_eq_true hz]
                    refine iteT (stop ?_ H3 (s2.trans s3))
                    show (if (isName (.str z) && !decide (z ∈ seen)) = true then some z else none) = none
                    rw [decide_eq_true hz, Bool.not_true, Bool.and_false]
                    rfl
                  · rw [decide_eq_false hz]
                    refine iteF ?_
                    refine ⟨.ref ln, rfl, .inl ⟨rfl, _, .inl (.inl e3)⟩, _, rfl, b, ys, 0, _, rfl, rfl, same_sqT s3 hb, at0, ln, _, _, rfl, rfl, e3, ?_, ?_⟩
                    · rw [List.length_map, el]
                      have := (List.getElem?_eq_some_iff.mp hk).1
                      exact Nat.lt_of_lt_of_le (Nat.lt_of_lt_of_le this (by rw [len]; exact h3)) (by decide)
                    · refine ⟨seen ++ [z], some (.ref b), rfl, ?_, fun c o e => ?_, ?_, ?_⟩
                      · rw [List.map_append]
                        exact upd_same
                      · rw [upd_ne (ne_of_none e nH)]
                        exact s3 _ _ (s2 _ _ e)
                      · rw [eg, hdr]
                        show (match entryOk seen (.tuple [.str z, d1]) with | some z => writesGo (seen ++ [z]) (ds.drop (k + 1)) | none => false) = _
                        have ee : entryOk seen (.tuple [.str z, d1]) = some z := by
                          show (if (isName (.str z) && !decide (z ∈ seen)) = true then some z else none) = some z
                          rw [hn, decide_eq_false hz]
                          rfl
                        rw [ee]
                      · rw [List.length_append, el]
                        rfl
                · have hn0 := eq_false_of_ne_true hn
                  rw [hn0]
                  refine iteT (stop ?_ H3 (s2.trans s3))
                  cases d0 with
                  | str z =>
                    show (if (isName (.str z) && !decide (z ∈ seen)) = true then some z else none) = none
                    rw [hn0]
                    rfl
                  | _ => rfl
              · refine iteS (by
                  rw [ylen]
                  intro e
                  exact h2 (by exact_mod_cast V.int.inj e)) ?_
                refine stop ?_ H2 s2
                match es, h2 with
                | [], _ => rfl
                | [_], _ => unfold entryOk; split <;> first | rfl | (next e => cases e)
                | [_, _], h => exact absurd rfl h
                | _ :: _ :: _ :: _, _ => unfold entryOk; split <;> first | rfl | (next e => cases e)
            | none => exact iteT (stop rfl H2 s2)
            | bool _ => exact iteT (stop rfl H2 s2)
            | int _ => exact iteT (stop rfl H2 s2)
            | str _ => exact iteT (stop rfl H2 s2)
            | list _ => exact iteT (stop rfl H2 s2)
            | dict _ => exact iteT (stop rfl H2 s2)
          · obtain ⟨seen, z2, rfl, e2, s2, eg, el⟩ := hW
            refine qb true H2 s2 ?_
            rw [eg, len, List.drop_length]
            unfold writesGo
            rfl
      | _ => exact Bool.noConfusion hq
    · have hq0 := eq_false_of_ne_true hq
      refine ⟨_, pss_cons (ps_if (PW.pt (pw_or (pt_not (pt_val (pe_callB call_isiT (by rfl) M.isinstance (by decide +kernel) (pa_cons (pv 0) (pa_cons (pe_tup (pa_cons (pe_bltn (v := .ty "list") (by rfl) M.list (by decide +kernel) rfl) (pa_cons (pe_bltn (v := .ty "tuple") (by rfl) M.tuple (by decide +kernel) rfl) pa_nil))) pa_nil)))))
          (pw_or1 (pt_cmpR op_gt (pe_callB call_len_seq (by rfl) M.len PySem.boot_len (pa_cons (pv 0) pa_nil)) (pe_glob (v := .int 3) (by rfl) gm ⟨_, rfl⟩) (nomark _))))) (pss_one (ps_ret pe_bl)) pss_nil)
        (pss_cons (ps_set (i := 1) scAreW.nd rfl (.inl rfl) (pe_lst pa_nil))
        (pss_cons (ps_for PassesOwn.never rfl (pi_list (pv 0)) (pg_name (i := 2) scAreW.nd rfl (.inl rfl))
          (pss_cons (ps_if (PW.pt (pw_or (pt_not (pt_val (pe_callB call_isi (by rfl) M.isinstance (by decide +kernel) (pa_cons (pv 2) (pa_cons (pe_bltn (v := .ty "tuple") (by rfl) M.tuple (by decide +kernel) rfl) pa_nil)))))
            (pw_or (pt_cmpR op_ne (pe_callB call_len_seq (by rfl) M.len PySem.boot_len (pa_cons (pv 2) pa_nil)) pe_int (nomark _))
            (pw_or1 (pt_not (pt_val (pe_call GN hr (by rfl) gN kN bN .nil pass0 (pa_cons (pe_ix ix_tup (pv 2) pe_int (fun _ _ => rfl)) pa_nil)))))))) (pss_one (ps_ret pe_bl)) pss_nil)
          (pss_cons (ps_if (pt_cmpR op_in_seq (pe_ix ix_tup (pv 2) pe_int (fun _ _ => rfl)) (pv 1) (by rfl)) (pss_one (ps_ret pe_bl)) pss_nil)
          (pss_one (ps_expr (pe_bm PySem.F.plainAttrs_list PySem.F.slot_list_append PySem.F.type_list_append mt_append (pv 1) (pa_cons (pe_ix ix_tup (pv 2) pe_int (fun _ _ => rfl)) pa_nil)))))))
        (pss_one (ps_ret pe_bl)))), ?_⟩
      refine ⟨v, rfl, (by show 2 ≤ sizeLine; decide), fun tp np => ⟨v, tp, [.ty "list", .ty "tuple"], _, [.type "list", .type "tuple"], _, rfl, upd_same, .cons (.ty "list") (.cons (.ty "tuple") .nil), dp_ty (dp_same (same_upd np) hv), kit_seq K _, _, rfl, ?_⟩⟩
      rw [hq0]
      refine iteT ?_
      have e := no hq0
      have q1 := q _ (same_upd (o := HO.tup [.ty "list", .ty "tuple"]) np)
      rw [e] at q1
      exact q1
end
/-! ### Function.__init__ -/
abbrev sFun : Stmt := inClass (topS 55) 0
theorem scFun : FnScope ["self", "name", "arguments", "result", "label", "writes", "cost", "kept_label", "_", "term"] ["self", "name", "arguments", "result", "label", "writes", "cost"] (defScope sFun) := ⟨rfl, rfl, rfl, by decide +kernel, rfl, by decide +kernel, by decide +kernel⟩
/-- what a Function is refused for -/
inductive FErr where
  | part (z : Str)
  | label (d : PyData)
  | term (d : PyData)
def countOk (m : Int) : PyData → Bool
  | .int i => decide (0 ≤ i) && decide (i ≤ m)
  | _ => false
/-- the first term of writes that is none -/
def badTerm (n : Int) : List PyData → Option PyData
  | [] => none
  | .tuple [_, t] :: r => if isTerm n t then badTerm n r else some t
  | _ :: r => badTerm n r
def entries : PyData → List PyData
  | .list ds => ds
  | .tuple ds => ds
  | _ => []
def numOf : PyData → Int
  | .int i => i
  | _ => 0
/-- lab: none for a Label, else the datum that is there -/
def funOut (dn da dr : PyData) (lab : Option PyData) (dw dc : PyData) : Option FErr :=
  if !isName dn then some (.part "name") else
  if !countOk 2 da then some (.part "arguments") else
  match lab.filter noLab with
  | some d => some (.label d)
  | none =>
    if !isTerm (numOf da) dr then some (.term dr) else
    if !areWrites dw then some (.part "writes") else
    match badTerm (numOf da) (entries dw) with
    | some t => some (.term t)
    | none => if !countOk 99 dc then some (.part "cost") else none
theorem lab_of {d : PyData} (h : noLab d = false) : ∃ (i : Nat) (z : Str), labRow[i]? = some z ∧ d = .str z := by
  cases d with
  | str z =>
    have hz : z ∈ labRow := by
      by_cases e : z ∈ labRow
      · exact e
      · have : noLab (.str z) = true := decide_eq_true e
        rw [this] at h
        cases h
    obtain ⟨i, hi⟩ := List.getElem?_of_mem hz
    exact ⟨i, z, hi, rfl⟩
  | _ => cases h
theorem writes_of : ∀ {d : PyData}, areWrites d = true → writesGo [] (entries d) = true
  | .list ds, h => (Bool.and_eq_true_iff.mp h).2
  | .tuple ds, h => (Bool.and_eq_true_iff.mp h).2
theorem writes_at : ∀ {ds : List PyData} {seen : List Str} {k : Nat} {d : PyData}, writesGo seen ds = true → ds[k]? = some d → ∃ z t, d = .tuple [.str z, t]
  | [], _, _, _, _, e => by simp at e
  | c :: r, seen, k, d, h, e => by
    unfold writesGo at h
    cases ee : entryOk seen c with
    | none =>
      rw [ee] at h
      cases h
    | some z =>
      rw [ee] at h
      cases k with
      | zero =>
        cases e
        unfold entryOk at ee
        split at ee
        · exact ⟨_, _, rfl⟩
        · cases ee
      | succ k => exact writes_at (seen := seen ++ [z]) h e
theorem dp_pair {K : PySem.W.Frag} {H : Hp} {ys : List V} {c d : PyData} (h : DpAll K H ys [c, d]) : ∃ y0 y1, ys = [y0, y1] ∧ Dp K H y0 c ∧ Dp K H y1 d := by
  cases h with
  | cons h1 r =>
    cases r with
    | cons h2 r =>
      cases r
      exact ⟨_, _, rfl, h1, h2⟩
theorem ins_ne {H : Hp} {a b : Addr} {C dx : Addr} {fs : List (Str × V)} {o : HO} (ea : H a = some (.ins C dx fs)) (e : H b = some o) (no : ∀ C dx fs, o ≠ .ins C dx fs) : b ≠ a := fun z => by
  rw [z, ea] at e
  exact no _ _ _ (Option.some.inj e).symm
theorem sqT_aside {K : PySem.W.Frag} {H H' : Hp} {a C dx : Addr} {fs : List (Str × V)} (ea : H a = some (.ins C dx fs)) (hb : ∀ b o, H b = some o → b ≠ a → H' b = some o) {p : Addr} {xs : List V} (h : SqT K H p xs) : SqT K H' p xs := by
  rcases h with (h | ⟨o, h⟩) | h
  · exact .inl (.inl (hb _ _ h (ins_ne ea h fun _ _ _ z => by cases z)))
  · exact .inl (.inr ⟨o, hb _ _ h (ins_ne ea h fun _ _ _ z => by cases z)⟩)
  · exact .inr h
theorem sqL_aside {K : PySem.W.Frag} {H H' : Hp} {a C dx : Addr} {fs : List (Str × V)} (ea : H a = some (.ins C dx fs)) (hb : ∀ b o, H b = some o → b ≠ a → H' b = some o) {p : Addr} {xs : List V} (h : SqL K H p xs) : SqL K H' p xs := by
  rcases h with (h | ⟨o, h⟩) | h
  · exact .inl (.inl (hb _ _ h (ins_ne ea h fun _ _ _ z => by cases z)))
  · exact .inl (.inr ⟨o, hb _ _ h (ins_ne ea h fun _ _ _ z => by cases z)⟩)
  · exact .inr h
theorem dpA_aside {K : PySem.W.Frag} {H H' : Hp} {a C dx : Addr} {fs : List (Str × V)} (ea : H a = some (.ins C dx fs)) (hb : ∀ b o, H b = some o → b ≠ a → H' b = some o) {ds : List PyData} {vs : List V} (h : DpAll K H vs ds) : DpAll K H' vs ds := dpAll_mono (fun _ _ => sqT_aside ea hb) (fun _ _ => sqL_aside ea hb) ds vs h
theorem lab_aside {H H' : Hp} {a C dx : Addr} (ea : H a = some (.ins C dx [])) (hb : ∀ b o, H b = some o → b ≠ a → H' b = some o) {CL x : Addr} {i : Nat} (h : LabAt H CL x i) : LabAt H' CL x i := by
  obtain ⟨dx2, fs, z, e, r1, r2, r3⟩ := h
  refine ⟨dx2, fs, z, hb _ _ e fun q => ?_, r1, r2, r3⟩
  rw [q, ea] at e
  cases e
  cases r2
/-- what is there for a label: an instance with its number, or a datum -/
def LabIn (K : PySem.W.Frag) (H : Hp) (CL : Addr) (v : V) (lab : Option PyData) : Prop := (∃ a i, v = .ref a ∧ lab = none ∧ LabAt H CL a i) ∨ ∃ d, lab = some d ∧ Dp K H v d
/-- the number of the label that such an argument stands for -/
def LabNo (H : Hp) (CL : Addr) (vl : V) (lab : Option PyData) (i : Nat) : Prop := (∃ a, vl = .ref a ∧ lab = none ∧ LabAt H CL a i) ∨ ∃ z, lab = some (.str z) ∧ labRow[i]? = some z
/-- the fields of a Function -/
structure FunAt (K : PySem.W.Frag) (H : Hp) (CF CL : Addr) (dx : Addr) (fs : List (Str × V)) (vn va vr vc : V) (dw : PyData) (no : Nat → Prop) : Prop where
  name : fs.lookup ("name" : Str) = some vn
  args : fs.lookup ("arguments" : Str) = some va
  res : fs.lookup ("result" : Str) = some vr
  cost : fs.lookup ("cost" : Str) = some vc
  lab : ∃ a i, fs.lookup ("label" : Str) = some (.ref a) ∧ LabAt H CL a i ∧ no i
  wr : ∃ b, fs.lookup ("writes" : Str) = some (.ref b) ∧ Dp K H (.ref b) (.tuple (entries dw))
  no1 : fs.lookup ("labelled" : Str) = none
  no2 : fs.lookup ("changed" : Str) = none
  no3 : fs.lookup ("parts" : Str) = none
/-- what is wanted of a Function made, by what it is refused for -/
def FWish (K : PySem.W.Frag) (H : Hp) (CB CP CT : Addr) (vl : V) (E : XK) (ok : Prop) : Option FErr → Prop
  | some (.part z) => ∀ dd H', Left H dd "part" (.str z) H' → E (.ref CP) (some dd) H'
  | some (.label _) => ∀ dd H', Left H dd "label" vl H' → E (.ref CB) (some dd) H'
  | some (.term d) => ∀ v dd H', Dp K H' v d → Left H dd "term" v H' → E (.ref CT) (some dd) H'
  | none => ok
theorem FWish.map {K : PySem.W.Frag} {H H1 : Hp} {CB CP CT : Addr} {vl : V} {E : XK} {ok ok' : Prop} (s : Same H H1) (h : ok → ok') : ∀ {r : Option FErr}, FWish K H CB CP CT vl E ok r → FWish K H1 CB CP CT vl E ok' r
  | some (.part _), o => fun dd H' l => o dd H' (l.back s)
  | some (.label _), o => fun dd H' l => o dd H' (l.back s)
  | some (.term _), o => fun v dd H' hv l => o v dd H' hv (l.back s)
  | none, o => h o
def spFun (K : PySem.W.Frag) (CF CL CB CP CT : Addr) : Sp := fun vs H Q E => ∃ (a dx : Addr) (vn va vr vl vw vc : V) (dn da dr dw dc : PyData) (lab : Option PyData), vs = [.ref a, vn, va, vr, vl, vw, vc] ∧ H a = some (.ins CF dx []) ∧
  Dp K H vn dn ∧ Dp K H va da ∧ Dp K H vr dr ∧ Dp K H vw dw ∧ Dp K H vc dc ∧ LabIn K H CL vl lab ∧ szD dn = true ∧ szD da = true ∧ szD dr = true ∧ szD dw = true ∧ szD dc = true ∧
  FWish K H CB CP CT vl E (∀ fs H', (∀ b o, H b = some o → b ≠ a → H' b = some o) → H' a = some (.ins CF dx fs) → FunAt K H' CF CL dx fs vn va vr vc dw (LabNo H CL vl lab) → Q .non H') (funOut dn da dr lab dw dc)
structure FunC (P : Program) (w : World) (K : PySem.W.Frag) (mg : Str → Option Value) (base : Heap) (CF CL CB CP CT fN fW fL fT fA fP fE : Addr) (dN dW dL dT dA dP dE : FuncData) : Prop where
  GN : FnOk P w K mg base CX0 1 fN dN ["value"] (spB K isName)
  kN : PySem.W.keepIn K (.ref fN) = true
  bN : Binds K dN ["value"] []
  gN : mg "is_name" = some (.ref fN)
  GW : FnOk P w K mg base CX0 1 fW dW ["value"] (spB K isWhole)
  kW : PySem.W.keepIn K (.ref fW) = true
  bW : Binds K dW ["value"] []
  gW : mg "is_whole" = some (.ref fW)
  GL : FnOk P w K mg base (L2.CX P w) 5 fL dL ["value"] (spToLab K CL CB)
  kL : PySem.W.keepIn K (.ref fL) = true
  bL : Binds K dL ["value"] []
  gL : mg "to_label" = some (.ref fL)
  GT : FnOk P w K mg base CX0 5 fT dT ["value", "arguments"] (spBn K isTerm)
  kT : PySem.W.keepIn K (.ref fT) = true
  bT : Binds K dT ["value", "arguments"] []
  gT : mg "is_term" = some (.ref fT)
  GA : FnOk P w K mg base CX0 2 fA dA ["value"] (spB K areWrites)
  kA : PySem.W.keepIn K (.ref fA) = true
  bA : Binds K dA ["value"] []
  gA : mg "_are_writes" = some (.ref fA)
  TP : ErrT K mg "BadPart" "part" CP fP
  GP : FnOk P w K mg base CX0 1 fP dP ["self", "part"] (spErr CP "part")
  bP : Binds K dP ["self", "part"] []
  TE : ErrT K mg "BadTerm" "term" CT fE
  GE : FnOk P w K mg base CX0 1 fE dE ["self", "term"] (spErr CT "term")
  bE : Binds K dE ["self", "term"] []
  most : ∃ t, mg "MOST_ARGUMENTS" = some (.int 2 t)
  cl : Cls K CF
  n1 : NoAttr K CF "name"
  n2 : NoAttr K CF "arguments"
  n3 : NoAttr K CF "result"
  n4 : NoAttr K CF "label"
  n5 : NoAttr K CF "writes"
  n6 : NoAttr K CF "cost"
section
variable {P : Program} {w : World} {K : PySem.W.Frag} {mg : Str → Option Value} {base : Heap}
theorem ok_fun {CF CL CB CP CT f fN fW fL fT fA fP fE : Addr} {fd dN dW dL dT dA dP dE : FuncData} (F : Fun K "__init__" "Function.__init__" sFun f fd) (M : Blt mg) (T : FunTxt K mg) (C : FunC P w K mg base CF CL CB CP CT fN fW fL fT fA fP fE dN dW dL dT dA dP dE) :
    FnOk P w K mg base (L2.CX P w) 6 f fd ["self", "name", "arguments", "result", "label", "writes", "cost"] (spFun K CF CL CB CP CT) := by
  obtain ⟨tm, gm⟩ := C.most
  obtain ⟨tc, gc⟩ := T.cost
  refine F.okX scFun (fun vs H Q E h => ?_) (fun cdv A outer s H vs Q E hr h => ?_)
  · obtain ⟨a, dx, vn, va, vr, vl, vw, vc, dn, da, dr, dw, dc, lab, rfl, _⟩ := h
    rfl
  · obtain ⟨a, dx, vn, va, vr, vl, vw, vc, dn, da, dr, dw, dc, lab, rfl, ea, hn, ha, hre, hw, hc, hl, zn, za, zr, zw, zc, out⟩ := h
    have hr1 : Room 1 (A.deeper (envOfC "Function.__init__" (defScope sFun) s.heap.objs.size f cdv)) := hr.mono (by decide)
    have hr2 : Room 2 (A.deeper (envOfC "Function.__init__" (defScope sFun) s.heap.objs.size f cdv)) := hr.mono (by decide)
    by_cases hq : isTup dw = true
    · refine ⟨_, pss_cons (ps_if (pt_not (pt_val (pe_call C.GN hr1 (by rfl) C.gN C.kN C.bN .nil pass0 (pa_cons (pv 1) pa_nil)))) (pss_one (ps_raise rfl (takes_of rfl rfl rfl rfl) (pmk_oex (k := 1) (ps := ["self", "part"]) (sp := spErr CP "part") (ds := []) (dvs := []) C.TP.oex C.TP.ini C.TP.typ C.GP hr2 C.bP .nil pass0 (by rfl) C.TP.nam (pa_cons pe_str pa_nil)))) pss_nil)
        (pss_cons (ps_if (PW.pt (pw_or (pt_not (pt_val (pe_call C.GW hr1 (by rfl) C.gW C.kW C.bW .nil pass0 (pa_cons (pv 2) pa_nil)))) (pw_or1 (pt_not (pt_chain op_le op_le pe_int (pv 2) (pe_glob (v := .int 2) (by rfl) gm ⟨_, rfl⟩)))))) (pss_one (ps_raise rfl (takes_of rfl rfl rfl rfl) (pmk_oex (k := 1) (ps := ["self", "part"]) (sp := spErr CP "part") (ds := []) (dvs := []) C.TP.oex C.TP.ini C.TP.typ C.GP hr2 C.bP .nil pass0 (by rfl) C.TP.nam (pa_cons pe_str pa_nil)))) pss_nil)
        (pss_cons (ps_set (i := 7) scFun.nd rfl (.inl rfl) (pe_call (E := E) C.GL hr (by rfl) C.gL C.kL C.bL .nil (passes_call (takes_of rfl rfl rfl rfl) (fun _ _ _ _ h => h)) (pa_cons (pv 4) pa_nil)))
        (pss_cons (ps_if (pt_not (pt_val (pe_call C.GT hr (by rfl) C.gT C.kT C.bT .nil pass0 (pa_cons (pv 3) (pa_cons (pv 2) pa_nil))))) (pss_one (ps_raise rfl (takes_of rfl rfl rfl rfl) (pmk_oex (k := 1) (ps := ["self", "term"]) (sp := spErr CT "term") (ds := []) (dvs := []) C.TE.oex C.TE.ini C.TE.typ C.GE hr2 C.bE .nil pass0 (by rfl) C.TE.nam (pa_cons (pv 3) pa_nil)))) pss_nil)
        (pss_cons (ps_if (pt_not (pt_val (pe_call C.GA hr2 (by rfl) C.gA C.kA C.bA .nil pass0 (pa_cons (pv 5) pa_nil)))) (pss_one (ps_raise rfl (takes_of rfl rfl rfl rfl) (pmk_oex (k := 1) (ps := ["self", "part"]) (sp := spErr CP "part") (ds := []) (dvs := []) C.TP.oex C.TP.ini C.TP.typ C.GP hr2 C.bP .nil pass0 (by rfl) C.TP.nam (pa_cons pe_str pa_nil)))) pss_nil)
        (pss_cons (ps_for (passes_of rfl) rfl (pi_tup (pv 5)) (pg_tup (by rfl) (pgs_cons (pg_name (i := 8) scFun.nd rfl (.inl rfl)) (pgs_cons (pg_name (i := 9) scFun.nd rfl (.inl rfl)) pgs_nil)))
          (pss_one (ps_if (pt_not (pt_val (pe_call C.GT hr (by rfl) C.gT C.kT C.bT .nil pass0 (pa_cons (pv 9) (pa_cons (pv 2) pa_nil))))) (pss_one (ps_raise rfl (takes_of rfl rfl rfl rfl) (pmk_oex (k := 1) (ps := ["self", "term"]) (sp := spErr CT "term") (ds := []) (dvs := []) C.TE.oex C.TE.ini C.TE.typ C.GE hr2 C.bE .nil pass0 (by rfl) C.TE.nam (pa_cons (pv 9) pa_nil)))) pss_nil)))
        (pss_cons (ps_if (PW.pt (pw_or (pt_not (pt_val (pe_call C.GW hr1 (by rfl) C.gW C.kW C.bW .nil pass0 (pa_cons (pv 6) pa_nil)))) (pw_or1 (pt_not (pt_chain op_le op_le pe_int (pv 6) (pe_glob (v := .int 99) (by rfl) gc ⟨_, rfl⟩)))))) (pss_one (ps_raise rfl (takes_of rfl rfl rfl rfl) (pmk_oex (k := 1) (ps := ["self", "part"]) (sp := spErr CP "part") (ds := []) (dvs := []) C.TP.oex C.TP.ini C.TP.typ C.GP hr2 C.bP .nil pass0 (by rfl) C.TP.nam (pa_cons pe_str pa_nil)))) pss_nil)
        (pss_cons (ps_fld (pv 0) (pv 1) (by rfl)) (pss_cons (ps_fld (pv 0) (pv 2) (by rfl)) (pss_cons (ps_fld (pv 0) (pv 3) (by rfl)) (pss_cons (ps_fld (pv 0) (pv 7) (by rfl))
        (pss_cons (ps_fld (pv 0) (pe_callTy call_tuple_of (by rfl) M.tuple (by decide +kernel) (pa_cons (pv 5) pa_nil)) (by rfl))
        (pss_one (ps_fld (pv 0) (pv 6) (by rfl)))))))))))))), ?_⟩
      have put : ∀ (r : Option FErr), funOut dn da dr lab dw dc = r → FWish K H CB CP CT vl E (∀ fs H', (∀ b o, H b = some o → b ≠ a → H' b = some o) → H' a = some (.ins CF dx fs) → FunAt K H' CF CL dx fs vn va vr vc dw (LabNo H CL vl lab) → Q .non H') r := fun r e => by
        subst e
        exact out
      have one : (1 : Nat) ≤ 1000 := by decide
      refine ⟨vn, rfl, vn, dn, rfl, hn, zn, fun H1 s1 => ⟨_, rfl, ?_⟩⟩
      cases en : isName dn with
      | false =>
        have o := put (some (.part "name")) (by unfold funOut; rw [en]; rfl)
        exact iteT ⟨one, mk_left fun dd H' l => o dd H' (l.back s1)⟩
      | true =>
      refine iteF ?_
      refine ⟨va, rfl, va, da, rfl, dp_same s1 ha, za, fun H2 s2 => ⟨_, rfl, ?_⟩⟩
      have s2 := s1.trans s2
      have bad2 : countOk 2 da = false → ∀ H', Same H H' → ∀ dd H'', Left H' dd "part" (.str "arguments") H'' → E (.ref CP) (some dd) H'' := fun e H' s dd H'' l => by
        have o := put (some (.part "arguments")) (by unfold funOut; rw [en, e]; rfl)
        exact o dd H'' (l.back s)
      cases da with
      | int n =>
        cases ha
        refine iteF ?_
        refine ⟨_, rfl, _, _, rfl, rfl, _, rfl, ?_⟩
        cases h0 : decide (0 ≤ n) with
        | false =>
          have e : countOk 2 (.int n) = false := by
            show (decide (0 ≤ n) && decide (n ≤ 2)) = false
            rw [h0]
            rfl
          exact iteF ⟨_, rfl, iteT ⟨one, mk_left fun dd H' l => bad2 e _ s2 dd H' l⟩⟩
        | true =>
        refine iteT ⟨_, _, rfl, rfl, _, rfl, ?_⟩
        cases h2 : decide (n ≤ 2) with
        | false =>
          have e : countOk 2 (.int n) = false := by
            show (decide (0 ≤ n) && decide (n ≤ 2)) = false
            rw [h0, h2]
            rfl
          exact iteT ⟨one, mk_left fun dd H' l => bad2 e _ s2 dd H' l⟩
        | true =>
        have eA : countOk 2 (.int n) = true := by
          show (decide (0 ≤ n) && decide (n ≤ 2)) = true
          rw [h0, h2]
          rfl
        refine iteF ?_
        unfold tNext
        dsimp only
        refine q_asgP (Pr := fun v H' => ∃ x i, v = .ref x ∧ Same H H' ∧ LabAt H' CL x i ∧ lab.filter noLab = none ∧ LabNo H CL vl lab i) (fun Q' hq => ?_) (fun v H3 hv => ?_)
        · refine ⟨vl, rfl, vl, rfl, ?_⟩
          rcases hl with ⟨a2, i, rfl, rfl, la⟩ | ⟨d, rfl, hd⟩
          · exact .inl ⟨a2, i, rfl, la.ext s2, fun H' s' => hq _ _ ⟨a2, i, rfl, s2.trans s', (la.ext s2).ext s', rfl, .inl ⟨a2, rfl, rfl, la⟩⟩⟩
          · by_cases hno : noLab d = true
            · have o := put (some (.label d)) (by unfold funOut; rw [en, eA, Option.filter_some_pos hno]; rfl)
              exact .inr (.inr ⟨d, dp_same s2 hd, hno, fun dd H' l => o dd H' (l.back s2)⟩)
            · obtain ⟨i, z, hi, rfl⟩ := lab_of (eq_false_of_ne_true hno)
              cases hd
              exact .inr (.inl ⟨i, z, hi, rfl, fun x H' s' lx => hq _ _ ⟨x, i, rfl, s2.trans s', lx, Option.filter_some_neg (eq_false_of_ne_true hno), .inr ⟨z, rfl, hi⟩⟩⟩)
        · obtain ⟨x, i, rfl, s3, lx, ef, lno⟩ := hv
          have eL : ∀ r, funOut dn (.int n) dr lab dw dc = r ↔ (if !isTerm n dr then some (.term dr) else if !areWrites dw then some (.part "writes") else
              match badTerm n (entries dw) with
              | some t => some (.term t)
              | none => if !countOk 99 dc then some (.part "cost") else none) = r := fun r => by
            unfold funOut
            rw [en, eA, ef]
            exact Iff.rfl
          refine ⟨vr, rfl, .int n, rfl, vr, dr, n, rfl, dp_same s3 hre, zr, fun H4 t4 => ⟨_, rfl, ?_⟩⟩
          have s4 := s3.trans t4
          have lx := lx.ext t4
          cases et : isTerm n dr with
          | false =>
            have o := put (some (.term dr)) ((eL _).mpr (by rw [et]; rfl))
            exact iteT ⟨vr, rfl, one, mk_left fun dd H' l => o vr dd H' (dp_same (s4.trans l.2.1) hre) (l.back s4)⟩
          | true =>
          refine iteF ?_
          refine ⟨vw, rfl, vw, dw, rfl, dp_same s4 hw, zw, fun H5 t5 => ⟨_, rfl, ?_⟩⟩
          have s5 := s4.trans t5
          have lx := lx.ext t5
          cases ew : areWrites dw with
          | false =>
            have o := put (some (.part "writes")) ((eL _).mpr (by rw [et, ew]; rfl))
            exact iteT ⟨one, mk_left fun dd H' l => o dd H' (l.back s5)⟩
          | true =>
          refine iteF ?_
          cases dw with
          | tuple ds =>
            cases hw with
            | @tup wa xs _ hs hds =>
            have len := dpA_len hds
            refine ⟨.ref wa, rfl, wa, rfl, ⟨_, same_sqT s5 hs⟩, ?_⟩
            refine for_tup (K := K) (a := wa) (xs := xs) (fun k σ H' => ∃ z8 z9, σ = [some (.ref a), some vn, some (.int n), some vr, some vl, some (.ref wa), some vc, some (.ref x), z8, z9] ∧ Same H H' ∧ LabAt H' CL x i ∧ badTerm n ds = badTerm n (ds.drop k))
              ⟨none, none, rfl, s5, lx, rfl⟩ (fun k σ H' _ hW => ?_) (fun k v σ H6 hk hW => ?_) (fun σ H6 hW => ?_)
            · obtain ⟨_, _, _, s, _, _⟩ := hW
              exact same_sqT s hs
            · obtain ⟨z8, z9, rfl, s6, lx6, eb⟩ := hW
              obtain ⟨d, hd, hx0⟩ := dpA_at hds hk
              obtain ⟨z, t, rfl⟩ := writes_at (writes_of ew) hd
              have hx := dp_same s6 hx0
              have szd := szD_item (szD_seqT zw) hd
              have hdr : ds.drop k = .tuple [.str z, t] :: ds.drop (k + 1) := List.drop_eq_getElem_cons (List.getElem?_eq_some_iff.mp hd).1 ▸ by rw [(List.getElem?_eq_some_iff.mp hd).2]
              have szt : szD t = true := szD_item (i := 1) (szD_seqT szd) rfl
              cases hx with
              | @tup b ys _ hb hy =>
              obtain ⟨y0, y1, rfl, hy0, hy1⟩ := dp_pair hy
              refine ⟨b, _, rfl, hb, rfl, ?_⟩
              refine ⟨y0, [y1], rfl, y1, [], rfl, rfl, ?_⟩
              refine ⟨y1, rfl, .int n, rfl, y1, t, n, rfl, hy1, szt, fun H7 s7 => ⟨_, rfl, ?_⟩⟩
              cases ett : isTerm n t with
              | false =>
                have eb2 : badTerm n ds = some t := by
                  rw [eb, hdr]
                  show (if isTerm n t then badTerm n (ds.drop (k + 1)) else some t) = some t
                  rw [ett]
                  rfl
                have o := put (some (.term t)) ((eL _).mpr (by
                  rw [et, ew]
                  show (match badTerm n ds with | some t => some (FErr.term t) | none => _) = _
                  rw [eb2]))
                exact iteT ⟨y1, rfl, one, mk_left fun dd H' l => o y1 dd H' (dp_same (s7.trans l.2.1) hy1) (l.back (s6.trans s7))⟩
              | true =>
                refine iteF ⟨_, _, rfl, s6.trans s7, lx6.ext s7, ?_⟩
                rw [eb, hdr]
                show (if isTerm n t then badTerm n (ds.drop (k + 1)) else some t) = _
                rw [ett]
                rfl
            · obtain ⟨z8, z9, rfl, s6, lx6, eb⟩ := hW
              have eb2 : badTerm n ds = none := by
                rw [eb, len, List.drop_length]
                rfl
              have eM : ∀ r, (if !countOk 99 dc then some (FErr.part "cost") else none) = r → funOut dn (.int n) dr lab (.tuple ds) dc = r := fun r e => (eL r).mpr (by
                rw [et, ew]
                show (match badTerm n ds with | some t => some (FErr.term t) | none => _) = _
                rw [eb2]
                exact e)
              have bad99 : countOk 99 dc = false → ∀ H', Same H H' → ∀ dd H'', Left H' dd "part" (.str "cost") H'' → E (.ref CP) (some dd) H'' := fun e H' s dd H'' l => by
                have o := put (some (.part "cost")) (eM _ (by rw [e]; rfl))
                exact o dd H'' (l.back s)
              dsimp only
              refine ⟨vc, rfl, vc, dc, rfl, dp_same s6 hc, zc, fun H7 t7 => ⟨_, rfl, ?_⟩⟩
              have s7 := s6.trans t7
              have lx := lx6.ext t7
              cases dc with
              | int m =>
                cases hc
                refine iteF ?_
                refine ⟨_, rfl, _, _, rfl, rfl, _, rfl, ?_⟩
                cases g0 : decide (0 ≤ m) with
                | false =>
                  have e : countOk 99 (.int m) = false := by
                    show (decide (0 ≤ m) && decide (m ≤ 99)) = false
                    rw [g0]
                    rfl
                  exact iteF ⟨_, rfl, iteT ⟨one, mk_left fun dd H' l => bad99 e _ s7 dd H' l⟩⟩
                | true =>
                refine iteT ⟨_, _, rfl, rfl, _, rfl, ?_⟩
                cases g2 : decide (m ≤ 99) with
                | false =>
                  have e : countOk 99 (.int m) = false := by
                    show (decide (0 ≤ m) && decide (m ≤ 99)) = false
                    rw [g0, g2]
                    rfl
                  exact iteT ⟨one, mk_left fun dd H' l => bad99 e _ s7 dd H' l⟩
                | true =>
                have eC : countOk 99 (.int m) = true := by
                  show (decide (0 ≤ m) && decide (m ≤ 99)) = true
                  rw [g0, g2]
                  rfl
                have o := put none (eM _ (by rw [eC]; rfl))
                refine iteF ?_
                have e7 := s7 _ _ ea
                refine ⟨vn, rfl, .ref a, rfl, a, CF, dx, [], rfl, e7, C.cl, C.n1, (by decide), ?_⟩
                refine ⟨.int n, rfl, .ref a, rfl, a, CF, dx, _, rfl, upd_same, C.cl, C.n2, (by show 1 < 1000; decide), ?_⟩
                rw [upd_twice]
                refine ⟨vr, rfl, .ref a, rfl, a, CF, dx, _, rfl, upd_same, C.cl, C.n3, (by show 2 < 1000; decide), ?_⟩
                rw [upd_twice]
                refine ⟨.ref x, rfl, .ref a, rfl, a, CF, dx, _, rfl, upd_same, C.cl, C.n4, (by show 3 < 1000; decide), ?_⟩
                rw [upd_twice]
                have b4 : ∀ (o4 : HO) b o, H7 b = some o → b ≠ a → upd H7 a o4 b = some o := fun o4 b o e nb => by
                  rw [upd_ne nb]
                  exact e
                refine ⟨.ref wa, rfl, wa, xs, rfl, .inr ⟨sqT_aside e7 (b4 _) (same_sqT s7 hs), ?_⟩⟩
                refine ⟨.ref a, rfl, a, CF, dx, _, rfl, upd_same, C.cl, C.n5, (by show 4 < 1000; decide), ?_⟩
                rw [upd_twice]
                refine ⟨.int m, rfl, .ref a, rfl, a, CF, dx, _, rfl, upd_same, C.cl, C.n6, (by show 5 < 1000; decide), ?_⟩
                rw [upd_twice]
                exact o _ _ (fun b ob e nb => b4 _ b ob (s7 _ _ e) nb) upd_same ⟨rfl, rfl, rfl, rfl, ⟨x, i, rfl, lab_aside e7 (b4 _) lx, lno⟩, ⟨wa, rfl, .tup (sqT_aside e7 (b4 _) (same_sqT s7 hs)) (dpA_aside e7 (b4 _) (dpA_same s7 hds))⟩, rfl, rfl, rfl⟩
              | none => exact iteT (iteT ⟨one, mk_left fun dd H' l => bad99 rfl _ s7 dd H' l⟩)
              | bool _ => exact iteT (iteT ⟨one, mk_left fun dd H' l => bad99 rfl _ s7 dd H' l⟩)
              | str _ => exact iteT (iteT ⟨one, mk_left fun dd H' l => bad99 rfl _ s7 dd H' l⟩)
              | list _ => exact iteT (iteT ⟨one, mk_left fun dd H' l => bad99 rfl _ s7 dd H' l⟩)
              | tuple _ => exact iteT (iteT ⟨one, mk_left fun dd H' l => bad99 rfl _ s7 dd H' l⟩)
              | dict _ => exact iteT (iteT ⟨one, mk_left fun dd H' l => bad99 rfl _ s7 dd H' l⟩)
          | _ => exact Bool.noConfusion hq
      | none => exact iteT (iteT ⟨one, mk_left fun dd H' l => bad2 rfl _ s2 dd H' l⟩)
      | bool _ => exact iteT (iteT ⟨one, mk_left fun dd H' l => bad2 rfl _ s2 dd H' l⟩)
      | str _ => exact iteT (iteT ⟨one, mk_left fun dd H' l => bad2 rfl _ s2 dd H' l⟩)
      | list _ => exact iteT (iteT ⟨one, mk_left fun dd H' l => bad2 rfl _ s2 dd H' l⟩)
      | tuple _ => exact iteT (iteT ⟨one, mk_left fun dd H' l => bad2 rfl _ s2 dd H' l⟩)
      | dict _ => exact iteT (iteT ⟨one, mk_left fun dd H' l => bad2 rfl _ s2 dd H' l⟩)

    · refine ⟨_, pss_cons (ps_if (pt_not (pt_val (pe_call C.GN hr1 (by rfl) C.gN C.kN C.bN .nil pass0 (pa_cons (pv 1) pa_nil)))) (pss_one (ps_raise rfl (takes_of rfl rfl rfl rfl) (pmk_oex (k := 1) (ps := ["self", "part"]) (sp := spErr CP "part") (ds := []) (dvs := []) C.TP.oex C.TP.ini C.TP.typ C.GP hr2 C.bP .nil pass0 (by rfl) C.TP.nam (pa_cons pe_str pa_nil)))) pss_nil)
        (pss_cons (ps_if (PW.pt (pw_or (pt_not (pt_val (pe_call C.GW hr1 (by rfl) C.gW C.kW C.bW .nil pass0 (pa_cons (pv 2) pa_nil)))) (pw_or1 (pt_not (pt_chain op_le op_le pe_int (pv 2) (pe_glob (v := .int 2) (by rfl) gm ⟨_, rfl⟩)))))) (pss_one (ps_raise rfl (takes_of rfl rfl rfl rfl) (pmk_oex (k := 1) (ps := ["self", "part"]) (sp := spErr CP "part") (ds := []) (dvs := []) C.TP.oex C.TP.ini C.TP.typ C.GP hr2 C.bP .nil pass0 (by rfl) C.TP.nam (pa_cons pe_str pa_nil)))) pss_nil)
        (pss_cons (ps_set (i := 7) scFun.nd rfl (.inl rfl) (pe_call (E := E) C.GL hr (by rfl) C.gL C.kL C.bL .nil (passes_call (takes_of rfl rfl rfl rfl) (fun _ _ _ _ h => h)) (pa_cons (pv 4) pa_nil)))
        (pss_cons (ps_if (pt_not (pt_val (pe_call C.GT hr (by rfl) C.gT C.kT C.bT .nil pass0 (pa_cons (pv 3) (pa_cons (pv 2) pa_nil))))) (pss_one (ps_raise rfl (takes_of rfl rfl rfl rfl) (pmk_oex (k := 1) (ps := ["self", "term"]) (sp := spErr CT "term") (ds := []) (dvs := []) C.TE.oex C.TE.ini C.TE.typ C.GE hr2 C.bE .nil pass0 (by rfl) C.TE.nam (pa_cons (pv 3) pa_nil)))) pss_nil)
        (pss_cons (ps_if (pt_not (pt_val (pe_call C.GA hr2 (by rfl) C.gA C.kA C.bA .nil pass0 (pa_cons (pv 5) pa_nil)))) (pss_one (ps_raise rfl (takes_of rfl rfl rfl rfl) (pmk_oex (k := 1) (ps := ["self", "part"]) (sp := spErr CP "part") (ds := []) (dvs := []) C.TP.oex C.TP.ini C.TP.typ C.GP hr2 C.bP .nil pass0 (by rfl) C.TP.nam (pa_cons pe_str pa_nil)))) pss_nil)
        (pss_cons (ps_for (passes_of rfl) rfl (pi_list (pv 5)) (pg_tup (by rfl) (pgs_cons (pg_name (i := 8) scFun.nd rfl (.inl rfl)) (pgs_cons (pg_name (i := 9) scFun.nd rfl (.inl rfl)) pgs_nil)))
          (pss_one (ps_if (pt_not (pt_val (pe_call C.GT hr (by rfl) C.gT C.kT C.bT .nil pass0 (pa_cons (pv 9) (pa_cons (pv 2) pa_nil))))) (pss_one (ps_raise rfl (takes_of rfl rfl rfl rfl) (pmk_oex (k := 1) (ps := ["self", "term"]) (sp := spErr CT "term") (ds := []) (dvs := []) C.TE.oex C.TE.ini C.TE.typ C.GE hr2 C.bE .nil pass0 (by rfl) C.TE.nam (pa_cons (pv 9) pa_nil)))) pss_nil)))
        (pss_cons (ps_if (PW.pt (pw_or (pt_not (pt_val (pe_call C.GW hr1 (by rfl) C.gW C.kW C.bW .nil pass0 (pa_cons (pv 6) pa_nil)))) (pw_or1 (pt_not (pt_chain op_le op_le pe_int (pv 6) (pe_glob (v := .int 99) (by rfl) gc ⟨_, rfl⟩)))))) (pss_one (ps_raise rfl (takes_of rfl rfl rfl rfl) (pmk_oex (k := 1) (ps := ["self", "part"]) (sp := spErr CP "part") (ds := []) (dvs := []) C.TP.oex C.TP.ini C.TP.typ C.GP hr2 C.bP .nil pass0 (by rfl) C.TP.nam (pa_cons pe_str pa_nil)))) pss_nil)
        (pss_cons (ps_fld (pv 0) (pv 1) (by rfl)) (pss_cons (ps_fld (pv 0) (pv 2) (by rfl)) (pss_cons (ps_fld (pv 0) (pv 3) (by rfl)) (pss_cons (ps_fld (pv 0) (pv 7) (by rfl))
        (pss_cons (ps_fld (pv 0) (pe_callTy call_tuple_of (by rfl) M.tuple (by decide +kernel) (pa_cons (pv 5) pa_nil)) (by rfl))
        (pss_one (ps_fld (pv 0) (pv 6) (by rfl)))))))))))))), ?_⟩
      have put : ∀ (r : Option FErr), funOut dn da dr lab dw dc = r → FWish K H CB CP CT vl E (∀ fs H', (∀ b o, H b = some o → b ≠ a → H' b = some o) → H' a = some (.ins CF dx fs) → FunAt K H' CF CL dx fs vn va vr vc dw (LabNo H CL vl lab) → Q .non H') r := fun r e => by
        subst e
        exact out
      have one : (1 : Nat) ≤ 1000 := by decide
      refine ⟨vn, rfl, vn, dn, rfl, hn, zn, fun H1 s1 => ⟨_, rfl, ?_⟩⟩
      cases en : isName dn with
      | false =>
        have o := put (some (.part "name")) (by unfold funOut; rw [en]; rfl)
        exact iteT ⟨one, mk_left fun dd H' l => o dd H' (l.back s1)⟩
      | true =>
      refine iteF ?_
      refine ⟨va, rfl, va, da, rfl, dp_same s1 ha, za, fun H2 s2 => ⟨_, rfl, ?_⟩⟩
      have s2 := s1.trans s2
      have bad2 : countOk 2 da = false → ∀ H', Same H H' → ∀ dd H'', Left H' dd "part" (.str "arguments") H'' → E (.ref CP) (some dd) H'' := fun e H' s dd H'' l => by
        have o := put (some (.part "arguments")) (by unfold funOut; rw [en, e]; rfl)
        exact o dd H'' (l.back s)
      cases da with
      | int n =>
        cases ha
        refine iteF ?_
        refine ⟨_, rfl, _, _, rfl, rfl, _, rfl, ?_⟩
        cases h0 : decide (0 ≤ n) with
        | false =>
          have e : countOk 2 (.int n) = false := by
            show (decide (0 ≤ n) && decide (n ≤ 2)) = false
            rw [h0]
            rfl
          exact iteF ⟨_, rfl, iteT ⟨one, mk_left fun dd H' l => bad2 e _ s2 dd H' l⟩⟩
        | true =>
        refine iteT ⟨_, _, rfl, rfl, _, rfl, ?_⟩
        cases h2 : decide (n ≤ 2) with
        | false =>
          have e : countOk 2 (.int n) = false := by
            show (decide (0 ≤ n) && decide (n ≤ 2)) = false
            rw [h0, h2]
            rfl
          exact iteT ⟨one, mk_left fun dd H' l => bad2 e _ s2 dd H' l⟩
        | true =>
        have eA : countOk 2 (.int n) = true := by
          show (decide (0 ≤ n) && decide (n ≤ 2)) = true
          rw [h0, h2]
          rfl
        refine iteF ?_
        unfold tNext
        dsimp only
        refine q_asgP (Pr := fun v H' => ∃ x i, v = .ref x ∧ Same H H' ∧ LabAt H' CL x i ∧ lab.filter noLab = none ∧ LabNo H CL vl lab i) (fun Q' hq => ?_) (fun v H3 hv => ?_)
        · refine ⟨vl, rfl, vl, rfl, ?_⟩
          rcases hl with ⟨a2, i, rfl, rfl, la⟩ | ⟨d, rfl, hd⟩
          · exact .inl ⟨a2, i, rfl, la.ext s2, fun H' s' => hq _ _ ⟨a2, i, rfl, s2.trans s', (la.ext s2).ext s', rfl, .inl ⟨a2, rfl, rfl, la⟩⟩⟩
          · by_cases hno : noLab d = true
            · have o := put (some (.label d)) (by unfold funOut; rw [en, eA, Option.filter_some_pos hno]; rfl)
              exact .inr (.inr ⟨d, dp_same s2 hd, hno, fun dd H' l => o dd H' (l.back s2)⟩)
            · obtain ⟨i, z, hi, rfl⟩ := lab_of (eq_false_of_ne_true hno)
              cases hd
              exact .inr (.inl ⟨i, z, hi, rfl, fun x H' s' lx => hq _ _ ⟨x, i, rfl, s2.trans s', lx, Option.filter_some_neg (eq_false_of_ne_true hno), .inr ⟨z, rfl, hi⟩⟩⟩)
        · obtain ⟨x, i, rfl, s3, lx, ef, lno⟩ := hv
          have eL : ∀ r, funOut dn (.int n) dr lab dw dc = r ↔ (if !isTerm n dr then some (.term dr) else if !areWrites dw then some (.part "writes") else
              match badTerm n (entries dw) with
              | some t => some (.term t)
              | none => if !countOk 99 dc then some (.part "cost") else none) = r := fun r => by
            unfold funOut
            rw [en, eA, ef]
            exact Iff.rfl
          refine ⟨vr, rfl, .int n, rfl, vr, dr, n, rfl, dp_same s3 hre, zr, fun H4 t4 => ⟨_, rfl, ?_⟩⟩
          have s4 := s3.trans t4
          have lx := lx.ext t4
          cases et : isTerm n dr with
          | false =>
            have o := put (some (.term dr)) ((eL _).mpr (by rw [et]; rfl))
            exact iteT ⟨vr, rfl, one, mk_left fun dd H' l => o vr dd H' (dp_same (s4.trans l.2.1) hre) (l.back s4)⟩
          | true =>
          refine iteF ?_
          refine ⟨vw, rfl, vw, dw, rfl, dp_same s4 hw, zw, fun H5 t5 => ⟨_, rfl, ?_⟩⟩
          have s5 := s4.trans t5
          have lx := lx.ext t5
          cases ew : areWrites dw with
          | false =>
            have o := put (some (.part "writes")) ((eL _).mpr (by rw [et, ew]; rfl))
            exact iteT ⟨one, mk_left fun dd H' l => o dd H' (l.back s5)⟩
          | true =>
          refine iteF ?_
          cases dw with
          | list ds =>
            cases hw with
            | @lst wa xs _ hs hds =>
            have len := dpA_len hds
            refine ⟨.ref wa, rfl, wa, rfl, ⟨_, s5.seq hs⟩, ?_⟩
            refine for_list (K := K) (a := wa) (xs := xs) (fun k σ H' => ∃ z8 z9, σ = [some (.ref a), some vn, some (.int n), some vr, some vl, some (.ref wa), some vc, some (.ref x), z8, z9] ∧ Same H H' ∧ LabAt H' CL x i ∧ badTerm n ds = badTerm n (ds.drop k))
              ⟨none, none, rfl, s5, lx, rfl⟩ (fun k σ H' _ hW => ?_) (fun k v σ H6 hk hW => ?_) (fun σ H6 hW => ?_)
            · obtain ⟨_, _, _, s, _, _⟩ := hW
              exact s.seq hs
            · obtain ⟨z8, z9, rfl, s6, lx6, eb⟩ := hW
              obtain ⟨d, hd, hx0⟩ := dpA_at hds hk
              obtain ⟨z, t, rfl⟩ := writes_at (writes_of ew) hd
              have hx := dp_same s6 hx0
              have szd := szD_item (szD_seqL zw) hd
              have hdr : ds.drop k = .tuple [.str z, t] :: ds.drop (k + 1) := List.drop_eq_getElem_cons (List.getElem?_eq_some_iff.mp hd).1 ▸ by rw [(List.getElem?_eq_some_iff.mp hd).2]
              have szt : szD t = true := szD_item (i := 1) (szD_seqT szd) rfl
              cases hx with
              | @tup b ys _ hb hy =>
              obtain ⟨y0, y1, rfl, hy0, hy1⟩ := dp_pair hy
              refine ⟨b, _, rfl, hb, rfl, ?_⟩
              refine ⟨y0, [y1], rfl, y1, [], rfl, rfl, ?_⟩
              refine ⟨y1, rfl, .int n, rfl, y1, t, n, rfl, hy1, szt, fun H7 s7 => ⟨_, rfl, ?_⟩⟩
              cases ett : isTerm n t with
              | false =>
                have eb2 : badTerm n ds = some t := by
                  rw [eb, hdr]
                  show (if isTerm n t then badTerm n (ds.drop (k + 1)) else some t) = some t
                  rw [ett]
                  rfl
                have o := put (some (.term t)) ((eL _).mpr (by
                  rw [et, ew]
                  show (match badTerm n ds with | some t => some (FErr.term t) | none => _) = _
                  rw [eb2]))
                exact iteT ⟨y1, rfl, one, mk_left fun dd H' l => o y1 dd H' (dp_same (s7.trans l.2.1) hy1) (l.back (s6.trans s7))⟩
              | true =>
                refine iteF ⟨_, _, rfl, s6.trans s7, lx6.ext s7, ?_⟩
                rw [eb, hdr]
                show (if isTerm n t then badTerm n (ds.drop (k + 1)) else some t) = _
                rw [ett]
                rfl
            · obtain ⟨z8, z9, rfl, s6, lx6, eb⟩ := hW
              have eb2 : badTerm n ds = none := by
                rw [eb, len, List.drop_length]
                rfl
              have eM : ∀ r, (if !countOk 99 dc then some (FErr.part "cost") else none) = r → funOut dn (.int n) dr lab (.list ds) dc = r := fun r e => (eL r).mpr (by
                rw [et, ew]
                show (match badTerm n ds with | some t => some (FErr.term t) | none => _) = _
                rw [eb2]
                exact e)
              have bad99 : countOk 99 dc = false → ∀ H', Same H H' → ∀ dd H'', Left H' dd "part" (.str "cost") H'' → E (.ref CP) (some dd) H'' := fun e H' s dd H'' l => by
                have o := put (some (.part "cost")) (eM _ (by rw [e]; rfl))
                exact o dd H'' (l.back s)
              dsimp only
              refine ⟨vc, rfl, vc, dc, rfl, dp_same s6 hc, zc, fun H7 t7 => ⟨_, rfl, ?_⟩⟩
              have s7 := s6.trans t7
              have lx := lx6.ext t7
              cases dc with
              | int m =>
                cases hc
                refine iteF ?_
                refine ⟨_, rfl, _, _, rfl, rfl, _, rfl, ?_⟩
                cases g0 : decide (0 ≤ m) with
                | false =>
                  have e : countOk 99 (.int m) = false := by
                    show (decide (0 ≤ m) && decide (m ≤ 99)) = false
                    rw [g0]
                    rfl
                  exact iteF ⟨_, rfl, iteT ⟨one, mk_left fun dd H' l => bad99 e _ s7 dd H' l⟩⟩
                | true =>
                refine iteT ⟨_, _, rfl, rfl, _, rfl, ?_⟩
                cases g2 : decide (m ≤ 99) with
                | false =>
                  have e : countOk 99 (.int m) = false := by
                    show (decide (0 ≤ m) && decide (m ≤ 99)) = false
                    rw [g0, g2]
                    rfl
                  exact iteT ⟨one, mk_left fun dd H' l => bad99 e _ s7 dd H' l⟩
                | true =>
                have eC : countOk 99 (.int m) = true := by
                  show (decide (0 ≤ m) && decide (m ≤ 99)) = true
                  rw [g0, g2]
                  rfl
                have o := put none (eM _ (by rw [eC]; rfl))
                refine iteF ?_
                have e7 := s7 _ _ ea
                refine ⟨vn, rfl, .ref a, rfl, a, CF, dx, [], rfl, e7, C.cl, C.n1, (by decide), ?_⟩
                refine ⟨.int n, rfl, .ref a, rfl, a, CF, dx, _, rfl, upd_same, C.cl, C.n2, (by show 1 < 1000; decide), ?_⟩
                rw [upd_twice]
                refine ⟨vr, rfl, .ref a, rfl, a, CF, dx, _, rfl, upd_same, C.cl, C.n3, (by show 2 < 1000; decide), ?_⟩
                rw [upd_twice]
                refine ⟨.ref x, rfl, .ref a, rfl, a, CF, dx, _, rfl, upd_same, C.cl, C.n4, (by show 3 < 1000; decide), ?_⟩
                rw [upd_twice]
                have b4 : ∀ (o4 : HO) b o, H7 b = some o → b ≠ a → upd H7 a o4 b = some o := fun o4 b o e nb => by
                  rw [upd_ne nb]
                  exact e
                refine ⟨.ref wa, rfl, wa, xs, rfl, .inl ⟨sqL_aside e7 (b4 _) (s7.seq hs), fun tw ntw => ?_⟩⟩
                have hne : a ≠ tw := ne_of_none upd_same ntw
                refine ⟨.ref a, rfl, a, CF, dx, _, rfl, same_upd ntw _ _ upd_same, C.cl, C.n5, (by show 4 < 1000; decide), ?_⟩
                refine ⟨.int m, rfl, .ref a, rfl, a, CF, dx, _, rfl, upd_same, C.cl, C.n6, (by show 5 < 1000; decide), ?_⟩
                rw [upd_twice]
                have b9 : ∀ (o4 o5 : HO) b o, H7 b = some o → b ≠ a → upd (upd (upd H7 a o4) tw (.tup xs)) a o5 b = some o := fun o4 o5 b o e nb => by
                  rw [upd_ne nb]
                  refine same_upd ?_ _ _ (b4 o4 b o e nb)
                  rw [upd_ne hne.symm]
                  rw [upd_ne hne.symm] at ntw
                  exact ntw
                refine o _ _ (fun b ob e nb => b9 _ _ b ob (s7 _ _ e) nb) upd_same ⟨rfl, rfl, rfl, rfl, ⟨x, i, rfl, lab_aside e7 (b9 _ _) lx, lno⟩, ⟨tw, rfl, .tup (.inl (.inl ?_)) (dpA_aside e7 (b9 _ _) (dpA_same s7 hds))⟩, rfl, rfl, rfl⟩
                rw [upd_ne hne.symm]
                exact upd_same
              | none => exact iteT (iteT ⟨one, mk_left fun dd H' l => bad99 rfl _ s7 dd H' l⟩)
              | bool _ => exact iteT (iteT ⟨one, mk_left fun dd H' l => bad99 rfl _ s7 dd H' l⟩)
              | str _ => exact iteT (iteT ⟨one, mk_left fun dd H' l => bad99 rfl _ s7 dd H' l⟩)
              | list _ => exact iteT (iteT ⟨one, mk_left fun dd H' l => bad99 rfl _ s7 dd H' l⟩)
              | tuple _ => exact iteT (iteT ⟨one, mk_left fun dd H' l => bad99 rfl _ s7 dd H' l⟩)
              | dict _ => exact iteT (iteT ⟨one, mk_left fun dd H' l => bad99 rfl _ s7 dd H' l⟩)
          | _ => first | exact Bool.noConfusion ew | exact absurd rfl hq
      | none => exact iteT (iteT ⟨one, mk_left fun dd H' l => bad2 rfl _ s2 dd H' l⟩)
      | bool _ => exact iteT (iteT ⟨one, mk_left fun dd H' l => bad2 rfl _ s2 dd H' l⟩)
      | str _ => exact iteT (iteT ⟨one, mk_left fun dd H' l => bad2 rfl _ s2 dd H' l⟩)
      | list _ => exact iteT (iteT ⟨one, mk_left fun dd H' l => bad2 rfl _ s2 dd H' l⟩)
      | tuple _ => exact iteT (iteT ⟨one, mk_left fun dd H' l => bad2 rfl _ s2 dd H' l⟩)
      | dict _ => exact iteT (iteT ⟨one, mk_left fun dd H' l => bad2 rfl _ s2 dd H' l⟩)

end
/-! ### a try with several clauses that give the error the same name -/
/-- what such clauses want of an error: the first one that fits has it in slot i -/
def wRow (K : PySem.W.Frag) (i : Nat) (Wout : WX) (D : Ends) : List (Value × (Addr → Value → Option Addr → TS)) → WX
  | [] => Wout
  | q :: r => fun k d σ H => ∃ fits, PySem.W.exmOne K k q.1 = some fits ∧
      (fits = true → ∀ a, H a = none → q.2 a k d ⟨fun σ' H' => D.nx (σ'.set i none) H', D.rt, fun σ' H' => D.bk (σ'.set i none) H', fun σ' H' => D.ct (σ'.set i none) H'⟩ (σ.set i (some (.ref a))) H) ∧ (fits = false → wRow K i Wout D r k d σ H)
inductive RowOk (X : Cx) (n : Str) : List ExceptHandler → List (Value × (Addr → Value → Option Addr → TS)) → Prop
  | nil : RowOk X n [] []
  | cons {x : Str} {c : Value} {ts : Addr → Value → Option Addr → TS} {b : Stmt} {bs : List Stmt} {p1 p2 : Pos} {hs : List ExceptHandler} {l : List (Value × (Addr → Value → Option Addr → TS))} (nam : Names X x c)
      (run : ∀ (a : Addr) (oe : Obj) (k : Value) (d : Option Addr) (pn : List (Addr × Obj)), Zc k d oe → (∃ vs, oe.data = .fields vs) → PSs (X.suite a ((a, oe) :: pn)) (b :: bs) (ts a k d)) (rest : RowOk X n hs l) :
      RowOk X n (.ExceptHandler (some (.Name x p1)) (some n) (b :: bs) p2 :: hs) ((c, ts) :: l)
section
variable {X : Cx} {body : List Stmt} {top : ExceptHandler} {hs : List ExceptHandler} {l : List (Value × (Addr → Value → Option Addr → TS))} {pos : Pos} {tb : WX → TS} {Wout : WX} {n : Str} {i : Nat}
theorem ps_try_row (st : X.stack = X.env :: X.outer) (fr : X.env.frame = some X.env.locals) (nd : X.N.Nodup) (at_ : X.N[i]? = some n) (loc : X.env.kindOf n = some .local) (tk : Takes X Wout)
    (inner : ∀ (W : WX) (pn : List (Addr × Obj)) (xe : Value → Shared → Prop), Takes (X.tr pn xe) W → PassesOwn (model X.prog X.w) X.A X.env xe → PSs (X.tr pn xe) body (tb W)) (row : RowOk X n (top :: hs) l) :
    PS X (.Try body (top :: hs) [] [] pos) (fun D σ H => tb (wRow X.K i Wout D l) D σ H) := ⟨fun pins s σ H D I wish => by
  have okI := I.ok
  have frames : X.A.frames = some (X.env :: X.outer) := by rw [okI.frames, st]
  refine wpAny_Try_except (wpAny_mono ((inner (wRow X.K i Wout D l) (X.pn ++ pins) (fun e s₁ => wpAny (model X.prog X.w) X.A (noteFrame e X.env) (fun _ s₂ => wpAny (model X.prog X.w) X.A (setFlight e none)
    (fun _ s₃ => wpAny (model X.prog X.w) X.A (handleBy e X.env (top :: hs)) (SP X pins D) X.xe s₃) X.xe s₂) X.xe s₁) (fun u z caught => ?_) PassesOwn.looking).run [] s σ H D (I.toTry _) wish) (fun flow z done => ?_) (fun _ _ gone => gone))
  · obtain ⟨a, B, sI, pins', τ, G, k, d, rfl, J', nb, up, sky, free, os, ag, w⟩ := caught
    have J : Inv X pins τ G sI := J'.ofTry okI
    have sky1 : Sky B (X.env :: X.outer) a (Zc k d) X.env.locals z.heap := st ▸ sky
    refine Sky.land Zc.steady frames fr sky1 fun g lies higher => ?_
    have Jg : Inv X pins τ G { z with heap := g } := J.landed nb lies.1 (up.trans higher) os ag
    obtain ⟨oe, vs, there, zc, dat⟩ := lies.there
    have away : a ∉ frs (X.env :: X.outer) := fun inn => by
      obtain ⟨_, o', e', un⟩ := lies.2.2.1.mem inn
      rw [there] at e'
      cases e'
      exact un _ dat
    have aL : a ≠ X.env.locals := fun q => away (List.mem_filterMap.mpr ⟨X.env, List.mem_cons_self, by rw [fr, q]⟩)
    have aF : a ∉ X.fs := fun inn => by
      obtain ⟨e, inn', q⟩ := List.mem_filterMap.mp inn
      exact away (List.mem_filterMap.mpr ⟨e, List.mem_cons_of_mem _ inn', q⟩)
    have Sg := Jg.suite there dat free aL aF
    have each : ∀ {hs' : List ExceptHandler} {l' : List (Value × (Addr → Value → Option Addr → TS))}, RowOk X n hs' l' → wRow X.K i Wout D l' k d τ G →
        wpAny (model X.prog X.w) X.A (handleBy (.ref a) X.env hs') (SP X pins D) X.xe { z with heap := g } := fun {hs' l'} ok => by
      induction ok with
      | nil =>
        intro out
        refine wpAny_handleBy_nil ?_
        obtain ⟨_, _, _, o2, vs2, T, oT, _, e2, z2, d2, f2, r2⟩ := id lies
        unfold PySem.passOn
        refine wpAny_bind (wpAny_field e2 d2 f2 ?_)
        rw [if_neg (show ¬ ((Value.ref T == Value.none) = true) from by simp)]
        have leave : wpAny (model X.prog X.w) X.A (setFlight (.ref a) X.env.frame) (fun _ s4 => wpAny (model X.prog X.w) X.A (throw (.ref a) : Sem Flow) (SP X pins D) X.xe s4) X.xe { z with heap := g } := by
          rw [fr]
          exact HandSPX.setFlight_upZ lies fun g2 low up2 => wpAny_throw (tk _ _ ⟨a, B, sI, pins, τ, G, k, d, rfl, J, nb, (up.trans higher).trans up2, .inr (.inr (st ▸ low)), free, os, ag, out⟩)
        first
          | exact wpAny_bind leave
          | exact wpAny_bind (wpAny_pure (wpAny_bind leave))
      | @cons x c ts b bs p1 p2 hs2 l2 nam run rest ih =>
        rintro ⟨fits, ef, yes, no⟩
        refine wpAny_handleBy_cons (codeAny_handlers_test ?_) (by intro q; cases q)
        have looks : PySem.W.Looks (model X.prog X.w) g (typeOf (.ref a)) k := fun _ _ _ _ kp q => wpAny_typeOf_ref (kp _ _ there) (by rw [zc.1]; exact q)
        have cls : ∀ {Q E : Value → Shared → Prop}, Q c { z with heap := g } → wpAny (model X.prog X.w) (X.A.mark (some (.ref a))) (eval (.Name x p1) X.env) Q E { z with heap := g } := fun {Q E} q => by
          rcases nam with ⟨vis, dbg, e | ⟨e, e', e''⟩⟩
          · exact ld_glob (X := X.suite a ((a, oe) :: (X.pn ++ pins))) Sg vis e q dbg
          · exact ld_blt (X := X.suite a ((a, oe) :: (X.pn ++ pins))) Sg vis e e' q e'' dbg
        refine cls ((PySem.W.exm_one (M := model X.prog X.w) Jg.kIn looks ef).here ?_)
        cases fits with
        | false =>
          show wpAny _ X.A (handleBy (.ref a) X.env hs2) _ _ _
          exact ih (no rfl)
        | true =>
          refine codeAny_handlers_suite_as (HandSPX.lands_againZ lies fun g4 lies4 higher4 => ?_)
          have J4 : Inv X pins τ G { z with heap := g4 } := J.landed nb lies4.1 ((up.trans higher).trans higher4) os ag
          obtain ⟨o4, v4, there4, z4, dat4⟩ := lies4.there
          refine store_ok (X := X.suite a ((a, o4) :: (X.pn ++ pins))) (v := .ref a) (J4.suite there4 dat4 free aL aF) nd at_ (.inl loc) rfl (fun s5 J5 => ?_) (.inr loc)
          refine wpAny_mono ((run a o4 k d (X.pn ++ pins) z4 ⟨_, dat4⟩).run [] s5 _ G _ J5 (yes rfl a free)) (fun flow s6 q => ?_) (fun _ _ q => q.elim)
          have close : ∀ {τ6 : L2.St} {G6 : Hp} {Q : Shared → Prop}, Inv (X.suite a ((a, o4) :: (X.pn ++ pins))) [] τ6 G6 s6 → (∀ s7, Inv X pins (τ6.set i none) G6 s7 → Q s7) →
              wpAny (model X.prog X.w) X.A (do bindName X.env n .none; unbindBehindTheSuite X.env n p2) (fun _ s7 => Q s7) X.xe s6 := fun J6 q6 => gone_ok (J6.unsuite okI) nd at_ loc q6
          cases flow with
          | ret u => exact let ⟨_, _, _, J6, r6, q6⟩ := q; close J6 fun s7 J7 => ⟨_, _, _, J7, r6, q6⟩
          | next => exact let ⟨_, _, J6, q6⟩ := q; close J6 fun s7 J7 => ⟨_, _, J7, q6⟩
          | brk => exact let ⟨_, _, J6, q6⟩ := q; close J6 fun s7 J7 => ⟨_, _, J7, q6⟩
          | cont => exact let ⟨_, _, J6, q6⟩ := q; close J6 fun s7 J7 => ⟨_, _, J7, q6⟩
    exact each row w
  · cases flow with
    | ret u => exact let ⟨v, τ, G, J, r, q⟩ := done; ⟨v, τ, G, J.ofTry okI, r, q⟩
    | next => exact let ⟨τ, G, J, q⟩ := done; wpAny_execs_nil ⟨τ, G, J.ofTry okI, q⟩
    | brk => exact let ⟨τ, G, J, q⟩ := done; ⟨τ, G, J.ofTry okI, q⟩
    | cont => exact let ⟨τ, G, J, q⟩ := done; ⟨τ, G, J.ofTry okI, q⟩⟩
end
/-! ### C(e, k = v, ..) and o.m(e, ..) in a try -/
def tMakeKS (C : Addr) (n m : Nat) (sp : Sp) (gV : List V → List V → List V) (E : L2.St → XK) (t tk : TA) : TE := fun σ H Q => t σ H fun vs H1 => tk σ H1 fun zs H2 => vs.length = n ∧ zs.length = m ∧
  ∀ x dx, H2 x = none → H2 dx = none → dx ≠ x → sp (gV (.ref x :: vs) zs) (upd (upd H2 dx (.own x)) x (.ins C dx [])) (fun v H3 => v = .non ∧ Q (.ref x) H3) (E σ)
theorem pe_makeKS {X : Cx} {CX : CXT} {C f : Addr} {fd : FuncData} {k n : Nat} {ps ks : List Str} {sp : Sp} {x : Str} {p pos : Pos} {e : Expr} {es : List Expr} {kws : List Keyword} {t tk : TA} {E : L2.St → XK} {g : List Value → List Value → List Value} {gV : List V → List V → List V}
    (M : Mk X.K C f) (F : FnOk X.prog X.w X.K X.mg X.base CX k f fd ps sp) (hr : Room (k + 1) X.A) (vis : Gl X x) (at_ : X.mg x = some (.ref C)) (bind : KBn X.K fd ps (n + 1) ks g gV) (way : ∀ σ, PassesAt CX X σ (E σ)) (ha : PA X (e :: es) t) (hk : PK X kws tk)
    (all : (backToKw pos (keywordEach kws X.env)).all (·.1.isSome) = true := by rfl) (named : (backToKw pos (keywordEach kws X.env)).filterMap (·.1) = ks := by rfl) (dbg : (x == ("__debug__" : Str)) = false := by decide)
    (one : starEach (e :: es) X.env = (false, eval e X.env) :: starEach es X.env := by rfl) (nos : ((backTo pos (starEach (e :: es) X.env)).any (·.1) || (backToKw pos (keywordEach kws X.env)).any (·.1.isNone)) = false := by rfl) :
    PE X (.Call (.Name x p) (e :: es) kws pos) (tMakeKS C n ks.length sp gV E t tk) := ⟨fun pins s σ H Q I h => by
  refine wpAny_Call_Name_kw (ld_glob I vis at_ (PySem.W.callWith_KW (h₀ := X.base) I.ok.mod.kin M.kp all (thn (ha.run pos pins s σ H _ I h) fun us s1 z => ?_) nos one) dbg)
  obtain ⟨vs, H1, I1, r, q⟩ := z
  refine thn (hk.run pos pins s1 σ H1 _ I1 q) fun ws s2 z => ?_
  obtain ⟨zs, H2, I2, rz, l1, l2, q2⟩ := z
  let m := s2.heap.objs.size
  have here := q2 (m + 1) m (I2.hok.fresh (Nat.le_succ _)) (I2.hok.fresh (Nat.le_refl _)) (Nat.ne_of_lt (Nat.lt_succ_self _))
  have made := Inv.made (C := C) I2
  have many : (Value.ref (m + 1) :: us).length = n + 1 := congrArg Nat.succ (r.length.symm.trans l1)
  have rs := bind.rel (vs := V.ref (m + 1) :: vs) (us := Value.ref (m + 1) :: us) (.cons rfl r) rz
  have bs := bind.to ⟨_, s2.gens, s2.drawn, s2.toks, s2.os⟩ (Value.ref (m + 1) :: us) ws made.kIn many (rz.length.symm.trans l2)
  rw [named]
  refine ⟨I2.kIn, wpAny_call (make_map (f := f) I2.kIn M.makes M.init (beq_iff_eq.mp M.fn) (codeAny_mono (F.run _ X.stack _ _ ⟨Value.ref (m + 1) :: us, ks.zip ws⟩ (g (Value.ref (m + 1) :: us) ws) _ _ (E σ) (hr.make C us (ks.zip ws)) (made.env0.make C us (ks.zip ws)) bs rs here) fun r s' z => ?_))⟩
  cases r with
  | error er => exact way σ pins _ _ er s' made z
  | ok fl =>
    cases fl with
    | ret u => exact let ⟨v, G, J, rv, ev, q3⟩ := made.after z; by subst ev; exact ⟨rv, V.ref (m + 1), G, J, rfl, q3⟩
    | next => exact z.elim
    | brk => exact z.elim
    | cont => exact z.elim⟩
def tMethS (C : Addr) (m : Str) (sp : Sp) (E : L2.St → XK) (ta : TE) (t : TA) : TE := fun σ H Q => ta σ H fun x H1 => ∃ a dx fs, x = .ref a ∧ H1 a = some (.ins C dx fs) ∧ fs.lookup m = none ∧ t σ H1 fun vs H2 => sp (.ref a :: vs) H2 Q (E σ)
theorem pe_methS {X : Cx} {CX : CXT} {C f : Addr} {fd : FuncData} {k : Nat} {ps : List Str} {sp : Sp} {m : Str} {pos apos : Pos} {e o : Expr} {es : List Expr} {ta : TE} {t : TA} {E : L2.St → XK} {pl : Sem Bool} (ho : PE X o ta) (cls : Cls X.K C) (met : Meth X.K C m f)
    (F : FnOk X.prog X.w X.K X.mg X.base CX k f fd ps sp) (hr : Room k X.A) (bind : Binds X.K fd ps []) (way : ∀ σ, PassesAt CX X σ (E σ)) (ha : PA X (e :: es) t) (one : starEach (e :: es) X.env = (false, eval e X.env) :: starEach es X.env := by rfl)
    (nos : (backTo pos (starEach es X.env)).any (·.1) = false := by rfl)
    (runs : eval (.Call (.Attribute o m apos) (e :: es) [] pos) X.env = (do
      let obj ← eval o X.env
      standAt apos.atName
      let (g, hd) ← holding [obj] (getMethod obj m pl)
      callWith pos g hd (backTo pos (starEach (e :: es) X.env)) (backToKw pos (keywordEach [] X.env))) := by rfl) : PE X (.Call (.Attribute o m apos) (e :: es) [] pos) (tMethS C m sp E ta t) := ⟨fun pins s σ H Q I h => by
  refine PySem.W.methodCall_KW (pl := pl) (thn (ho.run pins s σ H _ I h) fun u s1 z => ?_) runs
  obtain ⟨x, H1, I1, rx, a, dx, fs, rfl, at_, none_, q⟩ := z
  cases (show u = Value.ref a from rx)
  refine getmeth_ok I1 at_ cls met none_ (PySem.W.callWith_K (first := [.ref a]) (h₀ := X.base) I.ok.mod.kin met.kp (thn (ha.run pos pins s1 σ H1 _ I1 q) fun us s2 z => ?_) one nos)
  obtain ⟨vs, H2, I2, r, q2⟩ := z
  exact ⟨I2.kIn, run_fnS (us := .ref a :: us) (vs := .ref a :: vs) F hr bind (way σ) I2 (.cons rfl r) q2⟩⟩
/-! ### a Function by its data -/
structure FD where
  nm : Str
  ar : Int
  res : PyData
  ws : List PyData
structure FdOk (F : FD) : Prop where
  nm : isName (.str F.nm) = true
  res : isTerm F.ar F.res = true
  zr : szD F.res = true
  ws : writesGo [] F.ws = true
  bt : badTerm F.ar F.ws = none
  zw : szDs F.ws = true
  few : F.ws.length ≤ 3
/-- a Function of these data, at a -/
def FunOf (K : PySem.W.Frag) (H : Hp) (CF a : Addr) (F : FD) : Prop := FdOk F ∧ ∃ (dx : Addr) (fs : List (Str × V)) (vr : V) (wa : Addr), H a = some (.ins CF dx fs) ∧ fs.lookup ("name" : Str) = some (.str F.nm) ∧ fs.lookup ("arguments" : Str) = some (.int F.ar) ∧
  fs.lookup ("result" : Str) = some vr ∧ Dp K H vr F.res ∧ fs.lookup ("writes" : Str) = some (.ref wa) ∧ Dp K H (.ref wa) (.tuple F.ws) ∧ fs.lookup ("parts" : Str) = none
theorem FunOf.same {K : PySem.W.Frag} {H H' : Hp} {CF a : Addr} {F : FD} (h : FunOf K H CF a F) (s : Same H H') : FunOf K H' CF a F := by
  obtain ⟨k, dx, fs, vr, wa, e, h1, h2, h3, h4, h5, h6, h7⟩ := h
  exact ⟨k, dx, fs, vr, wa, s _ _ e, h1, h2, h3, dp_same s h4, h5, dp_same s h6, h7⟩
theorem LabIn.ext {K : PySem.W.Frag} {H H' : Hp} {CL : Addr} {v : V} {lab : Option PyData} (h : LabIn K H CL v lab) (s : Same H H') : LabIn K H' CL v lab := by
  rcases h with ⟨a, i, rfl, rfl, l⟩ | ⟨d, rfl, hd⟩
  · exact .inl ⟨a, i, rfl, rfl, l.ext s⟩
  · exact .inr ⟨d, rfl, dp_same s hd⟩
theorem iteD {c A B : Prop} [Decidable c] (h : c) (a : A) : if decide c = true then A else B := by
  rw [decide_eq_true h]
  exact iteT a
theorem iteDN {c A B : Prop} [Decidable c] (h : ¬ c) (b : B) : if decide c = true then A else B := by
  rw [decide_eq_false h]
  exact iteF b
theorem fdOk_of {n : Str} {m : Int} {dr dw dc : PyData} {lab : Option PyData} (h : funOut (.str n) (.int m) dr lab dw dc = none) (zr : szD dr = true) (zw : szD dw = true) : FdOk ⟨n, m, dr, entries dw⟩ := by
  unfold funOut at h
  split at h
  · cases h
  · next e1 =>
    split at h
    · cases h
    · split at h
      · cases h
      · split at h
        · cases h
        · next e4 =>
          split at h
          · cases h
          · next e5 =>
            split at h
            · cases h
            · next e6 =>
              have e1 : isName (.str n) = true := by simpa using e1
              have e4 : isTerm m dr = true := by simpa [numOf] using e4
              have e5 : areWrites dw = true := by simpa using e5
              have e6 : badTerm m (entries dw) = none := by simpa [numOf] using e6
              refine ⟨e1, e4, zr, writes_of e5, e6, ?_, ?_⟩
              · match dw, e5, zw with
                | .list ds, _, z => exact szD_seqL z
                | .tuple ds, _, z => exact szD_seqT z
              · match dw, e5 with
                | .list ds, e => exact of_decide_eq_true (Bool.and_eq_true_iff.mp e).1
                | .tuple ds, e => exact of_decide_eq_true (Bool.and_eq_true_iff.mp e).1
theorem funOf_of {K : PySem.W.Frag} {H : Hp} {CF CL a dx : Addr} {fs : List (Str × V)} {n : Str} {m : Int} {vr vc : V} {dr dw dc : PyData} {lab : Option PyData} (e : H a = some (.ins CF dx fs)) {no : Nat → Prop} (T : FunAt K H CF CL dx fs (.str n) (.int m) vr vc dw no) (hr : Dp K H vr dr) (h : funOut (.str n) (.int m) dr lab dw dc = none) (zr : szD dr = true) (zw : szD dw = true) :
    FunOf K H CF a ⟨n, m, dr, entries dw⟩ := by
  obtain ⟨wa, e2, hw⟩ := T.wr
  exact ⟨fdOk_of h zr zw, dx, fs, vr, wa, e, T.name, T.args, T.res, hr, e2, hw, T.no3⟩
/-! ### Function.parts -/
abbrev sFParts : Stmt := inClass (topS 55) 4
theorem scFParts : FnScope ["self", "_", "term"] ["self"] (defScope sFParts) := ⟨rfl, rfl, rfl, by decide +kernel, rfl, by decide +kernel, by decide +kernel⟩
def sndD : PyData → PyData
  | .tuple [_, t] => t
  | d => d
def partsF (F : FD) : List PyData := F.res :: F.ws.map sndD
structure FldC (K : PySem.W.Frag) (CF : Addr) : Prop where
  cl : Cls K CF
  n1 : NoAttr K CF "name"
  n2 : NoAttr K CF "arguments"
  n3 : NoAttr K CF "result"
  n5 : NoAttr K CF "writes"
def spFParts (K : PySem.W.Frag) (CF : Addr) : Sp := fun vs H Q _ => ∃ (a : Addr) (F : FD), vs = [.ref a] ∧ FunOf K H CF a F ∧ ∀ p xs H', Same H H' → H' p = some (.lst xs) → DpAll K H' xs (partsF F) → Q (.ref p) H'
section
variable {P : Program} {w : World} {K : PySem.W.Frag} {mg : Str → Option Value} {base : Heap}
theorem ok_fparts {CF f : Addr} {fd : FuncData} (F : Fun K "parts" "Function.parts" sFParts f fd) (C : FldC K CF) : FnOk P w K mg base CX0 1 f fd ["self"] (spFParts K CF) := by
  refine F.ok scFParts (fun vs H Q E h => ?_) (fun cdv A outer s H vs Q E hr h => ?_)
  · obtain ⟨a, F, rfl, _⟩ := h
    rfl
  · obtain ⟨a, F, rfl, ⟨ok, dx, fs, vr, wa, ea, h1, h2, h3, hr3, h5, hw, _⟩, q⟩ := h
    refine ⟨_, pss_one (ps_ret (pe_op op_cat (pe_lst (pa_cons (pe_fld (pv 0) (by rfl)) pa_nil))
      (pe_lc (own := [("_", 1), ("term", 2)]) (g := gTup K 2 (gCons (gName 1) (gCons (gName 2) gNil))) (wi := iTup K (tFld K (tVar 0) "writes")) (tt := tYes) (te := tVar 2) (by rfl) scFParts.nd (pi_tup (pe_fld (pv 0) (by rfl)))
        (blkOk_by (own := [("_", 1), ("term", 2)]) (N := ["self", "_", "term"]) (sc := defScope sFParts) (by decide +kernel)) (fun _ _ _ _ _ => pg_tup (by rfl) (pgs_cons (pg_name (i := 1) scFParts.nd rfl (Or.inl rfl)) (pgs_cons (pg_name (i := 2) scFParts.nd rfl (Or.inl rfl)) pgs_nil))) (fun _ _ _ _ _ => pts_nil) (fun _ _ _ _ _ => pv 2)))), ?_⟩
    refine ⟨.ref a, rfl, a, CF, dx, fs, vr, rfl, ea, C.cl, C.n3, h3, by show 1 ≤ sizeLine; decide, fun p np => ?_⟩
    have s1 : Same H (upd H p (.lst [vr])) := same_upd np
    cases hw with
    | @tup _ xs _ hs hds =>
    refine ⟨.ref a, rfl, a, CF, dx, fs, .ref wa, rfl, s1 _ _ ea, C.cl, C.n5, h5, wa, rfl, ⟨_, same_sqT s1 hs⟩, fun D hD => ?_⟩
    have len := dpA_len hds
    have few := ok.few
    refine walk_gen (walk_tup (K := K) (a := wa) (xs := xs)) (fun i H' => Same (upd H p (.lst [vr])) H' ∧ ∃ acc, H' D = some (.lst acc) ∧ DpAll K H acc ((F.ws.take i).map sndD)) ⟨same_upd hD, [], upd_same, .nil⟩ (fun i H' _ p => same_sqT (s1.trans p.1) hs) (fun i x H2 H3 hi p y => ?_) (fun H' p => ?_)
    · obtain ⟨s2, acc, eD, ha⟩ := p
      obtain ⟨rfl, hx⟩ := y
      obtain ⟨di, hd, hxi⟩ := dpA_at hds hx
      obtain ⟨z, t, rfl⟩ := writes_at ok.ws hd
      have hi' : i < F.ws.length := (List.getElem?_eq_some_iff.mp hd).1
      cases hxi with
      | @tup b ys _ hb hy =>
      obtain ⟨y0, y1, rfl, hy0, hy1⟩ := dp_pair hy
      refine ⟨b, _, rfl, same_sqT (s1.trans s2) hb, rfl, y0, [y1], rfl, y1, [], rfl, rfl, rfl, ?_⟩
      unfold tYes
      refine iteT ⟨y1, rfl, acc, eD, ?_, fun b o e => ?_, acc ++ [y1], upd_same, ?_⟩
      · rw [dpA_len ha, List.length_map, List.length_take]
        exact Nat.lt_of_le_of_lt (show _ ≤ 3 by omega) (by decide)
      · rw [upd_ne (ne_of_none e hD)]
        exact s2 _ _ e
      · rw [take_snoc hd, List.map_append]
        exact dpA_app ha (.cons hy1 .nil)
    · obtain ⟨s2, acc, eD, ha⟩ := p
      rw [len, List.take_length] at ha
      have t2 := s1.trans s2
      refine ⟨p, D, [vr], acc, rfl, rfl, s2 _ _ upd_same, eD, ?_, fun l nl => ?_⟩
      · rw [dpA_len ha, List.length_map]
        exact Nat.le_trans (show _ ≤ 4 by simp; omega) (by decide)
      · exact q l _ _ (t2.trans (same_upd nl)) upd_same (dpA_same (t2.trans (same_upd nl)) (.cons hr3 (dpA_same (Same.refl _) ha)))
end
/-! ### how great a term is -/
abbrev sParts : Stmt := topS 31
theorem scParts : FnScope ["term", "parts", "level"] ["term"] (defScope sParts) := ⟨rfl, rfl, rfl, by decide +kernel, rfl, by decide +kernel, by decide +kernel⟩
/-- all levels one behind the other -/
def flatGo : Nat → List PyData → List PyData
  | 0, _ => []
  | f + 1, lv => lv ++ flatGo f (lv.flatMap inner)
def deepGo : Nat → List PyData → Nat
  | 0, _ => 0
  | _ + 1, [] => 0
  | f + 1, d :: ds => 1 + deepGo f ((d :: ds).flatMap inner)
def partsD (d : PyData) : List PyData := flatGo 9 [d]
def depthD (d : PyData) : Nat := deepGo 9 [d]
theorem flatGo_nil : ∀ f, flatGo f [] = []
  | 0 => rfl
  | f + 1 => by
    show [] ++ flatGo f [] = []
    rw [flatGo_nil f]
    rfl
/-- what stands of a term that is one -/
theorem goT_true {n : Int} {f deep many : Nat} {lv : List PyData} (hne : lv ≠ []) (h : goT n f lv deep many = true) : ∃ g, f = g + 1 ∧ lv.all (hasForm n) = true ∧ many + lv.length ≤ 30 ∧ goT n g (lv.flatMap inner) (deep + 1) (many + lv.length) = true := by
  cases f with
  | zero => cases h
  | succ g =>
    rw [goT_cons hne] at h
    have h1 := Bool.and_eq_true_iff.mp h
    have h2 := Bool.and_eq_true_iff.mp h1.2
    refine ⟨g, rfl, h2.1, ?_, h2.2⟩
    have h3 : ¬ (8 < deep + 1 ∨ 30 < many + lv.length) := of_decide_eq_false (by simpa using h1.1)
    omega
def spParts (K : PySem.W.Frag) : Sp := fun vs H Q _ => ∃ (v : V) (d : PyData) (n : Int), vs = [v] ∧ Dp K H v d ∧ szD d = true ∧ isTerm n d = true ∧
  ∀ p xs H', Same H H' → H p = none → H' p = some (.lst xs) → DpAll K H xs (partsD d) → xs.length ≤ 30 → Q (.ref p) H'
/-- a number told of a term -/
def spNum (K : PySem.W.Frag) (g : PyData → Int) : Sp := fun vs H Q _ => ∃ (v : V) (d : PyData) (n : Int), vs = [v] ∧ Dp K H v d ∧ szD d = true ∧ isTerm n d = true ∧ ∀ H', Same H H' → Q (.int (g d)) H'
section
variable {P : Program} {w : World} {K : PySem.W.Frag} {mg : Str → Option Value} {base : Heap}
theorem ok_parts {f fX : Addr} {fd dX : FuncData} (F : Fun K "all_parts" "all_parts" sParts f fd)
    (GX : FnOk P w K mg base CX0 4 fX dX ["level"] (spNext K)) (FX : Fun K "_next_level" "_next_level" sNext fX dX) (bX : Binds K dX ["level"] []) (gX : mg "_next_level" = some (.ref fX)) :
    FnOk P w K mg base CX0 5 f fd ["term"] (spParts K) := by
  refine F.ok scParts (fun vs H Q E h => ?_) (fun cdv A outer s H vs Q E hr h => ?_)
  · obtain ⟨v, d, n, rfl, _⟩ := h
    rfl
  · obtain ⟨v, d, n, rfl, hv, hsz, ht, q⟩ := h
    refine ⟨_, pss_cons (ps_set (i := 1) scParts.nd rfl (.inl rfl) (pe_lst pa_nil))
      (pss_cons (ps_set (i := 2) scParts.nd rfl (.inl rfl) (pe_lst (pa_cons (pv 0) pa_nil)))
      (pss_cons (ps_while PassesOwn.never (pt_truth (pv 2) (by intro _; rfl))
        (pss_cons (ps_expr (pe_bm PySem.F.plainAttrs_list PySem.F.slot_list_extend PySem.F.type_list_extend mt_extend (pv 1) (pa_cons (pv 2) pa_nil)))
        (pss_one (ps_set (i := 2) scParts.nd rfl (.inl rfl) (pe_call GX hr (by rfl) gX FX.kp bX .nil pass0 (pa_cons (pv 2) pa_nil))))))
      (pss_one (ps_ret (pv 1))))), ?_⟩
    refine ⟨Nat.zero_le _, fun o no => ?_⟩
    refine ⟨v, rfl, (by show 1 ≤ sizeLine; decide), fun a0 na0 => ?_⟩
    have noa : o ≠ a0 := fun e => by
      rw [← e, upd_same] at na0
      cases na0
    dsimp only [gName]
    refine q_w (σ := [some v, some (.ref o), some (.ref a0)]) ?_
    refine wh_by (fun f σ H' => ∃ (a : Addr) (xs acc : List V) (lv pre : List PyData) (deep : Nat), σ = [some v, some (.ref o), some (.ref a)] ∧ a ≠ o ∧ Same H H' ∧ H' a = some (.lst xs) ∧ H' o = some (.lst acc) ∧ DpAll K H xs lv ∧ DpAll K H acc pre ∧ pre.length ≤ 30 ∧ szDs lv = true ∧ lv.length ≤ 3000 ∧ (lv = [] ∨ goT n f lv deep pre.length = true) ∧ pre ++ flatGo f lv = partsD d)
      9 ⟨a0, [v], [], [d], [], 0, rfl, noa.symm, (same_upd no).trans (same_upd na0), upd_same, by rw [upd_ne noa]; exact upd_same, .cons hv .nil, .nil, by decide, (by show (szD d && true) = true; rw [hsz]; rfl), (by show 1 ≤ 3000; decide), .inr ht, rfl⟩ (fun f σ H' hW => ?_) (fun σ H' Q1 Q2 hq ⟨x, e, k, t, q⟩ => ⟨x, e, k, t, hq _ _ q⟩)
    obtain ⟨a, xs, acc, lv, pre, deep, rfl, nao, s1, ea, eo, ha, hp, hpl, hz, hln, hg, hfl⟩ := hW
    have el : xs.length = lv.length := dpA_len ha
    have elp : acc.length = pre.length := dpA_len hp
    have hS : SqL K H' a xs := .inl (.inl ea)
    refine ⟨.ref a, rfl, _, .inl ⟨xs, hS, rfl⟩, ?_⟩
    by_cases hne : lv = []
    · have ex : xs = [] := List.eq_nil_of_length_eq_zero (by rw [el, hne]; rfl)
      subst ex
      refine iteF ⟨.ref o, rfl, q o acc H' s1 no eo ?_ (by omega)⟩
      rw [← hfl, hne, flatGo_nil, List.append_nil]
      exact hp
    · have ex : (!xs.isEmpty) = true := by
        cases xs with
        | nil => exact absurd (List.eq_nil_of_length_eq_zero el.symm) hne
        | cons _ _ => rfl
      rw [ex]
      obtain ⟨g, rfl, hb, hm, hg2⟩ := goT_true hne (hg.resolve_left hne)
      have hfl2 := flat_len hb
      refine iteT ⟨.ref o, rfl, .inl ⟨rfl, _, .inl (.inl eo)⟩, .ref a, rfl, o, a, acc, xs, rfl, rfl, eo, ea, ?_, ?_⟩
      · rw [elp, el]
        exact Nat.le_trans (show pre.length + lv.length ≤ 60 by omega) (by decide)
      · have s2 : Same H (upd H' o (.lst (acc ++ xs))) := fun b u e => by
          rw [upd_ne (ne_of_none e no)]
          exact s1 _ _ e
        have ea2 : (upd H' o (.lst (acc ++ xs))) a = some (.lst xs) := by
          rw [upd_ne nao]
          exact ea
        refine ⟨.ref a, rfl, a, xs, lv, n, H, rfl, s2, .inl (.inl ea2), ha, hz, hb, by omega, by omega, fun p ys H5 s5 np e5 hys => ?_⟩
        have npo : p ≠ o := fun e => by
          rw [e, upd_same] at np
          cases np
        refine ⟨g, Nat.lt_succ_self _, p, ys, acc ++ xs, lv.flatMap inner, pre ++ lv, deep + 1, rfl, npo, s2.trans s5, e5, s5 _ _ upd_same, hys, dpA_app hp ha, ?_, sz_flat hz, by omega, .inr ?_, ?_⟩
        · rw [List.length_append]
          exact hm
        · rw [List.length_append]
          exact hg2
        · rw [← hfl, List.append_assoc]
          rfl
theorem deepGo_nil : ∀ f, deepGo f [] = 0
  | 0 => rfl
  | _ + 1 => rfl
theorem deepGo_cons {f : Nat} {lv : List PyData} (h : lv ≠ []) : deepGo (f + 1) lv = 1 + deepGo f (lv.flatMap inner) := by
  cases lv with
  | nil => exact absurd rfl h
  | cons d ds => rfl
end
/-! ### levels and what stands within -/
def szF : Nat → PyData → Nat
  | 0, _ => 0
  | f + 1, d => 1 + ((inner d).map (szF f)).sum
def dpF : Nat → PyData → Nat
  | 0, _ => 0
  | f + 1, d => 1 + ((inner d).map (dpF f)).foldr max 0
def fmF (n : Int) : Nat → PyData → Bool
  | 0, _ => true
  | f + 1, d => hasForm n d && (inner d).all (fmF n f)
def sums (g : PyData → Nat) (l : List PyData) : Nat := (l.map g).sum
def most (g : PyData → Nat) (l : List PyData) : Nat := (l.map g).foldr max 0
theorem sums_app {g : PyData → Nat} {a b : List PyData} : sums g (a ++ b) = sums g a + sums g b := by
  unfold sums
  rw [List.map_append, List.sum_append]
theorem most_app {g : PyData → Nat} : ∀ {a b : List PyData}, most g (a ++ b) = max (most g a) (most g b)
  | [], b => by
    show most g b = max 0 (most g b)
    omega
  | d :: a, b => by
    show max (g d) (most g (a ++ b)) = max (max (g d) (most g a)) (most g b)
    rw [most_app]
    omega
theorem sums_flat {f : Nat} : ∀ {l : List PyData}, sums (szF (f + 1)) l = l.length + sums (szF f) (l.flatMap inner)
  | [] => rfl
  | d :: l => by
    rw [List.flatMap_cons, sums_app]
    show (1 + sums (szF f) (inner d)) + sums (szF (f + 1)) l = (l.length + 1) + _
    rw [sums_flat]
    omega
theorem most_flat {f : Nat} : ∀ {l : List PyData}, l ≠ [] → most (dpF (f + 1)) l = 1 + most (dpF f) (l.flatMap inner)
  | [], h => absurd rfl h
  | [d], _ => by
    rw [List.flatMap_cons, List.flatMap_nil, List.append_nil]
    show max (1 + most (dpF f) (inner d)) 0 = _
    omega
  | d :: e :: l, _ => by
    rw [List.flatMap_cons, most_app]
    have h := most_flat (f := f) (l := e :: l) (List.cons_ne_nil _ _)
    show max (1 + most (dpF f) (inner d)) (most (dpF (f + 1)) (e :: l)) = _
    rw [h]
    omega
theorem all_flat {n : Int} {f : Nat} : ∀ {l : List PyData}, l.all (fmF n (f + 1)) = (l.all (hasForm n) && (l.flatMap inner).all (fmF n f))
  | [] => rfl
  | d :: l => by
    rw [List.flatMap_cons, List.all_append, List.all_cons, List.all_cons, all_flat]
    show ((hasForm n d && (inner d).all (fmF n f)) && (l.all (hasForm n) && (l.flatMap inner).all (fmF n f))) = _
    cases hasForm n d <;> cases (inner d).all (fmF n f) <;> cases l.all (hasForm n) <;> cases (l.flatMap inner).all (fmF n f) <;> rfl
theorem goT_is {n : Int} : ∀ (f : Nat) (lv : List PyData) (deep many : Nat), f + deep = 9 → 1 ≤ f → many ≤ 30 → goT n f lv deep many = (lv.all (fmF n f) && (decide (many + sums (szF f) lv ≤ 30) && decide (deep + most (dpF f) lv ≤ 8)))
  | 0, _, _, _, _, h, _ => absurd h (by decide)
  | f + 1, [], deep, many, hf, _, hm => by
    show true = (true && (decide (many + 0 ≤ 30) && decide (deep + 0 ≤ 8)))
    rw [decide_eq_true (show many + 0 ≤ 30 by omega), decide_eq_true (show deep + 0 ≤ 8 by omega)]
    rfl
  | f + 1, d :: ds, deep, many, hf, _, hm => by
    have hne : d :: ds ≠ [] := List.cons_ne_nil _ _
    generalize d :: ds = lv at hne
    rw [goT_cons hne, all_flat, sums_flat, most_flat hne]
    by_cases h1 : 8 < deep + 1 ∨ 30 < many + lv.length
    · rw [decide_eq_true h1]
      have h2 : (decide (many + (lv.length + sums (szF f) (lv.flatMap inner)) ≤ 30) && decide (deep + (1 + most (dpF f) (lv.flatMap inner)) ≤ 8)) = false := by
        rcases h1 with h1 | h1
        · rw [decide_eq_false (show ¬ deep + (1 + most (dpF f) (lv.flatMap inner)) ≤ 8 by omega), Bool.and_false]
        · rw [decide_eq_false (show ¬ many + (lv.length + sums (szF f) (lv.flatMap inner)) ≤ 30 by omega)]
          rfl
      rw [h2, Bool.and_false]
      rfl
    · rw [decide_eq_false h1]
      rw [goT_is f _ (deep + 1) (many + lv.length) (by omega) (by omega) (by omega)]
      have e1 : decide (many + lv.length + sums (szF f) (lv.flatMap inner) ≤ 30) = decide (many + (lv.length + sums (szF f) (lv.flatMap inner)) ≤ 30) := by
        rw [Nat.add_assoc]
      have e2 : decide (deep + 1 + most (dpF f) (lv.flatMap inner) ≤ 8) = decide (deep + (1 + most (dpF f) (lv.flatMap inner)) ≤ 8) := by
        rw [Nat.add_assoc]
      rw [e1, e2]
      cases lv.all (hasForm n) <;> cases (lv.flatMap inner).all (fmF n f) <;> rfl
theorem isTerm_is (n : Int) (d : PyData) : isTerm n d = (fmF n 9 d && (decide (szF 9 d ≤ 30) && decide (dpF 9 d ≤ 8))) := by
  unfold isTerm
  rw [goT_is 9 [d] 0 0 rfl (by decide) (by decide)]
  have e1 : sums (szF 9) [d] = szF 9 d := by
    show szF 9 d + 0 = _
    omega
  have e2 : most (dpF 9) [d] = dpF 9 d := by
    show max (dpF 9 d) 0 = _
    omega
  rw [e1, e2, Nat.zero_add, Nat.zero_add]
  show ((fmF n 9 d && true) && _) = _
  rw [Bool.and_true]
theorem flatGo_len : ∀ (f : Nat) (lv : List PyData), (flatGo f lv).length = sums (szF f) lv
  | 0, lv => by
    show 0 = sums (fun _ => 0) lv
    unfold sums
    induction lv with
    | nil => rfl
    | cons d l ih => rw [List.map_cons, List.sum_cons, ← ih]
  | f + 1, lv => by
    show (lv ++ flatGo f (lv.flatMap inner)).length = _
    rw [List.length_append, flatGo_len f, sums_flat]
theorem deepGo_is : ∀ (f : Nat) (lv : List PyData), deepGo f lv = most (dpF f) lv
  | 0, lv => by
    show 0 = most (fun _ => 0) lv
    induction lv with
    | nil => rfl
    | cons d l ih =>
      show 0 = max 0 (most _ l)
      rw [← ih]
      rfl
  | _ + 1, [] => rfl
  | f + 1, d :: ds => by
    rw [deepGo_cons (List.cons_ne_nil _ _), most_flat (List.cons_ne_nil _ _), deepGo_is f]
theorem partsD_len (d : PyData) : (partsD d).length = szF 9 d := by
  unfold partsD
  rw [flatGo_len]
  show szF 9 d + 0 = _
  omega
theorem depthD_is (d : PyData) : depthD d = dpF 9 d := by
  unfold depthD
  rw [deepGo_is]
  show max (dpF 9 d) 0 = _
  omega
/-! ### chains and trees -/
/-- a word with two terms -/
def bin (h : Str) : Prop := h = "plus" ∨ h = "less" ∨ h = "same"
theorem bin_form {h : Str} (hb : bin h) (n : Int) (a b : PyData) : hasForm n (.tuple [.str h, a, b]) = true := by
  rcases hb with rfl | rfl | rfl <;> rfl
theorem bin_inner {h : Str} (hb : bin h) (a b : PyData) : inner (.tuple [.str h, a, b]) = [a, b] := by
  rcases hb with rfl | rfl | rfl <;> rfl
theorem bin_sz {h : Str} (hb : bin h) {a b : PyData} (ha : szD a = true) (hbb : szD b = true) : szD (.tuple [.str h, a, b]) = true := by
  have e : szD (.str h) = true := by rcases hb with rfl | rfl | rfl <;> decide +kernel
  show (decide (3 ≤ 1000) && (szD (.str h) && (szD a && (szD b && true)))) = true
  rw [e, ha, hbb]
  rfl
theorem bin_noL {h : Str} {a b : PyData} (ha : noL a = true) (hbb : noL b = true) : noL (.tuple [.str h, a, b]) = true := by
  show (true && (noL a && (noL b && true))) = true
  rw [ha, hbb]
  rfl
theorem bin_szF {h : Str} (hb : bin h) (a b : PyData) (f : Nat) : szF (f + 1) (.tuple [.str h, a, b]) = 1 + szF f a + szF f b := by
  show 1 + ((inner (.tuple [.str h, a, b])).map (szF f)).sum = _
  rw [bin_inner hb]
  show 1 + (szF f a + (szF f b + 0)) = _
  omega
theorem bin_dpF {h : Str} (hb : bin h) (a b : PyData) (f : Nat) : dpF (f + 1) (.tuple [.str h, a, b]) = 1 + max (dpF f a) (dpF f b) := by
  show 1 + ((inner (.tuple [.str h, a, b])).map (dpF f)).foldr max 0 = _
  rw [bin_inner hb]
  show 1 + max (dpF f a) (max (dpF f b) 0) = _
  omega
theorem bin_fmF {h : Str} (hb : bin h) {a b : PyData} {n : Int} {f : Nat} (ha : fmF n f a = true) (hbb : fmF n f b = true) : fmF n (f + 1) (.tuple [.str h, a, b]) = true := by
  show (hasForm n (.tuple [.str h, a, b]) && (inner (.tuple [.str h, a, b])).all (fmF n f)) = true
  rw [bin_form hb, bin_inner hb]
  show (true && (fmF n f a && (fmF n f b && true))) = true
  rw [ha, hbb]
  rfl
theorem val_inner (i : Int) : inner (.int i) = [] := rfl
theorem val_szF (i : Int) (f : Nat) : szF (f + 1) (.int i) = 1 := rfl
theorem val_dpF (i : Int) (f : Nat) : dpF (f + 1) (.int i) = 1 := rfl
theorem val_fmF {i : Int} (h0 : 0 ≤ i) (h3 : i < 3) (n : Int) : ∀ f : Nat, fmF n f (.int i) = true
  | 0 => rfl
  | f + 1 => by
    show ((isValue (.int i) || false) && true) = true
    have e : isValue (.int i) = true := by
      show (decide (0 ≤ i) && decide (i < 3)) = true
      rw [decide_eq_true h0, decide_eq_true h3]
      rfl
    rw [e]
    rfl
/-- a chain of k -/
structure Ch (k : Nat) (d : PyData) : Prop where
  pos : 1 ≤ k
  fm : ∀ (n : Int) (f : Nat), fmF n f d = true
  dp : ∀ f, dpF f d = min k f
  sz : ∀ f, k ≤ f → szF f d = 2 * k - 1
  ok : szD d = true
  nl : noL d = true
theorem ch_one {i : Int} (h0 : 0 ≤ i) (h3 : i < 3) : Ch 1 (.int i) where
  pos := Nat.le_refl _
  fm := fun n f => val_fmF h0 h3 n f
  dp := fun f => by
    cases f with
    | zero => rfl
    | succ f =>
      rw [val_dpF]
      omega
  sz := fun f hf => by
    cases f with
    | zero => omega
    | succ f => rfl
  ok := rfl
  nl := rfl
theorem ch_left {h : Str} (hb : bin h) {k : Nat} {d : PyData} (c : Ch k d) {i : Int} (h0 : 0 ≤ i) (h3 : i < 3) : Ch (k + 1) (.tuple [.str h, d, .int i]) where
  pos := Nat.le_add_left _ _
  fm := fun n f => by
    cases f with
    | zero => rfl
    | succ f => exact bin_fmF hb (c.fm n f) (val_fmF h0 h3 n f)
  dp := fun f => by
    cases f with
    | zero => rfl
    | succ f =>
      have := c.pos
      rw [bin_dpF hb, c.dp]
      cases f with
      | zero =>
        show 1 + max (min k 0) 0 = _
        omega
      | succ f =>
        rw [val_dpF]
        omega
  sz := fun f hf => by
    cases f with
    | zero => omega
    | succ f =>
      have := c.pos
      rw [bin_szF hb, c.sz f (by omega)]
      cases f with
      | zero => omega
      | succ f =>
        rw [val_szF]
        omega
  ok := bin_sz hb c.ok rfl
  nl := bin_noL c.nl rfl
theorem ch_right {h : Str} (hb : bin h) {k : Nat} {d : PyData} (c : Ch k d) {i : Int} (h0 : 0 ≤ i) (h3 : i < 3) : Ch (k + 1) (.tuple [.str h, .int i, d]) where
  pos := Nat.le_add_left _ _
  fm := fun n f => by
    cases f with
    | zero => rfl
    | succ f => exact bin_fmF hb (val_fmF h0 h3 n f) (c.fm n f)
  dp := fun f => by
    cases f with
    | zero => rfl
    | succ f =>
      have := c.pos
      rw [bin_dpF hb, c.dp]
      cases f with
      | zero =>
        show 1 + max 0 (min k 0) = _
        omega
      | succ f =>
        rw [val_dpF]
        omega
  sz := fun f hf => by
    cases f with
    | zero => omega
    | succ f =>
      have := c.pos
      rw [bin_szF hb, c.sz f (by omega)]
      cases f with
      | zero => omega
      | succ f =>
        rw [val_szF]
        omega
  ok := bin_sz hb rfl c.ok
  nl := bin_noL rfl c.nl
theorem ch_isTerm {k : Nat} {d : PyData} (c : Ch k d) (n : Int) : isTerm n d = decide (k ≤ 8) := by
  rw [isTerm_is, c.fm, c.dp]
  by_cases h : k ≤ 8
  · rw [c.sz 9 (by omega), decide_eq_true h, decide_eq_true (show 2 * k - 1 ≤ 30 by omega), decide_eq_true (show min k 9 ≤ 8 by omega)]
    rfl
  · rw [decide_eq_false h, decide_eq_false (show ¬ min k 9 ≤ 8 by omega), Bool.and_false]
    rfl
/-- a tree of m leaves, at most h deep -/
structure Tr (m h : Nat) (d : PyData) : Prop where
  pos : 1 ≤ h
  mp : 1 ≤ m
  fm : ∀ (n : Int) (f : Nat), fmF n f d = true
  dp : ∀ f, dpF f d ≤ h
  sz : ∀ f, h ≤ f → szF f d = 2 * m - 1
  ok : szD d = true
  nl : noL d = true
theorem tr_one {i : Int} (h0 : 0 ≤ i) (h3 : i < 3) {h : Nat} (hh : 1 ≤ h) : Tr 1 h (.int i) where
  pos := hh
  mp := Nat.le_refl _
  fm := fun n f => val_fmF h0 h3 n f
  dp := fun f => by
    cases f with
    | zero => exact Nat.zero_le _
    | succ f =>
      rw [val_dpF]
      exact hh
  sz := fun f hf => by
    cases f with
    | zero => omega
    | succ f => rfl
  ok := rfl
  nl := rfl
theorem Tr.mono {m h h' : Nat} {d : PyData} (t : Tr m h d) (hh : h ≤ h') : Tr m h' d :=
  ⟨Nat.le_trans t.pos hh, t.mp, t.fm, fun f => Nat.le_trans (t.dp f) hh, fun f hf => t.sz f (Nat.le_trans hh hf), t.ok, t.nl⟩
theorem tr_two {w : Str} (hb : bin w) {m1 m2 h : Nat} {a b : PyData} (ta : Tr m1 h a) (tb : Tr m2 h b) : Tr (m1 + m2) (h + 1) (.tuple [.str w, a, b]) where
  pos := Nat.le_add_left _ _
  mp := Nat.le_trans ta.mp (Nat.le_add_right _ _)
  fm := fun n f => by
    cases f with
    | zero => rfl
    | succ f => exact bin_fmF hb (ta.fm n f) (tb.fm n f)
  dp := fun f => by
    cases f with
    | zero => exact Nat.zero_le _
    | succ f =>
      have := ta.dp f
      have := tb.dp f
      rw [bin_dpF hb]
      omega
  sz := fun f hf => by
    cases f with
    | zero => omega
    | succ f =>
      have := ta.mp
      have := tb.mp
      rw [bin_szF hb, ta.sz f (by omega), tb.sz f (by omega)]
      omega
  ok := bin_sz hb ta.ok tb.ok
  nl := bin_noL ta.nl tb.nl
theorem tr_isTerm {m h : Nat} {d : PyData} (t : Tr m h d) (n : Int) (hh : h ≤ 8) : isTerm n d = decide (2 * m - 1 ≤ 30) := by
  rw [isTerm_is, t.fm, t.sz 9 (by omega), decide_eq_true (Nat.le_trans (t.dp 9) hh), Bool.and_true]
  rfl
/-! ### names once, ascending -/
section
variable {X : Cx}
/-- what holds of a text in the block of a comprehension -/
abbrev InBlk (X : Cx) (scope : Scope) (p : Cx → Prop) : Prop :=
  ∀ (s0 : Shared) (H0 : Hp) (at_ : Addr) (cells : List (Str × Addr)) (mine : List Addr), p (X.blk s0 H0 scope (compEnvC scope cells at_ X.env) mine)
/-- name = {k: v for target in iter} -/
theorem ps_setDc {i : Nat} {y : Str} {py : Pos} {kx vx tg iter : Expr} {ifs : List Expr} {scope : Scope} {own : List (Str × Nat)} {pos spos : Pos} {wi : TI} {g : TG} {tt : TT} {tk tv : TE} (calm : X.calm = true) (unlike : X.N.Nodup) (slot : X.N[i]? = some y)
    (here : X.env.scope.names.lookup y = some .local) (swaps : swapsWith (.DictComp kx vx [⟨tg, iter, ifs, 0⟩] scope pos) (some (.Name y py)) spos.line X.env = pure true) (walk : PI X tg iter wi) (blk : BlkOk X.N X.env.scope scope own)
    (rg : InBlk X scope fun Y => PG Y tg g) (rt : InBlk X scope fun Y => PTs Y ifs tt) (rk : InBlk X scope fun Y => PE Y kx tk) (rv : InBlk X scope fun Y => PE Y vx tv) (plain : ∀ v, foldedSetIterable iter X.env v = pure v := by intro _; rfl) :
    PS X (.Assign [.Name y py] (.DictComp kx vx [⟨tg, iter, ifs, 0⟩] scope pos) spos) (tAsg (tDc wi g tt tk tv (own.map (·.2))) (gName i)) := by
  constructor
  intro pins st σ H D inv want
  have want' : tDc wi g tt tk tv (own.map (·.2)) σ H (fun made Hm => gName i made σ Hm D.nx) := want
  have run := dc_core (pos := pos) (pos' := firstIterPos [⟨tg, iter, ifs, 0⟩] pos) (use := some (assign (.Name y py) X.env)) (Qf := fun _ st' => SP X pins D .next st') calm unlike inv walk blk rg rt rk rv plain want' (fun made C st' m Hm inv' good names free => by
    refine wpAny_assign_Name (store_ok2 (v := V.ref made) inv' unlike slot (Or.inl here) (show RelV (V.ref made) (Value.ref made) from rfl) (fun st2 inv2 moved => ?_) (Or.inr here))
    obtain ⟨cell, other, where_⟩ := moved
    have apart : C ≠ cell := where_.elim (fun h => h ▸ free.2.1) (fun h q => free.2.2.2.2.1 y cell h q.symm)
    exact ⟨m, names.sameBut other apart, fun last other2 => ⟨_, Hm, inv2.turned (t' := st2.toks) (fun b o nb old => (other2.2 b nb).trans old) free.1 free.2.1 free.2.2.2.1 free.2.2.2.2.1 free.2.2.2.2.2, good⟩⟩)
  rw [exec_Assign_Name_used (hs := swaps)]
  exact wpAny_bind (wpAny_standAt (wpAny_bind (wpAny_bind (thn run fun _ st' done => wpAny_pure (wpAny_pure done)))))
theorem swd_true {kx vx : Expr} {gs : List Comprehension} {scope : Scope} {pos py : Pos} {y : Str} {l : Nat} {env : Env} (fn : env.scope.kind = .function) (here : env.scope.names.lookup y = some .local) (line : (py.line == pos.line) = true)
    (none_ : (scope.names.any fun (n, k) => n == y && (k == .local || k == .cell)) = false) : swapsWith (.DictComp kx vx gs scope pos) (some (.Name y py)) l env = pure true := by
  have kindY : env.kindOf y = some .local := here
  have kindB : env.blockKind = .function := (show _ = _ by rw [Env.blockKind, fn]; rfl)
  simp only [swapsWith, kindY, kindB, none_, line, Expr.pos]
  rfl
end
def addS (acc : List Str) (x : Str) : List Str := if x ∈ acc then acc else acc ++ [x]
def onceS (xs : List Str) : List Str := xs.foldl addS []
theorem mem_addS {acc : List Str} {x y : Str} : y ∈ addS acc x ↔ y ∈ acc ∨ y = x := by
  unfold addS
  split
  · rename_i h
    constructor
    · exact .inl
    · rintro (h2 | rfl)
      · exact h2
      · exact h
  · rw [List.mem_append, List.mem_singleton]
theorem nodup_addS {acc : List Str} {x : Str} (h : acc.Nodup) : (addS acc x).Nodup := by
  unfold addS
  split
  · exact h
  · rename_i hx
    rw [List.nodup_append]
    refine ⟨h, by simp, fun a ha b hb e => ?_⟩
    rw [List.mem_singleton] at hb
    subst hb
    subst e
    exact hx ha
theorem len_addS {acc : List Str} {x : Str} : (addS acc x).length ≤ acc.length + 1 := by
  unfold addS
  split
  · omega
  · rw [List.length_append]
    exact Nat.le_refl _
theorem onceS_snoc {xs : List Str} {x : Str} : onceS (xs ++ [x]) = addS (onceS xs) x := by
  unfold onceS
  rw [List.foldl_append]
  rfl
theorem fold_mem : ∀ {xs acc : List Str} {y : Str}, y ∈ xs.foldl addS acc ↔ y ∈ acc ∨ y ∈ xs
  | [], _, _ => by simp
  | x :: xs, acc, y => by
    rw [List.foldl_cons, fold_mem, mem_addS, List.mem_cons, or_assoc]
theorem fold_nodup : ∀ {xs acc : List Str}, acc.Nodup → (xs.foldl addS acc).Nodup
  | [], _, h => h
  | x :: xs, acc, h => fold_nodup (xs := xs) (nodup_addS h)
theorem fold_len : ∀ {xs acc : List Str}, (xs.foldl addS acc).length ≤ acc.length + xs.length
  | [], _ => Nat.le_refl _
  | x :: xs, acc => by
    have h1 := fold_len (xs := xs) (acc := addS acc x)
    have h2 := len_addS (acc := acc) (x := x)
    rw [List.foldl_cons, List.length_cons]
    omega
theorem onceS_mem {xs : List Str} {y : Str} : y ∈ onceS xs ↔ y ∈ xs := by
  unfold onceS
  rw [fold_mem]
  simp
theorem onceS_nodup {xs : List Str} : (onceS xs).Nodup := fold_nodup .nil
theorem onceS_len {xs : List Str} : (onceS xs).length ≤ xs.length := by
  have := fold_len (xs := xs) (acc := [])
  unfold onceS
  simpa using this
theorem keys_put {kvs : List (Key × V)} {ks : List Str} (h : kvs.map (·.1) = ks.map Sum.inr) (x : Str) (v : V) : (putK kvs (.inr x : Key) v).map (·.1) = (addS ks x).map Sum.inr := by
  have e : (kvs.any fun kv => decide (kv.1 = (.inr x : Key))) = decide (x ∈ ks) := by
    have e1 : (kvs.any fun kv => decide (kv.1 = (.inr x : Key))) = (kvs.map (·.1)).any (fun k => decide (k = (.inr x : Key))) := by
      rw [List.any_map]
      rfl
    rw [e1, h, List.any_map, Bool.eq_iff_iff]
    simp
  unfold putK
  rw [e]
  unfold addS
  by_cases hx : x ∈ ks
  · rw [decide_eq_true hx, if_pos rfl, if_pos hx, ← h, List.map_map]
    refine List.map_congr_left fun kv _ => ?_
    show (if kv.1 = (.inr x : Key) then (kv.1, v) else kv).1 = kv.1
    split <;> rfl
  · rw [decide_eq_false hx, if_neg (by decide), if_neg hx, List.map_append, h, List.map_append]
    rfl
abbrev sAsc : Stmt := topS 34
theorem scAsc : FnScope ["names", "once", "name"] ["names"] (defScope sAsc) := ⟨rfl, rfl, rfl, by decide +kernel, rfl, by decide +kernel, by decide +kernel⟩
def spAsc (K : PySem.W.Frag) : Sp := fun vs H Q _ => ∃ (a : Addr) (xs : List Str), vs = [.ref a] ∧ SqL K H a (xs.map V.str) ∧ xs.length < 64 ∧
  ∀ (ys : List Str) (p : Addr) H', Same H H' → H' p = some (.lst (ys.map V.str)) → ys.Perm (onceS xs) → sortedS ys = true → Q (.ref p) H'
section
variable {P : Program} {w : World} {K : PySem.W.Frag} {mg : Str → Option Value} {base : Heap}
theorem ok_asc {f : Addr} {fd : FuncData} (F : Fun K "_ascending" "_ascending" sAsc f fd) (M : Blt mg) : FnOk P w K mg base CX0 1 f fd ["names"] (spAsc K) := by
  refine F.ok scAsc (fun vs H Q E h => ?_) (fun cdv A outer s H vs Q E hr h => ?_)
  · obtain ⟨a, xs, rfl, _⟩ := h
    rfl
  · obtain ⟨a, xs, rfl, hS, hl, q⟩ := h
    refine ⟨_, pss_cons (ps_setDc (i := 1) (own := [("name", 2)]) (g := gName 2) (tk := tVar 2) (tv := tC (.bl true)) (by rfl) scAsc.nd rfl rfl (swd_true rfl rfl rfl (by decide +kernel)) (pi_list (pv 0)) (blkOk_by (own := [("name", 2)]) (N := ["names", "once", "name"]) (sc := defScope sAsc) (by decide +kernel))
          (fun _ _ _ _ _ => pg_name (i := 2) scAsc.nd rfl (Or.inl rfl)) (fun _ _ _ _ _ => pts_nil) (fun _ _ _ _ _ => pv 2) (fun _ _ _ _ _ => pe_bl))
      (pss_one (ps_ret (pe_callB cr_sortedS (by rfl) M.sorted (by decide +kernel) (pa_cons
        (pe_lock (pe_lc (own := [("name", 2)]) (g := gName 2) (by rfl) scAsc.nd (pi_keys (pv 1)) (blkOk_by (own := [("name", 2)]) (N := ["names", "once", "name"]) (sc := defScope sAsc) (by decide +kernel))
          (fun _ _ _ _ _ => pg_name (i := 2) scAsc.nd rfl (Or.inl rfl)) (fun _ _ _ _ _ => pts_nil) (fun _ _ _ _ _ => pe_callTy SkE.call_str_str (by rfl) M.str (by decide +kernel) (pa_cons (pv 2) pa_nil)))) pa_nil)))), ?_⟩
    refine ⟨_, rfl, a, rfl, ⟨_, hS⟩, fun D hD => ?_⟩
    refine walk_gen (walk_list (K := K) (a := a) (xs := xs.map V.str)) (fun i H' => Same H H' ∧ ∃ kvs, H' D = some (.dK kvs) ∧ kvs.map (·.1) = (onceS (xs.take i)).map Sum.inr) ⟨same_upd hD, [], upd_same, rfl⟩ (fun i H' _ p => p.1.seq hS) (fun i x H1 H2 hi p y => ?_) (fun H1 p => ?_)
    · obtain ⟨s1, kvs, e1, ek⟩ := p
      obtain ⟨rfl, hx⟩ := y
      rw [List.getElem?_map] at hx
      obtain ⟨z, hz, rfl⟩ := Option.map_eq_some_iff.mp hx
      have hi' : i < xs.length := (List.getElem?_eq_some_iff.mp hz).1
      refine And.intro rfl ?_
      unfold tYes
      refine iteT ?_
      refine ⟨_, rfl, kvs, .inr z, rfl, e1, ?_, fun b o e => ?_, _, upd_same, ?_⟩
      · have h1 : kvs.length = (onceS (xs.take i)).length := by
          have := congrArg List.length ek
          simpa using this
        have h2 := onceS_len (xs := xs.take i)
        rw [List.length_take] at h2
        exact Nat.lt_of_le_of_lt (show kvs.length ≤ 64 by omega) (by decide)
      · rw [upd_ne (ne_of_none e hD)]
        exact s1 _ _ e
      · rw [take_snoc hz, onceS_snoc]
        exact keys_put ek z _
    · obtain ⟨s1, kvs, e1, ek⟩ := p
      rw [List.length_map, List.take_length] at ek
      have ekl : kvs.length = (onceS xs).length := by
        have := congrArg List.length ek
        simpa using this
      have ol := onceS_len (xs := xs)
      refine ⟨D, .dK kvs, e1, trivial, fun od => ?_⟩
      refine ⟨_, rfl, D, od, rfl, .inl ⟨kvs, upd_same, fun L hL => ?_⟩⟩
      have nLD : L ≠ D := fun e => by
        rw [e, upd_same] at hL
        cases hL
      have hL1 : H1 L = none := by
        rw [upd_ne nLD] at hL
        exact hL
      refine walk_gen (walk_keys (d := D) (o := od) (kvs := kvs)) (fun i H' => H' = upd (upd H1 D (.frz od (.dK kvs))) L (.lst (((onceS xs).take i).map V.str))) rfl (fun i H' _ p => by rw [p, upd_ne (Ne.symm nLD)]; exact upd_same) (fun i x H2 H3 hi p y => ?_) (fun H2 p => ?_)
      · subst p
        obtain ⟨rfl, k, v, hk, rfl⟩ := y
        have hk1 : (kvs.map (·.1))[i]? = some k := by
          rw [List.getElem?_map, hk]
          rfl
        rw [ek, List.getElem?_map] at hk1
        obtain ⟨z, hz, rfl⟩ := Option.map_eq_some_iff.mp hk1
        refine And.intro rfl ?_
        unfold tYes
        refine iteT ?_
        refine ⟨_, rfl, z, rfl, ((onceS xs).take i).map V.str, upd_same, ?_, ?_⟩
        · rw [List.length_map, List.length_take]
          exact Nat.lt_of_le_of_lt (show _ ≤ 64 by omega) (by decide)
        · rw [take_snoc hz, List.map_append, upd_upd]
          rfl
      · subst p
        refine ⟨?_, ?_⟩
        · rw [upd_ne (Ne.symm nLD)]
          exact upd_same
        · rw [ekl, List.take_length]
          have eL : (upd (upd (upd H1 D (.frz od (.dK kvs))) L (.lst ((onceS xs).map V.str))) D (.dK kvs)) L = some (.lst ((onceS xs).map V.str)) := by
            rw [upd_ne nLD]
            exact upd_same
          refine ⟨L, onceS xs, rfl, .inl (.inl eL), by omega, fun ys p hp so np => q ys p _ (fun b o e => ?_) upd_same hp so⟩
          have nb : b ≠ D := ne_of_none e hD
          have nbL : b ≠ L := fun h => by
            rw [h] at e
            rw [s1 _ _ e] at hL1
            cases hL1
          have e2 : (upd (upd (upd H1 D (.frz od (.dK kvs))) L (.lst ((onceS xs).map V.str))) D (.dK kvs)) b = some o := by
            rw [upd_ne nb, upd_ne nbL, upd_ne nb]
            exact s1 _ _ e
          rw [upd_ne (ne_of_none e2 np)]
          exact e2
end
/-! ### sorted texts -/
theorem rise_pw : ∀ {l : List Str} {p : Str}, risingS p l = true → (p :: l).Pairwise fun a b => a.cps.toList ≤ b.cps.toList
  | [], _, _ => List.pairwise_singleton _ _
  | x :: r, p, h => by
    have h1 := Bool.and_eq_true_iff.mp (show (!ltCps x.cps.toList p.cps.toList && risingS x r) = true from h)
    have hp : p.cps.toList ≤ x.cps.toList := by
      have h2 : ltCps x.cps.toList p.cps.toList = false := by simpa using h1.1
      rw [ltCps_eq] at h2
      exact List.not_lt.mp (of_decide_eq_false h2)
    have ih := rise_pw h1.2
    refine List.pairwise_cons.mpr ⟨fun y hy => ?_, ih⟩
    rcases List.mem_cons.mp hy with rfl | hy
    · exact hp
    · exact List.le_trans hp ((List.pairwise_cons.mp ih).1 y hy)
theorem sorted_pw : ∀ {l : List Str}, sortedS l = true → l.Pairwise fun a b => a.cps.toList ≤ b.cps.toList
  | [], _ => .nil
  | _ :: _, h => rise_pw h
theorem sorted_eq {a b : List Str} (h1 : sortedS a = true) (h2 : sortedS b = true) (p : a.Perm b) : a = b := by
  refine List.Perm.eq_of_pairwise (le := fun a b : Str => a.cps.toList ≤ b.cps.toList) (fun x y _ _ hxy hyx => ?_) (sorted_pw h1) (sorted_pw h2) p
  have e := List.le_antisymm hxy hyx
  cases x
  cases y
  exact congrArg Str.mk (Array.toList_inj.mp e)
theorem same_mem {a b : List Str} (h1 : a.Nodup) (h2 : b.Nodup) (h : ∀ x, x ∈ a ↔ x ∈ b) : a.Perm b := (List.perm_ext_iff_of_nodup h1 h2).mpr h
/-! ### the parts with a word -/
def headIs (z : Str) : PyData → Bool
  | .tuple (.str y :: _) => decide (y = z)
  | _ => false
def isW (z : Str) (p : PyData) : Bool := !isValue p && headIs z p
def withD (z : Str) (d : PyData) : List PyData := (partsD d).filter (isW z)
theorem flat_form {n : Int} : ∀ (f : Nat) (lv : List PyData) (deep many : Nat), (lv = [] ∨ goT n f lv deep many = true) → (flatGo f lv).all (hasForm n) = true
  | 0, _, _, _, _ => rfl
  | f + 1, lv, deep, many, h => by
    by_cases hne : lv = []
    · rw [hne, flatGo_nil]
      rfl
    · obtain ⟨g, e, h1, _, h3⟩ := goT_true hne (h.resolve_left hne)
      cases e
      show (lv ++ flatGo f (lv.flatMap inner)).all (hasForm n) = true
      rw [List.all_append, h1, flat_form f _ _ _ (.inr h3)]
      rfl
theorem parts_form {n : Int} {d : PyData} (h : isTerm n d = true) : (partsD d).all (hasForm n) = true := flat_form 9 [d] 0 0 (.inr h)
theorem flat_sz : ∀ (f : Nat) (lv : List PyData), szDs lv = true → szDs (flatGo f lv) = true
  | 0, _, _ => rfl
  | f + 1, lv, h => by
    show szDs (lv ++ flatGo f (lv.flatMap inner)) = true
    rw [szDs_app, h, flat_sz f _ (sz_flat h)]
    rfl
theorem parts_sz {d : PyData} (h : szD d = true) : szDs (partsD d) = true := flat_sz 9 [d] (by show (szD d && true) = true; rw [h]; rfl)
theorem parts_len {n : Int} {d : PyData} (h : isTerm n d = true) : (partsD d).length ≤ 30 := by
  rw [isTerm_is] at h
  have h1 := Bool.and_eq_true_iff.mp (Bool.and_eq_true_iff.mp h).2
  rw [partsD_len]
  exact of_decide_eq_true h1.1
abbrev sWith : Stmt := topS 32
theorem scWith : FnScope ["word", "term", "part"] ["word", "term"] (defScope sWith) := ⟨rfl, rfl, rfl, by decide +kernel, rfl, by decide +kernel, by decide +kernel⟩
def spWith (K : PySem.W.Frag) : Sp := fun vs H Q _ => ∃ (z : Str) (v : V) (d : PyData) (n : Int), vs = [.str z, v] ∧ Dp K H v d ∧ szD d = true ∧ isTerm n d = true ∧
  ∀ p xs H', Same H H' → H' p = some (.lst xs) → DpAll K H xs (withD z d) → Q (.ref p) H'
section
variable {P : Program} {w : World} {K : PySem.W.Frag} {mg : Str → Option Value} {base : Heap}
theorem ok_with {f fP fW fV fN : Addr} {fd dP dW dV dN : FuncData} (F : Fun K "parts_with" "parts_with" sWith f fd) (M : Blt mg) (TC : CellsTxt K mg) (G : CellFns K mg fW fV fN dW dV dN)
    (GP : FnOk P w K mg base CX0 5 fP dP ["term"] (spParts K)) (FP : Fun K "all_parts" "all_parts" sParts fP dP) (bP : Binds K dP ["term"] []) (gP : mg "all_parts" = some (.ref fP)) :
    FnOk P w K mg base CX0 6 f fd ["word", "term"] (spWith K) := by
  have GV : FnOk P w K mg base CX0 2 fV dV ["value"] (spB K isValue) := ok_value G.V M TC G.W G.bW G.gW
  refine F.ok scWith (fun vs H Q E h => ?_) (fun cdv A outer s H vs Q E hr h => ?_)
  · obtain ⟨z, v, d, n, rfl, _⟩ := h
    rfl
  · obtain ⟨z, v, d, n, rfl, hv, hsz, ht, q⟩ := h
    have hr2 : Room 2 _ := hr.mono (by decide)
    refine ⟨_, pss_one (ps_ret (pe_lc (own := [("part", 2)]) (g := gName 2) (wi := iList K (tCall (spParts K) [] E0 (tCons (tVar 1) tNil))) (tt := tAnd (tNot (tB (tCall (spB K isValue) [] E0 (tCons (tVar 2) tNil)))) (tTest (tOp rEq (tOp (rIxT K) (tVar 2) (tC (.int 0))) (tVar 0)))) (by rfl) scWith.nd
        (pi_list (pe_call GP hr (by rfl) gP FP.kp bP .nil pass0 (pa_cons (pv 1) pa_nil))) (blkOk_by (own := [("part", 2)]) (N := ["word", "term", "part"]) (sc := defScope sWith) (by decide +kernel))
        (fun _ _ _ _ _ => pg_name (i := 2) scWith.nd rfl (Or.inl rfl)) (fun _ _ _ _ _ => pts_one (PW.pt (pw_and (pt_not (pt_val (pe_call GV hr2 (by rfl) G.gV G.V.kp G.bV .nil pass0 (pa_cons (pv 2) pa_nil))))
          (pw_and1 (pt_cmpR op_eq (pe_ix ix_tup (pv 2) pe_int (fun _ _ => rfl)) (pv 0) (nomark _)))))) (fun _ _ _ _ _ => pv 2))), ?_⟩
    refine ⟨v, rfl, v, d, n, rfl, hv, hsz, ht, fun a xs H1 s1 na ea hxs hln => ?_⟩
    have hform := parts_form ht
    have hszp := parts_sz hsz
    refine ⟨a, rfl, ⟨_, .inl (.inl ea)⟩, fun D hD => ?_⟩
    have naD : a ≠ D := ne_of_none ea hD
    refine walk_gen (walk_list (K := K) (a := a) (xs := xs)) (fun i H' => Same H1 H' ∧ ∃ acc, H' D = some (.lst acc) ∧ DpAll K H acc (((partsD d).take i).filter (isW z))) ⟨same_upd hD, [], upd_same, .nil⟩ (fun i H' _ p => .inl (.inl (p.1 _ _ ea))) (fun i x H2 H3 hi p y => ?_) (fun H' p => ?_)
    · obtain ⟨s2, acc, e2, ac⟩ := p
      obtain ⟨rfl, hx⟩ := y
      obtain ⟨di, hd, dx⟩ := dpA_at hxs hx
      have hfd : hasForm n di = true := List.all_eq_true.mp hform di (List.mem_of_getElem? hd)
      have lacc : acc.length ≤ 30 := by
        rw [dpA_len ac]
        refine Nat.le_trans (List.length_filter_le _ _) ?_
        rw [List.length_take]
        have := parts_len ht
        omega
      have snoc : ((partsD d).take (i + 1)).filter (isW z) = ((partsD d).take i).filter (isW z) ++ (if isW z di = true then [di] else []) := by
        rw [take_snoc hd, List.filter_append]
        cases e : isW z di with
        | true => rw [List.filter_cons_of_pos e]; rfl
        | false => rw [List.filter_cons_of_neg (by rw [e]; decide)]; rfl
      have no : ∀ H5, Same H3 H5 → isW z di = false → Same H1 H5 ∧ ∃ acc, H5 D = some (.lst acc) ∧ DpAll K H acc (((partsD d).take (i + 1)).filter (isW z)) := fun H5 s5 e => by
        refine ⟨s2.trans s5, acc, s5 _ _ e2, ?_⟩
        rw [snoc, e]
        simpa using ac
      refine And.intro rfl ?_
      refine ⟨x, rfl, x, di, rfl, dp_same (s1.trans s2) dx, szDs_get hszp hd, fun H4 s4 => ⟨_, rfl, ?_⟩⟩
      cases hval : isValue di with
      | true =>
        refine iteF (iteF (no H4 s4 ?_))
        unfold isW
        rw [hval]
        rfl
      | false =>
        obtain ⟨y, rest, rfl, _⟩ := form_str hfd hval
        cases dx with
        | @tup b zs _ hs ha =>
          cases ha with
          | @cons x0 xr _ _ h0 hr0 =>
            cases h0
            have ew : isW z (.tuple (.str y :: rest)) = decide (y = z) := by
              unfold isW
              rw [hval]
              rfl
            refine iteT ⟨_, rfl, b, _, 0, .str y, rfl, rfl, same_sqT ((s1.trans s2).trans s4) hs, atI_nat (j := 0) rfl, ?_⟩
            refine ⟨.str z, rfl, rfl, _, rfl, ?_⟩
            rw [dstr]
            by_cases hyz : y = z
            · rw [decide_eq_true hyz]
              refine iteT ⟨_, rfl, acc, s4 _ _ e2, Nat.lt_of_le_of_lt lacc (by decide), fun b' o e => ?_, acc ++ [.ref b], upd_same, ?_⟩
              · rw [upd_ne (ne_of_none e hD)]
                exact s4 _ _ (s2 _ _ e)
              · rw [snoc, ew, decide_eq_true hyz]
                exact dpA_app ac (.cons (.tup hs (.cons (.str y) hr0)) .nil)
            · rw [decide_eq_false hyz]
              refine iteF (no H4 s4 ?_)
              rw [ew, decide_eq_false hyz]
    · obtain ⟨s2, acc, e2, ac⟩ := p
      have el : xs.length = (partsD d).length := dpA_len hxs
      rw [el, List.take_length] at ac
      exact q D acc H' (s1.trans s2) e2 ac
end
/-! ### the names in a term -/
def nm : PyData → Str
  | .tuple (_ :: .str x :: _) => x
  | _ => ""
def namesD (z : Str) (d : PyData) : List Str := (withD z d).map nm
theorem isName_str {d : PyData} (h : isName d = true) : ∃ x, d = .str x := by
  cases d <;> first | exact ⟨_, rfl⟩ | cases h
theorem isW_head {z : Str} {p : PyData} (h : isW z p = true) : ∃ rest, p = .tuple (.str z :: rest) ∧ isValue p = false := by
  have h1 := Bool.and_eq_true_iff.mp h
  have hv : isValue p = false := by simpa using h1.1
  match p, h1.2, hv with
  | .tuple (.str y :: rest), h2, hv =>
    have e := of_decide_eq_true h2
    subst e
    exact ⟨rest, rfl, hv⟩
theorem w_cell {n : Int} {p : PyData} (hf : hasForm n p = true) (h : isW "cell" p = true) : ∃ x rest, p = .tuple (.str "cell" :: .str x :: rest) := by
  obtain ⟨rest, rfl, hv⟩ := isW_head h
  have hf1 : formOf n "cell" rest = true := by
    have e : hasForm n (.tuple (.str "cell" :: rest)) = (isValue (.tuple (.str "cell" :: rest)) || formOf n "cell" rest) := rfl
    rw [e, hv] at hf
    exact hf
  have e1 : formOf n "cell" rest = on1 isName rest := (if_neg (by decide +kernel)).trans (if_pos rfl)
  rw [e1] at hf1
  match rest, hf1 with
  | [d], hf1 =>
    obtain ⟨x, rfl⟩ := isName_str (d := d) hf1
    exact ⟨x, _, rfl⟩
theorem w_call {n : Int} {p : PyData} (hf : hasForm n p = true) (h : isW "call" p = true) : ∃ x rest, p = .tuple (.str "call" :: .str x :: rest) := by
  obtain ⟨rest, rfl, hv⟩ := isW_head h
  have hf1 : formOf n "call" rest = true := by
    have e : hasForm n (.tuple (.str "call" :: rest)) = (isValue (.tuple (.str "call" :: rest)) || formOf n "call" rest) := rfl
    rw [e, hv] at hf
    exact hf
  have e1 : formOf n "call" rest = on2 (fun x y => isName x && callForm y) rest := (if_neg (by decide +kernel)).trans ((if_neg (by decide +kernel)).trans (if_pos rfl))
  rw [e1] at hf1
  match rest, hf1 with
  | [d, e], hf1 =>
    obtain ⟨x, rfl⟩ := isName_str (Bool.and_eq_true_iff.mp (show (isName d && callForm e) = true from hf1)).1
    exact ⟨x, _, rfl⟩
def spNames (K : PySem.W.Frag) (z : Str) : Sp := fun vs H Q _ => ∃ (v : V) (d : PyData) (n : Int), vs = [v] ∧ Dp K H v d ∧ szD d = true ∧ isTerm n d = true ∧
  ∀ (ys : List Str) (p : Addr) H', Same H H' → H' p = some (.lst (ys.map V.str)) → ys.Perm (onceS (namesD z d)) → sortedS ys = true → Q (.ref p) H'
structure WithFns (K : PySem.W.Frag) (mg : Str → Option Value) (fWi fAs : Addr) (dWi dAs : FuncData) : Prop where
  Wi : Fun K "parts_with" "parts_with" sWith fWi dWi
  As : Fun K "_ascending" "_ascending" sAsc fAs dAs
  bWi : Binds K dWi ["word", "term"] []
  bAs : Binds K dAs ["names"] []
  gWi : mg "parts_with" = some (.ref fWi)
  gAs : mg "_ascending" = some (.ref fAs)
abbrev sCells : Stmt := topS 33
theorem scCells : FnScope ["term", "part"] ["term"] (defScope sCells) := ⟨rfl, rfl, rfl, by decide +kernel, rfl, by decide +kernel, by decide +kernel⟩
section
variable {P : Program} {w : World} {K : PySem.W.Frag} {mg : Str → Option Value} {base : Heap}
theorem ok_Cells {f fWi fAs : Addr} {fd dWi dAs : FuncData} (F : Fun K "cells_in" "cells_in" sCells f fd) (L : WithFns K mg fWi fAs dWi dAs)
    (GW : FnOk P w K mg base CX0 6 fWi dWi ["word", "term"] (spWith K)) (GA : FnOk P w K mg base CX0 1 fAs dAs ["names"] (spAsc K)) :
    FnOk P w K mg base CX0 7 f fd ["term"] (spNames K "cell") := by
  refine F.ok scCells (fun vs H Q E h => ?_) (fun cdv A outer s H vs Q E hr h => ?_)
  · obtain ⟨v, d, n, rfl, _⟩ := h
    rfl
  · obtain ⟨v, d, n, rfl, hv, hsz, ht, q⟩ := h
    have hr1 : Room 1 _ := hr.mono (by decide)
    refine ⟨_, pss_one (ps_ret (pe_call GA hr1 (by rfl) L.gAs L.As.kp L.bAs .nil pass0 (pa_cons
      (pe_lc (own := [("part", 1)]) (g := gName 1) (wi := iList K (tCall (spWith K) [] E0 (tCons (tC (.str "cell")) (tCons (tVar 0) tNil)))) (te := tOp (rIxT K) (tVar 1) (tC (.int 1))) (by rfl) scCells.nd
        (pi_list (pe_call GW hr (by rfl) L.gWi L.Wi.kp L.bWi .nil pass0 (pa_cons pe_str (pa_cons (pv 0) pa_nil)))) (blkOk_by (own := [("part", 1)]) (N := ["term", "part"]) (sc := defScope sCells) (by decide +kernel))
        (fun _ _ _ _ _ => pg_name (i := 1) scCells.nd rfl (Or.inl rfl)) (fun _ _ _ _ _ => pts_nil) (fun _ _ _ _ _ => pe_ix ix_tup (pv 1) pe_int (fun _ _ => rfl))) pa_nil))), ?_⟩
    refine ⟨v, rfl, "cell", v, d, n, rfl, hv, hsz, ht, fun a xs H1 s1 ea hxs => ?_⟩
    have hl30 : (withD "cell" d).length ≤ 30 := Nat.le_trans (List.length_filter_le _ _) (parts_len ht)
    have el : xs.length = (withD "cell" d).length := dpA_len hxs
    refine ⟨a, rfl, ⟨_, .inl (.inl ea)⟩, fun D hD => ?_⟩
    refine walk_gen (walk_list (K := K) (a := a) (xs := xs)) (fun i H' => Same H1 H' ∧ H' D = some (.lst ((((withD "cell" d).take i).map nm).map V.str))) ⟨same_upd hD, upd_same⟩ (fun i H' _ p => .inl (.inl (p.1 _ _ ea))) (fun i x H2 H3 hi p y => ?_) (fun H' p => ?_)
    · obtain ⟨s2, e2⟩ := p
      obtain ⟨rfl, hx⟩ := y
      obtain ⟨di, hd, dx⟩ := dpA_at hxs hx
      have hmem := List.mem_filter.mp (List.mem_of_getElem? hd)
      obtain ⟨x', rest, rfl⟩ := w_cell (List.all_eq_true.mp (parts_form ht) _ hmem.1) hmem.2
      cases dx with
      | @tup b zs _ hs ha =>
        cases ha with
        | @cons x0 xr _ _ h0 hr0 =>
          cases hr0 with
          | @cons x1 xr1 _ _ h1 hr1' =>
            cases h1
            refine And.intro rfl ?_
            unfold tYes
            refine iteT ?_
            refine ⟨_, rfl, b, _, 1, .str x', rfl, rfl, same_sqT (s1.trans s2) hs, atI_nat (j := 1) rfl, _, e2, ?_, fun b' o e => ?_, ?_⟩
            · rw [List.length_map, List.length_map, List.length_take]
              exact Nat.lt_of_le_of_lt (show _ ≤ 30 by omega) (by decide)
            · rw [upd_ne (ne_of_none e hD)]
              exact s2 _ _ e
            · rw [take_snoc hd, List.map_append, List.map_append]
              exact upd_same
    · obtain ⟨s2, e2⟩ := p
      rw [el, List.take_length] at e2
      refine ⟨D, namesD "cell" d, rfl, .inl (.inl e2), ?_, fun ys p H2 s3 ep hp so => q ys p H2 ((s1.trans s2).trans s3) ep hp so⟩
      unfold namesD
      rw [List.length_map]
      omega
end
def tickD (d : PyData) : Bool := decide (0 < (withD "tick" d).length)
/-! ### the law's terms -/
inductive Gd (n : Int) : Nat → PyData → Prop
  | val {f : Nat} {i : Int} : 0 ≤ i → i < 3 → Gd n (f + 1) (.int i)
  | arg {f : Nat} {i : Int} : 0 ≤ i → i < n → Gd n (f + 1) (.tuple [.str "arg", .int i])
  | cell {f : Nat} {x : Str} : isName (.str x) = true → Gd n (f + 1) (.tuple [.str "cell", .str x])
  | tick {f : Nat} : Gd n (f + 1) (.tuple [.str "tick"])
  | call {f : Nat} {x : Str} {ts : List PyData} : isName (.str x) = true → ts.length ≤ 2 → (∀ t ∈ ts, Gd n f t) → Gd n (f + 1) (.tuple [.str "call", .str x, .tuple ts])
  | op {f : Nat} {z : Str} {ts : List PyData} : (z = "if" ∧ ts.length = 3) ∨ (bin z ∧ ts.length = 2) → (∀ t ∈ ts, Gd n f t) → Gd n (f + 1) (.tuple (.str z :: ts))
theorem op_word {z : Str} {ts : List PyData} (h : (z = "if" ∧ ts.length = 3) ∨ (bin z ∧ ts.length = 2)) : z = "if" ∨ z = "plus" ∨ z = "less" ∨ z = "same" := by
  rcases h with ⟨h, _⟩ | ⟨h, _⟩
  · exact .inl h
  · exact .inr h
theorem op_inner {z : Str} {ts : List PyData} (h : z = "if" ∨ z = "plus" ∨ z = "less" ∨ z = "same") : inner (.tuple (.str z :: ts)) = ts := by
  rcases h with rfl | rfl | rfl | rfl <;> rfl
theorem gd_inner {n : Int} {f : Nat} {d : PyData} (h : Gd n (f + 1) d) : (∀ t ∈ inner d, Gd n f t) ∧ (inner d).length ≤ 3 := by
  cases h with
  | val _ _ => exact ⟨fun t ht => (by cases ht), Nat.zero_le _⟩
  | arg _ _ => exact ⟨fun t ht => (by cases ht), Nat.zero_le _⟩
  | cell _ => exact ⟨fun t ht => (by cases ht), Nat.zero_le _⟩
  | tick => exact ⟨fun t ht => (by cases ht), Nat.zero_le _⟩
  | call _ hl ht => exact ⟨ht, Nat.le_trans hl (by decide)⟩
  | op hz ht =>
    rw [op_inner (op_word hz)]
    refine ⟨ht, ?_⟩
    rcases hz with ⟨_, h⟩ | ⟨_, h⟩ <;> omega
theorem gd_form {n : Int} {f : Nat} {d : PyData} (h : Gd n f d) : hasForm n d = true := by
  cases h with
  | val h0 h3 =>
    show (isValue (.int _) || false) = true
    have e : isValue (.int _) = true := Bool.and_eq_true_iff.mpr ⟨decide_eq_true h0, decide_eq_true h3⟩
    rw [e]
    rfl
  | arg h0 h3 => exact Bool.and_eq_true_iff.mpr ⟨decide_eq_true h0, decide_eq_true h3⟩
  | cell hx => exact hx
  | tick => rfl
  | call hx hl _ => exact Bool.and_eq_true_iff.mpr ⟨hx, decide_eq_true (by omega)⟩
  | @op f z ts hz _ =>
    rcases hz with ⟨rfl, h⟩ | ⟨rfl | rfl | rfl, h⟩
    · show decide ((ts.length : Int) + 1 = 4) = true
      exact decide_eq_true (by omega)
    · show decide ((ts.length : Int) + 1 = 3) = true
      exact decide_eq_true (by omega)
    · show decide ((ts.length : Int) + 1 = 3) = true
      exact decide_eq_true (by omega)
    · show decide ((ts.length : Int) + 1 = 3) = true
      exact decide_eq_true (by omega)
theorem gd_fm {n : Int} : ∀ (k f : Nat) (d : PyData), Gd n f d → fmF n k d = true
  | 0, _, _, _ => rfl
  | k + 1, 0, d, h => nomatch h
  | k + 1, f + 1, d, h => by
    show (hasForm n d && (inner d).all (fmF n k)) = true
    rw [gd_form h]
    exact List.all_eq_true.mpr fun t ht => gd_fm k f t ((gd_inner h).1 t ht)
theorem szDs_of : ∀ {ts : List PyData}, (∀ t ∈ ts, szD t = true) → szDs ts = true
  | [], _ => rfl
  | t :: ts, h => by
    show (szD t && szDs ts) = true
    rw [h t List.mem_cons_self, szDs_of fun u hu => h u (List.mem_cons_of_mem _ hu)]
    rfl
theorem noLs_of : ∀ {ts : List PyData}, (∀ t ∈ ts, noL t = true) → noLs ts = true
  | [], _ => rfl
  | t :: ts, h => by
    show (noL t && noLs ts) = true
    rw [h t List.mem_cons_self, noLs_of fun u hu => h u (List.mem_cons_of_mem _ hu)]
    rfl
theorem name_sz {x : Str} (h : isName (.str x) = true) : szD (.str x) = true := by
  have h1 := Bool.and_eq_true_iff.mp (Bool.and_eq_true_iff.mp (show (decide (1 ≤ (x.length : Int)) && decide ((x.length : Int) ≤ 8) && x.cps.toList.all lowCode) = true from h)).1
  have h2 := of_decide_eq_true h1.2
  exact decide_eq_true (by omega)
theorem word_sz {z : Str} (h : z = "if" ∨ z = "plus" ∨ z = "less" ∨ z = "same") : szD (.str z) = true := by
  rcases h with rfl | rfl | rfl | rfl <;> decide +kernel
theorem gd_sz {n : Int} : ∀ (f : Nat) (d : PyData), Gd n f d → szD d = true
  | 0, _, h => nomatch h
  | f + 1, d, h => by
    cases h with
    | val _ _ => rfl
    | arg _ _ =>
      show (decide (2 ≤ 1000) && (szD (.str "arg") && (true && true))) = true
      decide +kernel
    | cell hx =>
      show (decide (2 ≤ 1000) && (szD (.str "cell") && (szD (.str _) && true))) = true
      rw [name_sz hx]
      decide +kernel
    | tick => decide +kernel
    | @call _ x ts hx hl ht =>
      show (decide (3 ≤ 1000) && (szD (.str "call") && (szD (.str x) && ((decide (ts.length ≤ 1000) && szDs ts) && true)))) = true
      rw [name_sz hx, szDs_of fun t h => gd_sz f t (ht t h), decide_eq_true (show ts.length ≤ 1000 by omega)]
      decide +kernel
    | @op _ z ts hz ht =>
      show (decide (ts.length + 1 ≤ 1000) && (szD (.str z) && szDs ts)) = true
      rw [word_sz (op_word hz), szDs_of fun t h => gd_sz f t (ht t h), decide_eq_true (show ts.length + 1 ≤ 1000 by rcases hz with ⟨_, h⟩ | ⟨_, h⟩ <;> omega)]
      rfl
theorem gd_nl {n : Int} : ∀ (f : Nat) (d : PyData), Gd n f d → noL d = true
  | 0, _, h => nomatch h
  | f + 1, d, h => by
    cases h with
    | val _ _ => rfl
    | arg _ _ => rfl
    | cell hx => rfl
    | tick => rfl
    | @call _ x ts hx hl ht =>
      show (true && (true && (noLs ts && true))) = true
      rw [noLs_of fun t h => gd_nl f t (ht t h)]
      rfl
    | @op _ z ts hz ht =>
      show (true && noLs ts) = true
      rw [noLs_of fun t h => gd_nl f t (ht t h)]
      rfl
theorem gd_szF {n : Int} : ∀ (f k k' : Nat) (d : PyData), Gd n f d → f ≤ k → f ≤ k' → szF k d = szF k' d
  | 0, _, _, _, h, _, _ => nomatch h
  | f + 1, 0, _, _, _, h, _ => by omega
  | f + 1, _, 0, _, _, _, h => by omega
  | f + 1, k + 1, k' + 1, d, h, h1, h2 => by
    show 1 + ((inner d).map (szF k)).sum = 1 + ((inner d).map (szF k')).sum
    rw [List.map_congr_left fun t ht => gd_szF f k k' t ((gd_inner h).1 t ht) (by omega) (by omega)]
theorem gd_dpF {n : Int} : ∀ (f k k' : Nat) (d : PyData), Gd n f d → f ≤ k → f ≤ k' → dpF k d = dpF k' d
  | 0, _, _, _, h, _, _ => nomatch h
  | f + 1, 0, _, _, _, h, _ => by omega
  | f + 1, _, 0, _, _, _, h => by omega
  | f + 1, k + 1, k' + 1, d, h, h1, h2 => by
    show 1 + ((inner d).map (dpF k)).foldr max 0 = 1 + ((inner d).map (dpF k')).foldr max 0
    rw [List.map_congr_left fun t ht => gd_dpF f k k' t ((gd_inner h).1 t ht) (by omega) (by omega)]
theorem gd_dle {n : Int} : ∀ (f k : Nat) (d : PyData), Gd n f d → dpF k d ≤ f
  | 0, _, _, h => nomatch h
  | f + 1, 0, _, _ => Nat.zero_le _
  | f + 1, k + 1, d, h => by
    show 1 + ((inner d).map (dpF k)).foldr max 0 ≤ f + 1
    have h1 : ∀ l : List PyData, (∀ t ∈ l, dpF k t ≤ f) → (l.map (dpF k)).foldr max 0 ≤ f := fun l => by
      induction l with
      | nil => exact fun _ => Nat.zero_le _
      | cons a l ih =>
        intro hl
        show max (dpF k a) _ ≤ f
        have := hl a List.mem_cons_self
        have := ih fun t ht => hl t (List.mem_cons_of_mem _ ht)
        omega
    have := h1 (inner d) fun t ht => gd_dle f k t ((gd_inner h).1 t ht)
    omega
theorem gd_many {n : Int} : ∀ (f k : Nat) (d : PyData), Gd n f d → szF k d ≤ 4 ^ f
  | 0, _, _, h => nomatch h
  | f + 1, 0, _, _ => Nat.zero_le _
  | f + 1, k + 1, d, h => by
    show 1 + ((inner d).map (szF k)).sum ≤ 4 ^ (f + 1)
    have h1 : ∀ l : List PyData, (∀ t ∈ l, szF k t ≤ 4 ^ f) → (l.map (szF k)).sum ≤ l.length * 4 ^ f := fun l => by
      induction l with
      | nil => exact fun _ => Nat.zero_le _
      | cons a l ih =>
        intro hl
        rw [List.map_cons, List.sum_cons, List.length_cons, Nat.succ_mul]
        have := hl a List.mem_cons_self
        have := ih fun t ht => hl t (List.mem_cons_of_mem _ ht)
        omega
    have h2 := h1 (inner d) fun t ht => gd_many f k t ((gd_inner h).1 t ht)
    have h3 := Nat.mul_le_mul_right (4 ^ f) (gd_inner h).2
    have h4 : 1 ≤ 4 ^ f := Nat.one_le_pow _ _ (by decide)
    rw [Nat.pow_succ]
    omega
def sz9 (d : PyData) : Nat := szF 9 d
def dp9 (d : PyData) : Nat := dpF 9 d
theorem sz9_in {n : Int} {f : Nat} {d : PyData} (h : Gd n (f + 1) d) (hf : f ≤ 8) : sz9 d = 1 + ((inner d).map sz9).sum := by
  show 1 + ((inner d).map (szF 8)).sum = _
  rw [List.map_congr_left fun t ht => gd_szF f 8 9 t ((gd_inner h).1 t ht) hf (by omega)]
  rfl
theorem dp9_in {n : Int} {f : Nat} {d : PyData} (h : Gd n (f + 1) d) (hf : f ≤ 8) : dp9 d = 1 + ((inner d).map dp9).foldr max 0 := by
  show 1 + ((inner d).map (dpF 8)).foldr max 0 = _
  rw [List.map_congr_left fun t ht => gd_dpF f 8 9 t ((gd_inner h).1 t ht) hf (by omega)]
  rfl
theorem gd_isTerm {n : Int} {f : Nat} {d : PyData} (h : Gd n f d) (hf : f ≤ 8) : isTerm n d = decide (sz9 d ≤ 30) := by
  rw [isTerm_is, gd_fm 9 f d h, decide_eq_true (Nat.le_trans (gd_dle f 9 d h) hf), Bool.and_true]
  rfl
/-! ### what stands somewhere in a term -/
def hasB (q : PyData → Bool) : Nat → PyData → Bool
  | 0, _ => false
  | f + 1, d => q d || (inner d).any (hasB q f)
def hs9 (q : PyData → Bool) (d : PyData) : Bool := hasB q 9 d
theorem any_or {α : Type} (p q : α → Bool) : ∀ l : List α, (l.any fun x => p x || q x) = (l.any p || l.any q)
  | [] => rfl
  | x :: l => by
    rw [List.any_cons, List.any_cons, List.any_cons, any_or p q l]
    cases p x <;> cases q x <;> cases l.any p <;> rfl
theorem any_flat (q : PyData → Bool) : ∀ l : List PyData, (l.flatMap inner).any q = l.any fun d => (inner d).any q
  | [] => rfl
  | d :: l => by
    rw [List.flatMap_cons, List.any_append, List.any_cons, any_flat q l]
theorem flat_any (q : PyData → Bool) : ∀ (f : Nat) (lv : List PyData), (flatGo f lv).any q = lv.any (hasB q f)
  | 0, lv => by
    show false = lv.any fun _ => false
    induction lv with
    | nil => rfl
    | cons d l ih =>
      rw [List.any_cons, ← ih]
      rfl
  | f + 1, lv => by
    show (lv ++ flatGo f (lv.flatMap inner)).any q = lv.any fun d => q d || (inner d).any (hasB q f)
    rw [List.any_append, flat_any q f, any_or, any_flat]
theorem parts_any (q : PyData → Bool) (d : PyData) : (partsD d).any q = hs9 q d := by
  unfold partsD
  rw [flat_any]
  show (hasB q 9 d || false) = _
  rw [Bool.or_false]
  rfl
theorem gd_hasB {n : Int} (q : PyData → Bool) : ∀ (f k k' : Nat) (d : PyData), Gd n f d → f ≤ k → f ≤ k' → hasB q k d = hasB q k' d
  | 0, _, _, _, h, _, _ => nomatch h
  | f + 1, 0, _, _, _, h, _ => by omega
  | f + 1, _, 0, _, _, _, h => by omega
  | f + 1, k + 1, k' + 1, d, h, h1, h2 => by
    show (q d || (inner d).any (hasB q k)) = (q d || (inner d).any (hasB q k'))
    have e : (inner d).any (hasB q k) = (inner d).any (hasB q k') := by
      rw [Bool.eq_iff_iff, List.any_eq_true, List.any_eq_true]
      constructor
      · rintro ⟨t, ht, hq⟩
        exact ⟨t, ht, by rw [← gd_hasB q f k k' t ((gd_inner h).1 t ht) (by omega) (by omega)]; exact hq⟩
      · rintro ⟨t, ht, hq⟩
        exact ⟨t, ht, by rw [gd_hasB q f k k' t ((gd_inner h).1 t ht) (by omega) (by omega)]; exact hq⟩
    rw [e]
theorem any_congr {q q' : PyData → Bool} : ∀ {l : List PyData}, (∀ t ∈ l, q t = q' t) → l.any q = l.any q'
  | [], _ => rfl
  | t :: l, h => by
    rw [List.any_cons, List.any_cons, h t List.mem_cons_self, any_congr fun u hu => h u (List.mem_cons_of_mem _ hu)]
theorem hs9_in {n : Int} {f : Nat} {d : PyData} (q : PyData → Bool) (h : Gd n (f + 1) d) (hf : f ≤ 8) : hs9 q d = (q d || (inner d).any (hs9 q)) := by
  show (q d || (inner d).any (hasB q 8)) = _
  rw [any_congr fun t ht => gd_hasB q f 8 9 t ((gd_inner h).1 t ht) hf (by omega)]
  rfl
theorem hasB_congr {n : Int} {q q' : PyData → Bool} (hq : ∀ f d, Gd n f d → q d = q' d) : ∀ (k f : Nat) (d : PyData), Gd n f d → hasB q k d = hasB q' k d
  | 0, _, _, _ => rfl
  | k + 1, 0, _, h => nomatch h
  | k + 1, f + 1, d, h => by
    show (q d || (inner d).any (hasB q k)) = (q' d || (inner d).any (hasB q' k))
    rw [hq _ d h, any_congr fun t ht => hasB_congr hq k f t ((gd_inner h).1 t ht)]
/-- a part with the word z and the name x -/
def isN (z x : Str) (p : PyData) : Bool := isW z p && decide (nm p = x)
theorem names_mem {z x : Str} {d : PyData} : x ∈ namesD z d ↔ hs9 (isN z x) d = true := by
  rw [← parts_any, List.any_eq_true]
  unfold namesD withD
  rw [List.mem_map]
  constructor
  · rintro ⟨p, hp, e⟩
    have h := List.mem_filter.mp hp
    exact ⟨p, h.1, Bool.and_eq_true_iff.mpr ⟨h.2, decide_eq_true e⟩⟩
  · rintro ⟨p, hp, e⟩
    have h := Bool.and_eq_true_iff.mp e
    exact ⟨p, List.mem_filter.mpr ⟨hp, h.1⟩, of_decide_eq_true h.2⟩
theorem tickD_is (d : PyData) : tickD d = hs9 (isW "tick") d := by
  rw [← parts_any]
  unfold tickD withD
  generalize partsD d = l
  induction l with
  | nil => rfl
  | cons p l ih =>
    rw [List.any_cons]
    cases e : isW "tick" p with
    | true => rw [List.filter_cons_of_pos e, Bool.true_or]; exact decide_eq_true (Nat.succ_pos _)
    | false =>
      rw [List.filter_cons_of_neg (by rw [e]; decide), ih]
      rfl
/-- the law's own look at the tick -/
def qT (d : PyData) : Bool := PyData.eqv d (.tuple [.str "tick"])
theorem str_beq (a b : Str) : (a == b) = decide (a = b) := by
  by_cases h : a = b
  · subst h
    rw [beq_self_eq_true, decide_eq_true rfl]
  · rw [decide_eq_false h]
    exact beq_eq_false_iff_ne.mpr h
theorem qT_is {n : Int} {f : Nat} {d : PyData} (h : Gd n f d) : qT d = isW "tick" d := by
  cases h with
  | val h0 h3 =>
    have e : isValue (.int _) = true := Bool.and_eq_true_iff.mpr ⟨decide_eq_true h0, decide_eq_true h3⟩
    show false = (!isValue (.int _) && false)
    rw [Bool.and_false]
  | arg _ _ => rfl
  | cell _ => rfl
  | tick => rfl
  | call _ _ _ => rfl
  | @op _ z ts hz _ =>
    rcases op_word hz with rfl | rfl | rfl | rfl <;> rfl
theorem hs_tick {n : Int} {f : Nat} {d : PyData} (h : Gd n f d) : hs9 qT d = tickD d := by
  rw [tickD_is]
  exact hasB_congr (fun f d h => qT_is h) 9 f d h
theorem name_ok {x : Str} (h : isName (.str x) = true) : PyData.strOk x = true := by
  have h1 := (Bool.and_eq_true_iff.mp (show (decide (1 ≤ (x.length : Int)) && decide ((x.length : Int) ≤ 8) && x.cps.toList.all lowCode) = true from h)).2
  unfold PyData.strOk
  rw [← Array.all_toList]
  refine List.all_eq_true.mpr fun c hc => ?_
  have h2 := Bool.and_eq_true_iff.mp (show (decide (97 ≤ c) && decide (c ≤ 122)) = true from List.all_eq_true.mp h1 c hc)
  have h3 := of_decide_eq_true h2.2
  exact decide_eq_true (by omega)
theorem word_ok {z : Str} (h : z = "if" ∨ z = "plus" ∨ z = "less" ∨ z = "same") : PyData.strOk z = true := by
  rcases h with rfl | rfl | rfl | rfl <;> decide +kernel
theorem canLay_of : ∀ {ts : List PyData}, (∀ t ∈ ts, t.canLay0 = true) → PyData.canLayAll0 ts = true
  | [], _ => rfl
  | t :: ts, h => by
    show (t.canLay0 && PyData.canLayAll0 ts) = true
    rw [h t List.mem_cons_self, canLay_of fun u hu => h u (List.mem_cons_of_mem _ hu)]
    rfl
theorem depth_of {m : Nat} : ∀ {ts : List PyData}, (∀ t ∈ ts, t.depth ≤ m) → PyData.depthAll ts ≤ m
  | [], _ => Nat.zero_le _
  | t :: ts, h => by
    show max t.depth (PyData.depthAll ts) ≤ m
    have h1 := h t List.mem_cons_self
    have h2 := depth_of fun u hu => h u (List.mem_cons_of_mem _ hu)
    omega
theorem gd_lay {n : Int} : ∀ (f : Nat) (d : PyData), Gd n f d → d.canLay0 = true ∧ d.depth ≤ 2 * f
  | 0, _, h => nomatch h
  | f + 1, d, h => by
    cases h with
    | val _ _ => exact ⟨rfl, Nat.zero_le _⟩
    | arg _ _ =>
      refine ⟨?_, ?_⟩
      · show (PyData.strOk "arg" && (true && true)) = true
        decide +kernel
      · show (max 0 (max 0 0)) + 1 ≤ _
        omega
    | @cell _ x hx =>
      refine ⟨?_, ?_⟩
      · show (PyData.strOk "cell" && (PyData.strOk x && true)) = true
        rw [name_ok hx]
        decide +kernel
      · show (max 0 (max 0 0)) + 1 ≤ _
        omega
    | tick =>
      refine ⟨by decide +kernel, ?_⟩
      show (max 0 0) + 1 ≤ _
      omega
    | @call _ x ts hx hl ht =>
      refine ⟨?_, ?_⟩
      · show (PyData.strOk "call" && (PyData.strOk x && (PyData.canLayAll0 ts && true))) = true
        rw [name_ok hx, canLay_of fun t h => (gd_lay f t (ht t h)).1]
        decide +kernel
      · have h1 := depth_of fun t h => (gd_lay f t (ht t h)).2
        show (max 0 (max 0 (max (PyData.depthAll ts + 1) 0))) + 1 ≤ _
        omega
    | @op _ z ts hz ht =>
      refine ⟨?_, ?_⟩
      · show (PyData.strOk z && PyData.canLayAll0 ts) = true
        rw [word_ok (op_word hz), canLay_of fun t h => (gd_lay f t (ht t h)).1]
        rfl
      · have h1 := depth_of fun t h => (gd_lay f t (ht t h)).2
        show (max 0 (PyData.depthAll ts)) + 1 ≤ _
        omega
theorem gd_shaped {n : Int} {f : Nat} {d : PyData} (h : Gd n f d) (hf : f ≤ 8) : SeqAt.shaped d = true := by
  have h1 := gd_lay f d h
  exact Bool.and_eq_true_iff.mpr ⟨h1.1, decide_eq_true (by omega)⟩
theorem gd_tup {n : Int} {f : Nat} {d : PyData} (h : Gd n f d) : (∃ i, d = .int i ∧ 0 ≤ i ∧ i < 3) ∨ ∃ z rest, d = .tuple (.str z :: rest) ∧ (z = "call" → ∃ x ts, rest = [.str x, .tuple ts]) ∧ (z = "tick" → rest = []) := by
  cases h with
  | val h0 h3 => exact .inl ⟨_, rfl, h0, h3⟩
  | arg _ _ => exact .inr ⟨"arg", _, rfl, fun e => absurd e (by decide +kernel), fun e => absurd e (by decide +kernel)⟩
  | cell _ => exact .inr ⟨"cell", _, rfl, fun e => absurd e (by decide +kernel), fun e => absurd e (by decide +kernel)⟩
  | tick => exact .inr ⟨"tick", _, rfl, fun e => absurd e (by decide +kernel), fun _ => rfl⟩
  | call _ _ _ => exact .inr ⟨"call", _, rfl, fun _ => ⟨_, _, rfl⟩, fun e => absurd e (by decide +kernel)⟩
  | @op _ z ts hz _ =>
    refine .inr ⟨z, ts, rfl, fun e => ?_, fun e => ?_⟩
    · rcases op_word hz with h | h | h | h <;> (rw [h] at e; exact absurd e (by decide +kernel))
    · rcases op_word hz with h | h | h | h <;> (rw [h] at e; exact absurd e (by decide +kernel))
/-! ### enumerate over a tuple -/
namespace EnT
section
variable {prog : Program} {w : World} {A : Around} {E : Value → Shared → Prop} {s : Shared} {it t : Addr} {i : Nat} {items : Array Value}
theorem one_more {x : Value} {Q : Value → Shared → Prop} (hit : s.heap.IsTupleIter it t i) (tup : s.heap.IsTuple t items) (hx : items[i]? = some x)
    (out : ∀ g, g.IsTupleIter it t (i + 1) → Heap.SameBut it s.heap g → Q x { s with heap := g }) : wpAny (model prog w) A (Builtin.SmallTypes.nextOf (.ref it)) Q E s := by
  obtain ⟨oi, ei, ci, di⟩ := id hit
  obtain ⟨ot, et, _, nt, dt⟩ := tup
  have upd1 : (s.heap.update it (Obj.mapFields fun vs => vs.setIfInBounds 1 (.int ((i : Int) + 1) 0))).IsTupleIter it t (i + 1) := ⟨_, Heap.get?_update_self _ ei (Obj.isFreed_of_fields (Obj.data_mapFields di _)), (Obj.cls_mapFields ..).trans ci, by rw [Obj.data_mapFields di]; simp [rawInt]⟩
  unfold Builtin.SmallTypes.nextOf
  refine wpAny_bind (wpAny_callSpecial?_slot (name := Str.ofString "__next__") hit.typeIs PySem.F.slot_tuple_iterator_next (wpAny_call_entry PySem.F.slot_tuple_iterator_next hit.typeIs PySem.F.entry_tuple_iterator_next ?_ (PySem.F.args_tuple_iterator_next_1 _)))
  show wpAny _ _ (field (.ref it) 0 >>= fun _ => _) _ _ s
  refine wpAny_bind (wpAny_field ei di (x := .ref t) rfl ?_)
  have nn : ¬ ((Value.ref t == Value.none) = true) := Bool.false_ne_true
  show wpAny _ _ (if (Value.ref t == Value.none) = true then _ else (field (.ref it) 1 >>= fun _ => _)) _ _ s
  rw [if_neg nn]
  refine wpAny_bind (wpAny_field ei di (x := .int i 0) rfl ?_)
  show wpAny _ _ (seqItems? (.ref t) >>= fun _ => _) _ _ s
  refine wpAny_bind (wpAny_seqItems et dt ?_)
  simp only [hx, Int.toNat_natCast]
  exact wpAny_bind (wpAny_setField ei di (by simp) (wpAny_pure ⟨x, rfl, wpAny_pure (out _ upd1 (Heap.SameBut.update ..))⟩))
theorem no_more {Q : Value → Shared → Prop} (hh : A.handled = none) (hit : s.heap.IsTupleIter it t i) (tup : s.heap.IsTuple t items) (hx : items[i]? = none)
    (out : ∀ g e, Heap.ExtBut it s.heap g → (∃ o, g.get? e = some o ∧ o.cls = .type "StopIteration") → E (.ref e) { s with heap := g }) : wpAny (model prog w) A (Builtin.SmallTypes.nextOf (.ref it)) Q E s := by
  obtain ⟨oi, ei, ci, di⟩ := id hit
  obtain ⟨ot, et, _, nt, dt⟩ := tup
  unfold Builtin.SmallTypes.nextOf
  refine wpAny_bind (wpAny_callSpecial?_slot (name := Str.ofString "__next__") hit.typeIs PySem.F.slot_tuple_iterator_next (wpAny_call_entry PySem.F.slot_tuple_iterator_next hit.typeIs PySem.F.entry_tuple_iterator_next ?_ (PySem.F.args_tuple_iterator_next_1 _)))
  show wpAny _ _ (field (.ref it) 0 >>= fun _ => _) _ _ s
  refine wpAny_bind (wpAny_field ei di (x := .ref t) rfl ?_)
  have nn : ¬ ((Value.ref t == Value.none) = true) := Bool.false_ne_true
  show wpAny _ _ (if (Value.ref t == Value.none) = true then _ else (field (.ref it) 1 >>= fun _ => _)) _ _ s
  rw [if_neg nn]
  refine wpAny_bind (wpAny_field ei di (x := .int i 0) rfl ?_)
  show wpAny _ _ (seqItems? (.ref t) >>= fun _ => _) _ _ s
  refine wpAny_bind (wpAny_seqItems et dt ?_)
  simp only [hx, Int.toNat_natCast]
  refine wpAny_bind (wpAny_rule (wpAny_bind (wpAny_setField ei di (by simp) ?_)))
  show wpAny _ _ (newExc (.type "StopIteration") [] >>= fun _ => _) _ _ _
  refine wpAny_bind ?_
  simp only [newTuple, newExc]
  refine wpAny_bind (wpAny_newObj_type ?_ (by size_fits))
  refine wpAny_bind (m := firstArgMember _ _) (wpAny_of_eq (a := Value.none) (by simp only [firstArgMember]; rfl) ?_)
  refine wpAny_newObj_type ?_ (by size_fits)
  simp only [raiseNew]
  refine wpAny_bind (wpAny_handled ?_)
  rw [show A.in1.handled = none from hh]
  refine wpAny_bind (wpAny_pure (wpAny_throw ?_))
  exact out _ _ (((Heap.SameBut.update ..).extBut.push _).push _) ⟨_, Heap.get?_push_size _ rfl, rfl⟩
end
theorem draws_tup {prog : Program} {w : World} {A : Around} (hh : A.handled = none) (it t : Addr) (ne : t ≠ it) (items : Array Value) : Draws prog w A it [it, t] items.size (fun i v => items[i]? = some v) (fun i h => h.IsTupleIter it t i ∧ h.IsTuple t items) where
  live := fun _ _ st => let ⟨o, e, _⟩ := st.1; ⟨o, e⟩
  frame := fun i g g' st k => ⟨let ⟨o, e, r⟩ := st.1; ⟨o, k it (by simp) o e, r⟩, let ⟨o, e, r⟩ := st.2; ⟨o, k t (by simp) o e, r⟩⟩
  item := fun i s Q E hi st q => one_more st.1 st.2 (x := items[i]) (by simp [hi]) fun g hg sb => q _ g s.toks (by simp [hi]) ⟨hg, st.2.extBut sb.extBut ne⟩ sb
  done := fun s Q E st q => no_more hh st.1 st.2 (by simp) q
theorem made (l : Addr) (items : Array Value) (n : Nat) (dct : Option Addr) (sl : Array (Option Value)) :
    Meets (Builtin.«enumerate.__new__» ⟨[.type "enumerate", .ref l], []⟩) (fun _ R s => s.heap.get? l = some { cls := .type "tuple", dict := dct, data := .seq items n, slots := sl } ∧
      R (.ok (.ret (.ref (s.heap.push { cls := .type "tuple_iterator", data := .fields #[.ref l, .int 0 0] }).objs.size)))
        { s with heap := (s.heap.push { cls := .type "tuple_iterator", data := .fields #[.ref l, .int 0 0] }).push { cls := .type "enumerate", data := .fields #[.none, .bool false, .ref s.heap.objs.size, rawInt 0, .none, .none] } }) :=
  .of_wp fun prog w A R s h => by
    obtain ⟨hp, g, d, tk, os⟩ := s
    obtain ⟨hl, h⟩ := h
    have sub := sub_enumerate
    have isT : Heap.IsTuple (Shared.heap ⟨hp, g, d, tk, os⟩) l items := ⟨_, hl, rfl, n, rfl⟩
    wp_walk using AutoSeq1.wpAny_loadPart' hl
    refine wpAny_stack_any fun st => wpAny_pure ?_
    split
    · rename_i c _ _ _ _ _
      cases (c == Value.type "enumerate") <;> (wp_walk using AutoSeq1.wpAny_loadPart' hl, wpAny_pyIter_tuple isT; exact ⟨_, rfl, h⟩)
    · wp_walk using AutoSeq1.wpAny_loadPart' hl, wpAny_pyIter_tuple isT
      exact ⟨_, rfl, h⟩
section
variable {prog : Program} {w : World} {A : Around} {E : Value → Shared → Prop} {s : Shared}
theorem call_made {l : Addr} {items : Array Value} {Q : Value → Shared → Prop} (tup : s.heap.IsTuple l items)
    (h : ∀ g, IsEnum g (s.heap.objs.size + 1) s.heap.objs.size 0 .none → g.IsTupleIter s.heap.objs.size l 0 → g.objs.size = s.heap.objs.size + 2 → (∀ b o, s.heap.get? b = some o → g.get? b = some o) → Q (.ref (s.heap.objs.size + 1)) { s with heap := g }) :
    wpAny (model prog w) A (call (.type "enumerate") [.ref l]) Q E s := by
  obtain ⟨⟨cl, dct, dat, sl⟩, hl, hc, n, hd⟩ := tup
  have hc' : cl = .type "tuple" := hc
  have hd' : dat = .seq items n := hd
  subst hc' hd'
  refine callType_new PySem.F.called_enumerate (by decide) (PySem.F.typeCall_enumerate_1 _) (PySem.F.newCall_enumerate_1 _) (fun obj => PySem.F.args_object_init_2 obj _) PySem.F.entry_enumerate_new (made l items n dct sl) ⟨hl, ?_⟩
  have sz : (s.heap.push { cls := .type "tuple_iterator", data := .fields #[.ref l, .int 0 0] }).objs.size = s.heap.objs.size + 1 := Heap.size_push ..
  show _ ∧ _
  rw [sz]
  have en : IsEnum ((s.heap.push { cls := .type "tuple_iterator", data := .fields #[.ref l, .int 0 0] }).push { cls := .type "enumerate", data := .fields #[.none, .bool false, .ref s.heap.objs.size, rawInt 0, .none, .none] }) (s.heap.objs.size + 1) s.heap.objs.size 0 .none := by
    have z := Heap.get?_push_size (s.heap.push { cls := .type "tuple_iterator", data := .fields #[.ref l, .int 0 0] }) (o := { cls := .type "enumerate", data := .fields #[.none, .bool false, .ref s.heap.objs.size, rawInt 0, .none, .none] }) rfl
    rwa [sz] at z
  exact ⟨⟨_, en, rfl⟩, h _ en ⟨_, Heap.get?_push_of_some _ (Heap.get?_push_size _ rfl), rfl, rfl⟩ (by rw [Heap.size_push, sz]) fun b o x => Heap.get?_push_of_some _ (Heap.get?_push_of_some _ x)⟩
end
/-- the tuple at a as it stands, its items in new pairs with their places -/
def IteT (K : PySem.W.Frag) (a : Addr) : It :=
  ⟨fun i H => ∃ (xs : List V) (x : V), SqT K H a xs ∧ xs[i]? = some x, fun i H v H' => ∃ T x, v = .ref T ∧ H T = none ∧ H' = upd H T (.tup [.int (i : Nat), x]) ∧ ∀ xs, SqT K H a xs → xs[i]? = some x, fun i H => ∃ xs : List V, SqT K H a xs ∧ xs.length ≤ i⟩
theorem turn_of {P : Program} {w : World} {K : PySem.W.Frag} {elts : List Expr} {kk : Nat} {tpos : Pos} (a e it : Addr) :
    Turn P w K (.Tuple elts kk tpos) (IteT K a) [e, it] e (fun i h => (∃ old, IsEnum h e it ((i : Nat) : Int) old) ∧ h.IsTupleIter it a i ∧ e ≠ it) where
  mem := List.mem_cons_self
  obj := fun i h st b hb => by
    obtain ⟨⟨old, he⟩, ⟨o, ho, hc, hd⟩, _⟩ := st
    rcases (show b = e ∨ b = it by simpa using hb) with z | z <;> rw [z]
    · exact ⟨_, he, fun v q => nomatch q⟩
    · exact ⟨o, ho, fun v q => by rw [hd] at q; cases q⟩
  keep := fun i h h' st k => let ⟨⟨old, he⟩, ⟨o, ho, r⟩, hne⟩ := st; ⟨⟨old, k e List.mem_cons_self _ he⟩, ⟨o, k it (by simp) o ho, r⟩, hne⟩
  item := by
    intro X hP hw hK hc i pins s σ H E I hf st hg
    subst hP hw hK
    obtain ⟨⟨old, he⟩, hit, hne⟩ := st
    obtain ⟨xs, x, hq, hx⟩ := hg
    obtain ⟨its, rv, p, hz⟩ := I.tuple hq
    have el : e < s.heap.objs.size := Heap.lt_size he
    have il : it < s.heap.objs.size := let ⟨_, q, _⟩ := hit; Heap.lt_size q
    have it1 : its.toArray.size = xs.length := by rw [List.size_toArray, ← rv.length]
    have isT : s.heap.IsTuple a its.toArray := p
    have ta : a ≠ it := fun z => by
      obtain ⟨o1, q1, c1, _⟩ := isT
      obtain ⟨o2, q2, c2, _⟩ := hit
      rw [z, q2] at q1
      cases q1
      rw [c2] at c1
      exact absurd (Value.type.inj c1) (by decide)
    have tae : a ≠ e := fun z => by
      obtain ⟨o1, q1, c1, _⟩ := isT
      have q2 : s.heap.get? e = some _ := he
      rw [z, q2] at q1
      cases q1
      exact absurd (Value.type.inj (show Value.type "enumerate" = Value.type "tuple" from c1)) (by decide)
    refine wpAny_pyNext_enum_itemD (draws_tup (A := X.A.in1) (I.ok.hd hc) it a ta its.toArray) he ⟨hit, isT⟩ (by rw [it1]; exact (List.getElem?_eq_some_iff.mp hx).1) hne (by simp [hne, tae.symm]) fun u h' tk hu ho st' hT hsz hk => ?_
    have ru : RelV x u := by
      obtain ⟨u', e1, r1⟩ := rv.get hx
      have e2 : its[i]? = some u := by simpa using hu
      rw [e1] at e2
      cases e2
      exact r1
    refine ⟨_, rfl, wpAny_letOwnedTupleGo_enum (s := { s with heap := h', toks := tk + 1 }) ho fun h'' he' sb => ?_⟩
    have hT2 : h''.get? s.heap.objs.size = some { cls := .type "tuple", data := .seq #[.int i tk, u] } := (sb.2 _ (Nat.ne_of_gt el)).trans hT
    have new : ObjOk X.prog X.w (upd H s.heap.objs.size (.tup [.int (i : Nat), x])) h'' s.heap.objs.size (.tup [.int (i : Nat), x]) := ⟨by show 2 ≤ sizeLine; decide, [.int i tk, u], .cons ⟨_, rfl⟩ (.cons ru .nil), ⟨_, hT2, rfl, _, rfl⟩⟩
    have I1 : Inv X pins σ (upd H s.heap.objs.size (.tup [.int (i : Nat), x])) { s with heap := h'', toks := tk + 1 } := I.turnedNew (ch := [e, it]) (fun b ob hb q => (sb.2 b (fun z => hb (by simp [z]))).trans (hk b ob (fun z => hb (by simp [z])) (fun z => hb (by simp [z])) q)) hf (Nat.le_refl _) new
    refine ⟨.ref s.heap.objs.size, _, I1, rfl, ⟨_, x, rfl, I.hok.fresh (Nat.le_refl _), rfl, fun ys hy => by rw [I.tuple_inj hy hq]; exact hx⟩, ⟨⟨u, ?_⟩, ?_, hne⟩, fun b hb => ?_⟩
    · rw [show ((i + 1 : Nat) : Int) = (i : Int) + 1 by omega]
      exact he'
    · obtain ⟨o, q, r⟩ := st'.1
      exact ⟨o, (sb.2 it (Ne.symm hne)).trans q, r⟩
    · rw [upd_ne (Nat.ne_of_lt (by rcases (show b = e ∨ b = it by simpa using hb) with z | z <;> rw [z] <;> assumption))]
      exact (hf b hb).1
  done := by
    intro X hP hw hK hc i pins s σ H E I hf st hg
    subst hP hw hK
    obtain ⟨⟨old, he⟩, hit, hne⟩ := st
    obtain ⟨xs, hq, hx⟩ := hg
    obtain ⟨its, rv, p, hz⟩ := I.tuple hq
    obtain ⟨f0, f1, f2, f3, f4, f5⟩ := hf it (by simp)
    have isT : s.heap.IsTuple a its.toArray := p
    have hl := rv.length
    have hT : s.TypeIs (.ref e) "enumerate" := ⟨_, he, rfl⟩
    unfold pyNext
    refine wpAny_bind (wpAny_attempt (wpAny_callSpecial?_slot (name := Str.ofString "__next__") hT PySem.F.slot_enumerate_next (wpAny_call_entry PySem.F.slot_enumerate_next hT PySem.F.entry_enumerate_next ?_ (PySem.F.args_enumerate_next_1 _))))
    show wpAny _ _ (field (.ref e) 2 >>= fun _ => _) _ _ _
    refine wpAny_bind (wpAny_field he rfl (x := .ref it) rfl ?_)
    refine wpAny_bind (no_more (I.ok.hd hc) hit isT (by simp; omega) fun h' x eb hx' => ?_)
    obtain ⟨o, ho, hcl⟩ := hx'
    refine wpAny_bind (wpAny_isInstance (T := "StopIteration") (b := true) ⟨o, ho, hcl⟩ isSubtype_stop ?_)
    exact wpAny_pure ⟨rfl, I.turned (t' := s.toks) (fun b o hb q => eb b o hb q) f0 f1 f3 f4 f5⟩
  self := fun A i s Q E st h => let ⟨⟨_, he⟩, _⟩ := st; wpAny_pyIter_enum he h
def iEnumA (K : PySem.W.Frag) (ta : TA) : TI := fun σ H R => ta σ H fun vs H1 => ∃ a xs, vs = [.ref a] ∧ ((SqL K H1 a xs ∧ R (Ite K a) H1) ∨ (SqT K H1 a xs ∧ R (IteT K a) H1))
/-- enumerate(e), of a list or a tuple -/
theorem pi_enumA {X : Cx} {e : Expr} {ta : TA} {p pos tpos : Pos} {elts : List Expr} {kk : Nat} (hg : Gl X "enumerate") (hm : X.mg "enumerate" = none) (ha : PA X [e] ta) (one : starEach [e] X.env = [(false, eval e X.env)] := by rfl) :
    PI X (.Tuple elts kk tpos) (.Call (.Name "enumerate" p) [e] [] pos) (iEnumA X.K ta) := by
  refine ⟨fun pins s σ H R I h => ?_⟩
  refine Call_ (ld_blt I hg hm boot_enumerate (PyProof.Rows.callWith_type1 (thn (ha.run pos pins s σ H _ I h) fun us s1 ⟨vs, H1, I1, r1, z⟩ => ?_) one rfl))
  obtain ⟨a, xs, rfl, z⟩ := z
  obtain ⟨u1, rfl, r⟩ := vals1 r1
  obtain rfl : u1 = Value.ref a := r
  have two : ∀ b, b ∈ [s1.heap.objs.size + 1, s1.heap.objs.size] → s1.heap.objs.size ≤ b := fun b hb => by
    rcases (show b = s1.heap.objs.size + 1 ∨ b = s1.heap.objs.size by simpa using hb) with z | z <;> omega
  rcases z with ⟨hq, q⟩ | ⟨hq, q⟩
  · obtain ⟨its, rv, p', hz⟩ := I1.list hq
    refine call_enumerate_list p'.isList fun g he hit hsz hk => wpAny_pyIter_enum he ?_
    exact ⟨s1.heap.objs.size + 1, [s1.heap.objs.size + 1, s1.heap.objs.size], _, _, H1, rfl, (I1.kept (t' := s1.toks) hk : Inv X pins σ H1 { s1 with heap := g }), turn_enum a (s1.heap.objs.size + 1) s1.heap.objs.size, ⟨⟨.none, he⟩, hit, Nat.succ_ne_self _⟩, fun b hb => I1.fpOk (two b hb) (I1.hok.fresh (two b hb)), q⟩
  · obtain ⟨its, rv, p', hz⟩ := I1.tuple hq
    refine call_made (show s1.heap.IsTuple a its.toArray from p') fun g he hit hsz hk => wpAny_pyIter_enum he ?_
    exact ⟨s1.heap.objs.size + 1, [s1.heap.objs.size + 1, s1.heap.objs.size], _, _, H1, rfl, (I1.kept (t' := s1.toks) hk : Inv X pins σ H1 { s1 with heap := g }), turn_of a (s1.heap.objs.size + 1) s1.heap.objs.size, ⟨⟨.none, he⟩, hit, Nat.succ_ne_self _⟩, fun b hb => I1.fpOk (two b hb) (I1.hok.fresh (two b hb)), q⟩
theorem walk_enumT {K : PySem.W.Frag} {a : Addr} {xs : List V} : Walk (IteT K a) xs.length (fun H => SqT K H a xs) (YPair (fun i => some (.int (i : Nat))) (fun i => xs[i]?)) := by
  refine ⟨fun i _ hi q => ⟨xs, xs[i], q, by simp [hi]⟩, fun _ q => ⟨xs, q, Nat.le_refl _⟩, fun i H v H' _ q y => ?_⟩
  obtain ⟨T, x, e1, e2, e3, e4⟩ := y
  exact ⟨T, .int (i : Nat), x, e1, e2, e3, rfl, e4 xs q⟩
end EnT
/-! ### cells -/
abbrev sCell : Stmt := inClass (topS 20) 0
abbrev sCellEq : Stmt := inClass (topS 20) 1
theorem scCell : FnScope ["self", "name", "kind"] ["self", "name", "kind"] (defScope sCell) := ⟨rfl, rfl, rfl, by decide +kernel, rfl, by decide +kernel, by decide +kernel⟩
theorem scCellEq : FnScope ["self", "other"] ["self", "other"] (defScope sCellEq) := ⟨rfl, rfl, rfl, by decide +kernel, rfl, by decide +kernel, by decide +kernel⟩
def kindRow : List Str := ["frozen", "setting", "table"]
def isKind : PyData → Bool
  | .str z => decide (z ∈ kindRow)
  | _ => false
/-- what is written of the class Cell -/
structure CelC (K : PySem.W.Frag) (mg : Str → Option Value) (C : Addr) : Prop where
  cl : Cls K C
  nn : NoAttr K C "name"
  nk : NoAttr K C "kind"
  me : PySem.W.kitOne K (.ref C) (.ref C) = some true
  ot : PySem.W.kitOne K (.type "str") (.ref C) = some false
  gC : mg "Cell" = some (.ref C)
  ca : PySem.W.findIn K (.ref C) "__class__" = some (some (.builtin "object.__class__"))
  cg : PySem.W.specialIn K (.builtin "object.__class__") "__get__" = some (some (.builtin "getset_descriptor.__get__"))
  ct : PySem.W.takesIn K (.builtin "object.__class__") = some true
  cm : PySem.W.mroIn K C (.type "object") = some true
  ne : PySem.W.findIn K (.ref C) "__ne__" = some (some (.builtin "object.__ne__"))
  so : PySem.W.subIn K (.ref C) (.type "object") = some true
  nf : PySem.W.notFirst K C (.type "str") = true
def KindT (K : PySem.W.Frag) (mg : Str → Option Value) : Prop := ∃ a, mg "KINDS" = some (.ref a) ∧ ∀ H : Hp, SqT K H a (kindRow.map V.str)
/-- a cell of this name and kind, at a -/
def CellAt (H : Hp) (C a : Addr) (n k : Str) : Prop := ∃ dx fs, H a = some (.ins C dx fs) ∧ fs.lookup ("name" : Str) = some (V.str n) ∧ fs.lookup ("kind" : Str) = some (V.str k)
theorem CellAt.same {H H' : Hp} {C a : Addr} {n k : Str} (h : CellAt H C a n k) (s : Same H H') : CellAt H' C a n k := by
  obtain ⟨dx, fs, e, r⟩ := h
  exact ⟨dx, fs, s _ _ e, r⟩
theorem CellAt.but {H H' : Hp} {C a p : Addr} {n k : Str} {xs : List V} (h : CellAt H C a n k) (e : H p = some (.lst xs)) (b : But p H H') : CellAt H' C a n k := by
  obtain ⟨dx, fs, ea, r⟩ := h
  exact ⟨dx, fs, b _ _ ea (fun q => by rw [q, e] at ea; cases ea), r⟩
/-- what a cell of such parts is refused for -/
def cellOut (d e : PyData) : Option Str := if isName d then (if isKind e then none else some "kind") else some "name"
abbrev CWish (H : Hp) (CB : Addr) (E : XK) (z : Str) : Prop := ∀ H1 dd H', Same H H1 → Left H1 dd "part" (.str z) H' → E (.ref CB) (some dd) H'
def spCell (K : PySem.W.Frag) (C CB : Addr) : Sp := fun vs H Q E => ∃ a dx v u d e, vs = [.ref a, v, u] ∧ H a = some (.ins C dx []) ∧ Dp K H v d ∧ Dp K H u e ∧ szD d = true ∧
  ((∃ z, cellOut d e = some z ∧ CWish H CB E z) ∨
   (∃ n k, d = .str n ∧ e = .str k ∧ cellOut d e = none ∧ ∀ H1 fs, Same H H1 → fs.lookup ("name" : Str) = some (V.str n) → fs.lookup ("kind" : Str) = some (V.str k) → Q .non (upd H1 a (.ins C dx fs))))
def spCellEq (C : Addr) : Sp := fun vs H Q _ => ∃ (a : Addr) (n k : Str) (y : V), vs = [.ref a, y] ∧ CellAt H C a n k ∧ ((∃ b m l, y = .ref b ∧ CellAt H C b m l ∧ Q (.bl (decide (n = m) && decide (k = l))) H) ∨ ∃ z, y = .str z ∧ Q (.bl false) H)
section
variable {P : Program} {w : World} {K : PySem.W.Frag} {mg : Str → Option Value} {base : Heap}
theorem ok_cell {C CB f fB fN : Addr} {fd fdB fdN : FuncData} (F : Fun K "__init__" "Cell.__init__" sCell f fd) (M : Blt mg) (T : CelC K mg C) (R : KindT K mg) (TE : ErrT K mg "BadPart" "part" CB fB)
    (GB : FnOk P w K mg base CX0 1 fB fdB ["self", "part"] (spErr CB "part")) (bB : Binds K fdB ["self", "part"] [])
    (GN : FnOk P w K mg base CX0 1 fN fdN ["value"] (spB K isName)) (kN : PySem.W.keepIn K (.ref fN) = true) (bN : Binds K fdN ["value"] []) (gN : mg "is_name" = some (.ref fN)) : FnOk P w K mg base (L2.CX P w) 3 f fd ["self", "name", "kind"] (spCell K C CB) := by
  obtain ⟨aR, gR, hR⟩ := R
  refine F.okX scCell (fun vs H Q E h => ?_) (fun cdv A outer s H vs Q E hr h => ?_)
  · obtain ⟨a, dx, v, u, d, e, rfl, _⟩ := h
    rfl
  · obtain ⟨a, dx, v, u, d, e, rfl, ea, hv, hu, hz, h⟩ := h
    have hr1 : Room 1 _ := hr.mono (by decide)
    refine ⟨_, pss_cons (ps_if (pt_not (pt_val (pe_call GN hr1 (by rfl) gN kN bN .nil pass0 (pa_cons (pv 1) pa_nil))))
        (pss_one (ps_raise rfl (takes_of rfl rfl rfl rfl) (pmk_oex (k := 1) (ps := ["self", "part"]) (sp := spErr CB "part") (ds := []) (dvs := []) TE.oex TE.ini TE.typ GB hr bB .nil pass0 (by rfl) TE.nam (pa_cons pe_str pa_nil)))) pss_nil)
      (pss_cons (ps_if (PW.pt (pw_or (pt_not (pt_val (pe_callB call_isi (by rfl) M.isinstance (by decide +kernel) (pa_cons (pv 2) (pa_cons (pe_bltn (v := .ty "str") (by rfl) M.str (by decide +kernel) rfl) pa_nil)))))
        (pw_or1 (pt_cmpR op_notIn_seq (pv 2) (pe_glob (v := .ref aR) (by rfl) gR rfl) (by rfl)))))
        (pss_one (ps_raise rfl (takes_of rfl rfl rfl rfl) (pmk_oex (k := 1) (ps := ["self", "part"]) (sp := spErr CB "part") (ds := []) (dvs := []) TE.oex TE.ini TE.typ GB hr bB .nil pass0 (by rfl) TE.nam (pa_cons pe_str pa_nil)))) pss_nil)
      (pss_cons (ps_fld (pv 0) (pv 1) (by rfl)) (pss_one (ps_fld (pv 0) (pv 2) (by rfl))))), ?_⟩
    refine ⟨v, rfl, v, d, rfl, hv, hz, fun H1 s1 => ⟨_, rfl, ?_⟩⟩
    cases hn : isName d with
    | false =>
      have e0 : cellOut d e = some "name" := by
        unfold cellOut
        rw [hn]
        rfl
      rcases h with ⟨z, ez, q⟩ | ⟨n, k, _, _, ez, _⟩
      · rw [e0] at ez
        cases ez
        exact iteT ⟨by show (1 : Nat) ≤ 1000; decide, mk_left fun dd H' l => q H1 dd H' s1 l⟩
      · rw [e0] at ez
        cases ez
    | true =>
      refine iteF ?_
      have hu1 := dp_same s1 hu
      refine ⟨u, rfl, u, .ty "str", _, _, _, rfl, .ty "str", dp_ty hu1, kit_str K e, _, rfl, ?_⟩
      have bad : isKind e = false → Left H1 = Left H1 → ∀ (W : Prop), (CWish H CB E "kind" → W) → W := fun hk _ W g => by
        have e0 : cellOut d e = some "kind" := by
          unfold cellOut
          rw [hn, hk]
          rfl
        rcases h with ⟨z, ez, q⟩ | ⟨n, k, _, _, ez, _⟩
        · rw [e0] at ez
          cases ez
          exact g q
        · rw [e0] at ez
          cases ez
      cases hu1 with
      | str z =>
        refine iteF ⟨V.str z, rfl, aR, _, rfl, .inr (hR H1), rfl, by decide, _, rfl, ?_⟩
        have e1 : inV (V.str z) (kindRow.map V.str) = decide (z ∈ kindRow) := inV_strs z kindRow
        by_cases hk : z ∈ kindRow
        · rw [decide_eq_true hk] at e1
          simp only [e1]
          refine iteF ?_
          have e0 : cellOut d (.str z) = none := by
            unfold cellOut
            rw [hn]
            show (if decide (z ∈ kindRow) = true then none else some ("kind" : Str)) = none
            rw [decide_eq_true hk]
            rfl
          rcases h with ⟨z', ez, q⟩ | ⟨n, k, ed, ee, ez, q⟩
          · rw [e0] at ez
            cases ez
          · cases ee
            subst ed
            cases hv
            refine ⟨.str n, rfl, .ref a, rfl, a, C, dx, [], rfl, s1 _ _ ea, T.cl, T.nn, by decide, ?_⟩
            refine ⟨.str z, rfl, .ref a, rfl, a, C, dx, _, rfl, upd_same, T.cl, T.nk, (by show (1 : Nat) < 1000; decide), ?_⟩
            rw [upd_twice]
            exact q H1 _ s1 rfl rfl
        · rw [decide_eq_false hk] at e1
          simp only [e1]
          exact iteT (bad (decide_eq_false hk) rfl _ fun q => ⟨by show (1 : Nat) ≤ 1000; decide, mk_left fun dd H' l => q H1 dd H' s1 l⟩)
      | non => exact iteT (iteT (bad rfl rfl _ fun q => ⟨by show (1 : Nat) ≤ 1000; decide, mk_left fun dd H' l => q H1 dd H' s1 l⟩))
      | bl b => exact iteT (iteT (bad rfl rfl _ fun q => ⟨by show (1 : Nat) ≤ 1000; decide, mk_left fun dd H' l => q H1 dd H' s1 l⟩))
      | int b => exact iteT (iteT (bad rfl rfl _ fun q => ⟨by show (1 : Nat) ≤ 1000; decide, mk_left fun dd H' l => q H1 dd H' s1 l⟩))
      | lst h1 h2 => exact iteT (iteT (bad rfl rfl _ fun q => ⟨by show (1 : Nat) ≤ 1000; decide, mk_left fun dd H' l => q H1 dd H' s1 l⟩))
      | tup h1 h2 => exact iteT (iteT (bad rfl rfl _ fun q => ⟨by show (1 : Nat) ≤ 1000; decide, mk_left fun dd H' l => q H1 dd H' s1 l⟩))
theorem ok_cellEq {C f : Addr} {fd : FuncData} (F : Fun K "__eq__" "Cell.__eq__" sCellEq f fd) (M : Blt mg) (T : CelC K mg C) : FnOk P w K mg base CX0 1 f fd ["self", "other"] (spCellEq C) := by
  refine F.ok scCellEq (fun vs H Q E h => ?_) (fun cdv A outer s H vs Q E hr h => ?_)
  · obtain ⟨a, n, k, y, rfl, _⟩ := h
    rfl
  · obtain ⟨a, n, k, y, rfl, ⟨dx, fs, ea, hn, hk⟩, h⟩ := h
    refine ⟨_, pss_one (ps_ret (pe_and (pe_callB call_isi (by rfl) M.isinstance (by decide +kernel) (pa_cons (pv 1) (pa_cons (pe_glob (v := .ref C) (by rfl) T.gC rfl) pa_nil)))
      (pe_and (pe_cmpR op_eq (pe_fld (pv 0) (by rfl)) (pe_fld (pv 1) (by rfl)) (nomark _)) (pe_one (pe_cmpR op_eq (pe_fld (pv 0) (by rfl)) (pe_fld (pv 1) (by rfl)) (nomark _)))))), ?_⟩
    rcases h with ⟨b, m, l, rfl, ⟨dy, gs, eb, hm, hl⟩, q⟩ | ⟨z2, rfl, q⟩
    · refine ⟨_, rfl, _, _, _, _, _, rfl, .own C, .base (.ins eb T.cl T.ca T.cg T.ct T.cm), T.me, _, rfl, iteT ?_⟩
      refine ⟨_, rfl, a, C, dx, fs, _, rfl, ea, T.cl, T.nn, hn, _, rfl, b, C, dy, gs, _, rfl, eb, T.cl, T.nn, hm, rfl, _, rfl, ?_⟩
      have e1 : decide (V.str n = V.str m) = decide (n = m) := by
        by_cases e : n = m
        · rw [decide_eq_true e, decide_eq_true (by rw [e])]
        · rw [decide_eq_false e, decide_eq_false (fun z => e (V.str.inj z))]
      have e2 : decide (V.str k = V.str l) = decide (k = l) := by
        by_cases e : k = l
        · rw [decide_eq_true e, decide_eq_true (by rw [e])]
        · rw [decide_eq_false e, decide_eq_false (fun z => e (V.str.inj z))]
      rw [← e1, ← e2] at q
      cases h1 : decide (V.str n = V.str m) with
      | false =>
        rw [h1] at q
        exact iteF q
      | true =>
        rw [h1] at q
        exact iteT ⟨_, rfl, a, C, dx, fs, _, rfl, ea, T.cl, T.nk, hk, _, rfl, b, C, dy, gs, _, rfl, eb, T.cl, T.nk, hl, rfl, q⟩
    · exact ⟨_, rfl, _, _, _, _, _, rfl, .own C, .base (.str z2), T.ot, _, rfl, iteF q⟩
end
/-! ### making an error of any base, with values and keywords -/
namespace ExG
open PySem.HandSPX
section
variable {M : Model} {prog : Program} {w : World} {A : Around} {E : Value → Shared → Prop} {R : Result → Shared → Prop} {h : Heap} {g : Array GenState} {d : Drawn} {t : Nat} {os : OsState}
variable {nm q : Str} {C N : Addr} {bs bm bmB : List Value} {hdct : Bool} {sn : List Str} {sub : List Value} {ab : Bool} {col : Option Bool} {dd : Option Addr} {k0 k1 k2 k3 k5 : Option Value} {nB newId nI : String} {rest : List Value} {kw : List (Str × Value)}
/-- what of the chain bm is asked when an error is made by newId, nB's -/
structure Chain (bm : List Value) (nB : String) : Prop where
  has : bm.contains (.type nB) = true
  noA : bm.contains (.type "AttributeError") = false
  noN : bm.contains (.type "NameError") = false
theorem may_new (F : ExcBaseFacts nB newId nI bmB) (T : Chain bm nB) {Q : Unit → Shared → Prop} (hC : h.get? C = some (excClassObj nm q C N bs bm hdct sn sub ab col dd k0 k1 k2 k3 k5 newId)) (hq : Q () ⟨h, g, d, t, os⟩) :
    wpAny M A (checkBuiltinCall newId ⟨.ref C :: rest, kw⟩) Q E ⟨h, g, d, t, os⟩ := by
  have sub1 : (Value.ref C :: bm).contains (.type nB) = true := by rw [List.contains_cons, T.has, Bool.or_true]
  have st := F.noStar
  simp only [checkBuiltinCall, F.newKind, F.newSplit, F.newRow]
  repeat (first
    | refine wpAny_loadPart_at hC ?_
    | (refine wpAny_isSubtype_exc hC ?_; rw [sub1])
    | refine wpAny_staticBase_exc hC ?_
    | refine wpAny_madeBy_exc hC ?_
    | simp only [bne_self_eq_false, Bool.false_eq_true, if_false]
    | wp_step)
  exact hq
theorem new_at (F : ExcBaseFacts nB newId nI bmB) (T : Chain bm nB) (hC : h.get? C = some (excClassObj nm q C N bs bm hdct sn sub ab col dd k0 k1 k2 k3 k5 newId)) (few : rest.length ≤ sizeLine)
    (hq : R (.ok (.ret (.ref (h.objs.size + 1)))) ⟨(h.push (PySem.W.kdv_tup rest)).push (excO C h.objs.size), g, d, t, os⟩) : codeAny (model prog w) A (.builtin newId ⟨.ref C :: rest, kw⟩) R ⟨h, g, d, t, os⟩ := by
  have e1 := F.ends
  have s1 : (Value.ref C :: bm).contains (.type nB) = true := by rw [List.contains_cons, T.has, Bool.or_true]
  have s2 : (Value.ref C :: bm).contains (.type "AttributeError") = false := by rw [List.contains_cons, T.noA]; rfl
  have s3 : (Value.ref C :: bm).contains (.type "NameError") = false := by rw [List.contains_cons, T.noN]; rfl
  refine codeAny_builtinAt F.entry ?_
  unfold Builtin.«BaseException.__new__»
  refine PySem.wpAt_bind ?_
  show PySem.wpAt _ _ _ (stack >>= _) _ _ _
  refine PySem.wpAt_bind (PySem.wpAt_stack fun p below => PySem.wpAt_of_wpAny ?_)
  wp_walk
  refine PySem.wpAt_of_wpAny ?_
  rw [F.owner]
  repeat (first
    | with_reducible refine wpAny_madeHere_exc F.canon hC ?_
    | with_reducible refine wpAny_loadPart_at hC ?_
    | (with_reducible refine wpAny_isSubtype_exc hC ?_; first | rw [s1] | rw [s2] | rw [s3])
    | wp_step)
  show R _ _
  rw [Heap.size_push]
  exact hq
theorem made_at (F : ExcBaseFacts nB newId nI bmB) (T : Chain bm nB) {fI : Addr} {Q : Fin → Shared → Prop} (hC : h.get? C = some (excClassObj nm q C N bs bm hdct sn sub ab col dd k0 k1 k2 k3 k5 newId))
    (hi : PySem.W.Looks (model prog w) h (typeLookup (.ref C) "__init__") (some (.ref fI))) (hb : ∀ self, PySem.W.Looks (model prog w) h (bindSpecial (.ref fI) self) (.ref fI, [self])) (few : rest.length ≤ sizeLine)
    (hq : codeAny (model prog w) A (.call (.ref fI) ⟨.ref (h.objs.size + 1) :: rest, kw⟩) (fun r s' => match r with | .ok (.ret v) => v = .none ∧ Q (.done (.ret (.ref (h.objs.size + 1)))) s' | .ok _ => False | .error e => E e s')
      ⟨(h.push (PySem.W.kdv_tup rest)).push (excO C h.objs.size), g, d, t, os⟩) : wpAny (model prog w) A (Builtin.«type.__call__» ⟨.ref C :: rest, kw⟩) Q E ⟨h, g, d, t, os⟩ := by
  repeat (first
    | with_reducible refine wpAny_loadPart_at hC ?_
    | with_reducible refine wpAny_madeBy_exc hC ?_
    | wp_step)
  refine codeAny_call_builtin_code (Code.quiet_builtin _ F.quiet) (may_new F T hC (new_at F T hC few ?_))
  show wpAny _ _ _ _ _ _
  have keep : ∀ b o, h.get? b = some o → ((h.push (PySem.W.kdv_tup rest)).push (excO C h.objs.size)).get? b = some o := fun b o e => Heap.get?_push_of_some _ (Heap.get?_push_of_some _ e)
  have c1 := keep _ _ hC
  have here : ((h.push (PySem.W.kdv_tup rest)).push (excO C h.objs.size)).get? (h.objs.size + 1) = some (excO C h.objs.size) := by heap_get
  have self : (Value.ref C :: bm).contains (.ref C) = true := by simp
  have l1 := hi.keeps keep
  have l2 := (hb (.ref (h.objs.size + 1))).keeps keep
  unfold isInstance
  repeat (first
    | with_reducible refine wpAny_loadPart_at here ?_
    | (with_reducible refine wpAny_isSubtype_exc c1 ?_; rw [self])
    | wp_step)
  show wpAny _ _ (typeLookup (.ref C) _) _ _ _
  refine l1.at (wpAny_holding (wpAny_bind (l2.at (wpAny_bind (wpAny_call (codeAny_mono hq fun r s' z => ?_))))))
  rcases r with e | (v | _ | _ | _) <;> first | exact z | exact z.elim | skip
  obtain ⟨rfl, z⟩ := z
  first
    | exact wpAny_pure (wpAny_pure z)
    | (wp_walk; exact z)
theorem may_call {Q : Unit → Shared → Prop} (hC : h.get? C = some (excClassObj nm q C N bs bm hdct sn sub ab col dd k0 k1 k2 k3 k5 newId)) (hq : Q () ⟨h, g, d, t, os⟩) : wpAny M A (checkBuiltinCall "type.__call__" ⟨.ref C :: rest, kw⟩) Q E ⟨h, g, d, t, os⟩ := by
  have f3 := tc_sub
  have ty : (⟨h, g, d, t, os⟩ : Shared).TypeIs (.ref C) "type" := ⟨_, hC, rfl⟩
  simp only [checkBuiltinCall, tc_kind, tc_split]
  repeat (any_goals (first
    | assumption
    | with_reducible refine wpAny_loadPart_at hC ?_
    | with_reducible refine wpAny_onRaise ?_
    | with_reducible refine wpAny_map ?_
    | wp_step))
theorem call_at (F : ExcBaseFacts nB newId nI bmB) (T : Chain bm nB) {fI : Addr} (hC : h.get? C = some (excClassObj nm q C N bs bm hdct sn sub ab col dd k0 k1 k2 k3 k5 newId))
    (hi : PySem.W.Looks (model prog w) h (typeLookup (.ref C) "__init__") (some (.ref fI))) (hb : ∀ self, PySem.W.Looks (model prog w) h (bindSpecial (.ref fI) self) (.ref fI, [self])) (few : rest.length ≤ sizeLine)
    (hq : codeAny (model prog w) (A.under (.builtin "type.__call__" ⟨.ref C :: rest, kw⟩)) (.call (.ref fI) ⟨.ref (h.objs.size + 1) :: rest, kw⟩) (PySem.W.InitBack (h.objs.size + 1) R) ⟨(h.push (PySem.W.kdv_tup rest)).push (excO C h.objs.size), g, d, t, os⟩) :
    codeAny (model prog w) A (.call (.ref C) ⟨rest, kw⟩) R ⟨h, g, d, t, os⟩ := by
  have f1 := tc_lookup
  have f2 := tc_bind (.ref C)
  have ty : (⟨h, g, d, t, os⟩ : Shared).TypeIs (.ref C) "type" := ⟨_, hC, rfl⟩
  refine codeAny_of_tree ?_
  show wpAny _ _ (callAny (.ref C) _) _ _ _
  repeat (any_goals (first
    | assumption
    | with_reducible refine wpAny_loadPart_at hC ?_
    | wp_step))
  refine ⟨rfl, ?_⟩
  refine codeAny_call_builtin_at (Code.quiet_builtin _ (by decide +kernel)) entry_typeCall (may_call hC (made_at F T hC hi hb few (codeAny_mono hq fun r s' z => ?_)))
  rcases r with e | (v | _ | _ | _) <;> exact z
end
end ExG
namespace ExG
open PySem.HandSPX
open Builtin Builtin.ObjectAttr
section
variable {M : Model} {prog : Program} {w : World} {A : Around} {E : Value → Shared → Prop} {R : Result → Shared → Prop} {h : Heap} {g : Array GenState} {d : Drawn} {t : Nat} {os : OsState}
variable {nm q : Str} {C N : Addr} {bs bm : List Value} {hdct : Bool} {sn : List Str} {sub : List Value} {ab : Bool} {col : Option Bool} {dd : Option Addr} {k0 k1 k2 k3 k5 : Option Value} {newId iB iId : String} {rest : List Value}
/-- what is written of a base's own __init__ -/
structure Ini (iB iId : String) : Prop where
  slot : Slot iB "__init__" iId
  entry : entryFor table iId = some Builtin.«BaseException.__init__»
  kind : builtinKind iId = some .slot
  split : splitId iId = some (iB, "__init__")
  row : Manifest.signature? iId = some ⟨.positional, "*", iB, .self, [⟨"args", .varPos, false⟩]⟩
  star : (iB != "*") = true
theorem may_init (F : Ini iB iId) (has : bm.contains (.type iB) = true) {e : Addr} {oe : Obj} {Q : Unit → Shared → Prop} (hC : h.get? C = some (excClassObj nm q C N bs bm hdct sn sub ab col dd k0 k1 k2 k3 k5 newId)) (he : h.get? e = some oe) (hcls : oe.cls = .ref C) (hq : Q () ⟨h, g, d, t, os⟩) :
    wpAny M A (checkBuiltinCall iId ⟨.ref e :: rest, []⟩) Q E ⟨h, g, d, t, os⟩ := by
  have s1 : (Value.ref C :: bm).contains (.type iB) = true := by rw [List.contains_cons, has, Bool.or_true]
  have st := F.star
  simp only [checkBuiltinCall, F.kind, F.split, F.row]
  repeat (first
    | (with_reducible refine wpAny_loadPart_at he ?_; rw [hcls])
    | with_reducible refine wpAny_loadPart_at hC ?_
    | (with_reducible refine wpAny_isSubtype_exc hC ?_; rw [s1])
    | wp_step)
  refine wpAny_onRaise ?_
  have ok : ∀ (a b : String) (n : Nat), Bind.check ⟨.positional, "*", iB, .self, [⟨"args", .varPos, false⟩]⟩ a b n (List.map (fun x => x.fst) ({ pos := Value.ref e :: rest } : Args).kw) = pure () := fun a b n => check_star_args _ _ _ _ _ _
  rw [ok]
  exact wpAny_pure hq
theorem init_at (F : Ini iB iId) (has : bm.contains (.type iB) = true) {e t0 : Addr} (hC : h.get? C = some (excClassObj nm q C N bs bm hdct sn sub ab col dd k0 k1 k2 k3 k5 newId)) (he : h.get? e = some (excO C t0)) (few : rest.length ≤ sizeLine)
    (hq : ∀ h' t1, (∀ b o, b ≠ e → h.get? b = some o → h'.get? b = some o) → h'.get? e = some (excO C t1) → R (.ok (.ret .none)) ⟨h', g, d, t, os⟩) : codeAny (model prog w) A (.call (.builtin iId) ⟨.ref e :: rest, []⟩) R ⟨h, g, d, t, os⟩ := by
  refine codeAny_call_builtin F.slot.plain F.entry (may_init F has hC he rfl ?_)
  wp_walk
  refine hq _ h.objs.size (fun b o hb ho => (Heap.get?_update_other _ _ (Ne.symm hb)).trans (Heap.get?_push_of_some _ ho)) ?_
  rw [Heap.get?_update_self _ (Heap.get?_push_of_some _ he) rfl]
  rfl
/-- x.name = v on an error that has no dict as yet -/
theorem first_field {K : PySem.W.Frag} {name : Str} {tk : Tok} {v : Value} {x C : Addr} {fv : Array Value} {cd : ClassData} (X : K.In h) (hx : h.get? x = some { cls := .ref C, data := .fields fv }) (hcd : PySem.W.clsIn K C = some cd)
    (pass : ∀ self : Value, refuseLoop self "__setattr__" cd.mro = pure ()) (obj : cd.mro.contains (.type "object") = true) (ne : cd.mro.isEmpty = false) (hh : cd.hasDict = true) (ha : PySem.W.findIn K (.ref C) name = some none)
    (hq : ∀ h' tk' dx, (∀ b o, b ≠ x → h.get? b = some o → h'.get? b = some o) → h.objs.size ≤ dx → dx ≠ x → h'.get? x = some { cls := .ref C, dict := some dx, data := .fields fv } → h'.Ns1 dx (fun y => if y = name then some v else none) → R (.ok (.ret .none)) ⟨h', g, d, tk', os⟩) :
    codeAny (model prog w) A (.call (.builtin "object.__setattr__") ⟨[.ref x, .str name tk, v], []⟩) R ⟨h, g, d, t, os⟩ := by
  have I : PySem.W.InstAt h x { cls := .ref C, data := .fields fv } C none := ⟨hx, rfl, rfl, trivial⟩
  have SF := F.store_object
  have xs : x ≠ h.objs.size := Nat.ne_of_lt (Heap.lt_size hx)
  have isO : PySem.W.Looks (model prog w) h (isInstance (.ref x) (.type "object")) true := I.type.andThen (PySem.W.looks_mroIn X (by unfold PySem.W.mroIn; rw [hcd, Option.bind_some, if_neg (by rw [ne]; decide), obj]))
  refine codeAny_call_builtin SF.slot.plain SF.entry (@PySem.W.check_slot (model prog w) _ _ ⟨h, g, d, t, os⟩ "object.__setattr__" "object" "__setattr__" (.ref x) [.str name tk, v] [] _ SF.kind SF.split isO (SF.args (.ref x) (.str name tk) v) ?_)
  have L1 : PySem.W.Looks (model prog w) h (mroOf (.ref C)) cd.mro := (PySem.W.looks_clsIn X hcd).andThen .now
  have L2' : PySem.W.Looks (model prog w) h (storeTaker? none) none := .now
  have L4 : PySem.W.Looks (model prog w) h (classData C) cd := PySem.W.looks_clsIn X hcd
  rw [PySem.W.osa_eq, refuse_eq]
  refine wpAny_bind (wpAny_bind (I.type.at (wpAny_bind (L1.at ?_))))
  rw [pass]
  refine wpAny_pure (wpAny_bind (I.type.at (wpAny_bind ((PySem.W.looks_findIn X ha).at (wpAny_bind (L2'.at ?_))))))
  show wpAny _ _ (storeInOwnDict (.ref x) (.ref C) (.str name tk) name v false) _ _ _
  obtain ⟨nm, bs, mro, ns, qn, hd, sn, sb, ab, col, del⟩ := cd
  dsimp only at hh
  subst hh
  unfold storeInOwnDict ownDictForStores
  repeat (first
    | with_reducible refine store_in_new ?_ ?_
    | with_reducible refine wpAny_loadPart_at hx ?_
    | with_reducible refine L4.at ?_
    | wp_step)
  · exact ⟨_, #[], _, (Heap.get?_update_ne _ _ _ _ xs.symm).trans (Heap.get?_push_at rfl rfl), rfl, fun e he => absurd he (by simp), fun _ => rfl⟩
  · intro h' tk' hn' hs
    have x1 : (h.push { cls := .type "dict", data := .dict #[] }).get? x = some { cls := .ref C, data := .fields fv } := Heap.get?_push_of_some _ hx
    refine hq h' tk' h.objs.size (fun b o hb ho => (hs.2 b (Nat.ne_of_lt (Heap.lt_size ho))).trans ((Heap.get?_update_ne _ _ _ _ hb).trans (Heap.get?_push_of_some _ ho))) (Nat.le_refl _) xs.symm ?_ hn'
    exact (hs.2 x xs).trans (Heap.get?_update_self _ x1 rfl)
end
end ExG
/-! ### errors as values -/
/-- what a family of error classes has in common: who makes them (nB, newId), whose __init__ is asked (iB, iId), the chain above the class -/
structure Fam where
  nB : String
  newId : String
  iB : String
  iId : String
  bm : List Value
structure FamOk (f : Fam) : Prop where
  new : ∃ nI bmB, ExcBaseFacts f.nB f.newId nI bmB
  cha : ExG.Chain f.bm f.nB
  ini : ExG.Ini f.iB f.iId
  has : f.bm.contains (.type f.iB) = true
  pas : ∀ self : Value, refuseLoop self "__setattr__" f.bm = pure ()
  obj : f.bm.contains (.type "object") = true
structure OexG (K : PySem.W.Frag) (f : Fam) (C : Addr) : Prop where
  cls : ∃ nm q N bs sn sub ab col dd k0 k1 k2 k3 k5, K.lookup C = some (excClassObj nm q C N bs f.bm true sn sub ab col dd k0 k1 k2 k3 k5 f.newId)
  sa : PySem.W.findIn K (.ref C) "__setattr__" = some (some (.builtin "object.__setattr__"))
  kC : PySem.W.keepIn K (.ref C) = true
/-- the error of the class C that keeps v under f stands at a -/
def ErrAt (H : Hp) (C : Addr) (f : Str) (a : Addr) (v : V) : Prop := ∃ d, H a = some (exo a C (some d)) ∧ H d = some (exd d [(f, v)])
theorem ErrAt.ext {H H' : Hp} {C a : Addr} {f : Str} {v : V} (h : ErrAt H C f a v) (s : Same H H') : ErrAt H' C f a v := by
  obtain ⟨d, e1, e2⟩ := h
  exact ⟨d, s _ _ e1, s _ _ e2⟩
section
variable {X : Cx} {pins : List (Addr × Obj)} {σ : L2.St} {H : Hp} {s : Shared} {a C : Addr} {fam : Fam} {f : Str} {y : V} {u : Value} {E : Value → Shared → Prop} {A : Around}
theorem init_in {us : List Value} {Q : Value → Shared → Prop} (F : FamOk fam) (T : OexG X.K fam C) (I : Inv X pins σ H s) (e : H a = some (exo a C none)) (few : us.length ≤ sizeLine) (h : ∀ s', Inv X pins σ H s' → Q .none s') :
    wpAny (model X.prog X.w) X.A (call (.builtin fam.iId) (.ref a :: us)) Q E s := by
  obtain ⟨nm, q, N, bs, sn, sub, ab, col, dd, k0, k1, k2, k3, k5, hC⟩ := T.cls
  obtain ⟨t1, ho⟩ := exo_at I.hok e
  obtain ⟨hp, g, d, t, os⟩ := s
  refine wpAny_call (ExG.init_at F.ini F.has (I.kIn _ _ hC) ho few fun h' t2 k hx => ?_)
  have same : upd H a (exo a C none) = H := by
    funext b
    by_cases z : b = a
    · rw [z, upd_same, e]
    · rw [upd_ne z]
  have J := I.write (t' := t) (x := a) (e := a) (o := exo a C none) (by rw [e]; exact True.intro) (.inl rfl) k ⟨_, hx⟩ (exo_ok hx)
  rw [same] at J
  exact h _ J
theorem field_in {Q : Unit → Shared → Prop} (F : FamOk fam) (T : OexG X.K fam C) (I : Inv X pins σ H s) (e : H a = some (exo a C none)) (no : PySem.W.findIn X.K (.ref C) f = some none) (ry : RelV y u)
    (h : ∀ dx s', H dx = none → dx ≠ a → Inv X pins σ (upd (upd H dx (exd dx [(f, y)])) a (exo a C (some dx))) s' → Q () s') : wpAny (model X.prog X.w) A (setAttr (.ref a) f u) Q E s := by
  obtain ⟨nm, q, N, bs, sn, sub, ab, col, dd, k0, k1, k2, k3, k5, hC⟩ := T.cls
  have hcl : PySem.W.clsIn X.K C = some { name := nm, bases := bs, mro := .ref C :: fam.bm, ns := N, qualname := q, hasDict := true, slotNames := sn, subclasses := sub, abstract := ab, collection := col, hasDel := false } := by
    unfold PySem.W.clsIn
    rw [hC] <;> rfl
  obtain ⟨t1, ho⟩ := exo_at I.hok e
  obtain ⟨hp, g, d, t, os⟩ := s
  refine PySem.W.set_plain I.kIn (ox := { cls := .ref C, dict := none, data := .fields #[.ref t1, .none, .none, .none, .bool false, .none] }) (od := none) ⟨ho, rfl, rfl, trivial⟩ T.sa ?_
  refine ExG.first_field I.kIn ho hcl (fun self => (refuseLoop_ref self _ C fam.bm).trans (F.pas self)) (by show (Value.ref C :: fam.bm).contains _ = true; rw [List.contains_cons, F.obj, Bool.or_true]) rfl rfl no (fun h' tk' dx k dn dne hx hn => ?_)
  have free : H dx = none := I.hok.fresh dn
  have low : ∀ {b : Addr} {o : Obj}, hp.get? b = some o → b ≠ dx := fun {b o} z => Nat.ne_of_lt (Nat.lt_of_lt_of_le (Heap.lt_size z) dn)
  have other : ∀ {b : Addr}, H b = none → b ≠ a := fun {b} n z => by
    rw [z, e] at n
    cases n
  have U : Un X.fs [] H (upd (upd H dx (exd dx [(f, y)])) a (exo a C (some dx))) hp h' := {
    keep := fun b o z n _ _ => k b o (other n) z
    slot := fun b o z n _ _ => ⟨o.slots, k b o (other n) z⟩
    free := fun b o z n _ => by
      rw [upd_ne (other n), upd_ne (low z)]
      exact n
    there := fun b o z _ => by
      by_cases hb : b = a
      · exact ⟨_, by rw [hb]; exact hx⟩
      · exact ⟨o, k b o hb z⟩
    tups := fun b xs z => by
      rw [upd_ne (at_ne e z exo_tup), upd_ne (ne_of_none z free)]
      exact z
    frzs := fun b o v z => by
      rw [upd_ne (at_ne e z exo_frz), upd_ne (ne_of_none z free)]
      exact z
    tbls := fun b ps z => ⟨#[], by
      rw [upd_ne (at_ne e z exo_tbl), upd_ne (ne_of_none z free), z]
      simp⟩ }
  refine h dx _ free dne (I.un (t' := tk') U fun b o z => ?_)
  by_cases hb : b = a
  · subst hb
    rw [upd_same] at z
    cases z
    exact exo_ok hx
  · rw [upd_ne hb] at z
    by_cases hd : b = dx
    · subst hd
      rw [upd_same] at z
      cases z
      exact exd_ok hn (relO_put (fs := []) ry fun g => True.intro)
    · rw [upd_ne hd] at z
      refine (I.hok b o z).stay (fun c v hc w => k c v ?_ w) (fun c hc => ?_) (fun c xs hc => ?_)
      · rcases hc with hc | hc
        · rw [hc]
          exact hb
        · exact at_ne e hc exo_own
      · rw [upd_ne (at_ne e hc exo_own), upd_ne (ne_of_none hc free)]
        exact hc
      · rw [upd_ne (at_ne e hc exo_tup), upd_ne (ne_of_none hc free)]
        exact hc
end
/-- the base's __init__(self, ..) -/
def tIni (K : PySem.W.Frag) (fam : Fam) (ta : TA) : TE := fun σ H Q => ta σ H fun vs H1 => ∃ (a C : Addr) (ws : List V), vs = .ref a :: ws ∧ ws.length ≤ 1000 ∧ OexG K fam C ∧ H1 a = some (exo a C none) ∧ Q .non H1
/-- self.f = e, the first one -/
def tFst (K : PySem.W.Frag) (fam : Fam) (f : Str) (to te : TE) : TS := fun D σ H => te σ H fun y H1 => to σ H1 fun x H2 => ∃ a C : Addr, x = .ref a ∧ OexG K fam C ∧ PySem.W.findIn K (.ref C) f = some none ∧ H2 a = some (exo a C none) ∧
  ∀ dx, H2 dx = none → dx ≠ a → D.nx σ (upd (upd H2 dx (exd dx [(f, y)])) a (exo a C (some dx)))
section
variable {X : Cx} {e o : Expr} {es : List Expr} {ta : TA} {to te : TE} {f : Str} {p p' p1 p2 pos : Pos} {fam : Fam}
theorem arg_ini {pins : List (Addr × Obj)} {σ : L2.St} {H : Hp} {s : Shared} {Q : VK} (F : FamOk fam) (arg : PA X (e :: es) ta) (I : Inv X pins σ H s) (h : tIni X.K fam ta σ H Q) (one : starEach (e :: es) X.env = (false, eval e X.env) :: starEach es X.env) (nos : (backTo pos (starEach es X.env)).any (·.1) = false) :
    wpAny (model X.prog X.w) X.A (callWith pos (Value.builtin fam.iId) [] (backTo pos (starEach (e :: es) X.env)) []) (EP X pins σ Q) X.xe s :=
  PyProof.Rows.callWith_method1 (thn (arg.run pos pins _ σ H _ I h) fun us s1 z => by
    obtain ⟨vs, H1, I1, r1, a, C, ws, ev, hl, T1, ea, q⟩ := z
    subst ev
    cases r1 with
    | @cons _ u0 _ ur ra rw' =>
      cases (show u0 = Value.ref a from ra)
      have few : ur.length ≤ sizeLine := by rw [← Paired.length rw', sizeLine_eq]; omega
      exact init_in F T1 I1 ea few fun s' J => ⟨V.non, H1, J, rfl, q⟩) one nos
theorem pe_iniOwn {pl : Sem Bool} {x : Str} {B : Addr} (F : FamOk fam) (own : fam.iId = "ValueError.__init__") (vis : Gl X x) (T : OwnBase X.K X.mg x B) (arg : PA X (e :: es) ta)
    (run : eval (.Call (.Attribute (.Name x p1) "__init__" p2) (e :: es) [] pos) X.env = (do
      let cv ← eval (.Name x p1) X.env
      standAt p2.atName
      let (g, hd) ← holding [cv] (getMethod cv "__init__" pl)
      callWith pos g hd (backTo pos (starEach (e :: es) X.env)) (backToKw pos (keywordEach [] X.env))) := by rfl)
    (dbg : (x == ("__debug__" : Str)) = false := by decide) (one : starEach (e :: es) X.env = (false, eval e X.env) :: starEach es X.env := by rfl)
    (nos : (backTo pos (starEach es X.env)).any (·.1) = false := by rfl) : PE X (.Call (.Attribute (.Name x p1) "__init__" p2) (e :: es) [] pos) (tIni X.K fam ta) := ⟨fun pins s σ H Q I h => by
  obtain ⟨m, fr⟩ := I.fr
  have kin := I.ok.mod.kin
  refine PySem.W.methodCall_KW (ld_glob I vis T.nam (PySem.W.method_of_cls fr kin T.gta (PySem.W.cls_val fr kin T.typ T.rds T.ini (by decide +kernel) ?_)) dbg) run
  have z := arg_ini (pos := pos) F arg (I.tok (s.toks + 1)) h one nos
  rw [own] at z
  exact z⟩
theorem pe_iniBlt {pl : Sem Bool} {x : Str} (F : FamOk fam) (vis : Gl X x) (hm : X.mg x = none) (hv : bootBuiltins x = some (.type fam.iB)) (ty : typeOf (.type fam.iB) = pure (.type "type")) (stub : Manifest.isStub fam.iB = false)
    (fi : PySem.W.findCls X.K (.type fam.iB) (.type "type") "__init__" = some (.val (.builtin fam.iId))) (hand : PySem.W.handedIn (.builtin fam.iId) = true) (arg : PA X (e :: es) ta)
    (run : eval (.Call (.Attribute (.Name x p1) "__init__" p2) (e :: es) [] pos) X.env = (do
      let cv ← eval (.Name x p1) X.env
      standAt p2.atName
      let (g, hd) ← holding [cv] (getMethod cv "__init__" pl)
      callWith pos g hd (backTo pos (starEach (e :: es) X.env)) (backToKw pos (keywordEach [] X.env))) := by rfl)
    (nam : x ≠ "__name__" := by decide) (dbg : (x == ("__debug__" : Str)) = false := by decide) (one : starEach (e :: es) X.env = (false, eval e X.env) :: starEach es X.env := by rfl)
    (nos : (backTo pos (starEach es X.env)).any (·.1) = false := by rfl) : PE X (.Call (.Attribute (.Name x p1) "__init__" p2) (e :: es) [] pos) (tIni X.K fam ta) := ⟨fun pins s σ H Q I h => by
  obtain ⟨m, fr⟩ := I.fr
  refine PySem.W.methodCall_KW (ld_blt I vis hm hv (PySem.W.method_type fr I.ok.mod.kin ty stub fi hand ?_) nam dbg) run
  exact arg_ini F arg (I.tok (s.toks + 1)) h one nos⟩
theorem ps_fst (F : FamOk fam) (ho : PE X o to) (he : PE X e te) (hs : swapsWith e (some (.Attribute o f p')) pos.line X.env = pure false := by rfl) : PS X (.Assign [.Attribute o f p'] e pos) (tFst X.K fam f to te) := ⟨fun pins s σ H D I h =>
  plainObj_wpAny_Assign_Attribute (thn (he.run pins s σ H _ I h) fun v s1 ⟨y, H1, I1, r1, q1⟩ => thn (ho.run pins s1 σ H1 _ I1 q1) fun u s2 z => by
    obtain ⟨x, H2, I2, r2, a, C, ex, T, no, ea, q⟩ := z
    subst ex
    cases (show u = Value.ref a from r2)
    exact field_in F T I2 ea no r1 fun dx s' n ne J => ⟨σ, _, J, q dx n ne⟩) hs⟩
end
/-! ### BadCell, BadFunction, TooMany -/
abbrev sBadCell : Stmt := inClass (topS 4) 0
theorem scBadCell : FnScope ["self", "index"] ["self", "index"] (defScope sBadCell) := ⟨rfl, rfl, rfl, by decide +kernel, rfl, by decide +kernel, by decide +kernel⟩
abbrev sBadFunction : Stmt := inClass (topS 7) 0
theorem scBadFunction : FnScope ["self", "index"] ["self", "index"] (defScope sBadFunction) := ⟨rfl, rfl, rfl, by decide +kernel, rfl, by decide +kernel, by decide +kernel⟩
abbrev sTooMany : Stmt := inClass (topS 12) 0
theorem scTooMany : FnScope ["self", "limit"] ["self", "limit"] (defScope sTooMany) := ⟨rfl, rfl, rfl, by decide +kernel, rfl, by decide +kernel, by decide +kernel⟩
def famO : Fam := ⟨"OverflowError", "OverflowError.__new__", "OverflowError", "OverflowError.__init__", [.type "OverflowError", .type "ArithmeticError", .type "Exception", .type "BaseException", .type "object"]⟩
theorem ini_of {B n i : String} {bm : List Value} (F : ExcBaseFacts B n i bm) : ExG.Ini B i := ⟨F.init, F.initEntry, F.initKind, F.initSplit, F.initRow, F.noStar⟩
theorem famO_ok : FamOk famO where
  new := ⟨_, _, PySem.F.excBase_OverflowError⟩
  cha := ⟨by decide +kernel, by decide +kernel, by decide +kernel⟩
  ini := ini_of PySem.F.excBase_OverflowError
  has := by decide +kernel
  pas := fun self => by kernel_rfl
  obj := by decide +kernel
/-- what is written of a class of errors of such a family -/
structure ErrO (K : PySem.W.Frag) (mg : Str → Option Value) (fam : Fam) (x : Str) (f : Str) (C fI : Addr) : Prop where
  oex : OexG K fam C
  nof : PySem.W.findIn K (.ref C) f = some none
  ini : PySem.W.findIn K (.ref C) "__init__" = some (some (.ref fI))
  typ : PySem.W.typeIn K (.ref fI) = some (.type "function")
  nam : mg x = some (.ref C)
  exC : PySem.W.subIn K (.ref C) (.type "BaseException") = some true
  tyC : PySem.W.typeIn K (.ref C) = some (.type "type")
section
variable {X : Cx} {CX : CXT} {x f : Str} {C fI : Addr} {fam : Fam} {k : Nat} {fd : FuncData} {ps : List Str} {sp : Sp} {p pos : Pos} {e : Expr} {es : List Expr} {ta : TA}
/-- raise C(e), of any such family -/
theorem pmk_fam (F : FamOk fam) (T : ErrO X.K X.mg fam x f C fI) (G : FnOk X.prog X.w X.K X.mg X.base CX k fI fd ps sp) (hr : Room (k + 1) X.A) (bind : Binds X.K fd ps []) (way : Passes CX X (fun _ _ _ => False)) (vis : Gl X x) (arg : PA X (e :: es) ta)
    (dbg : (x == ("__debug__" : Str)) = false := by decide) (one : starEach (e :: es) X.env = (false, eval e X.env) :: starEach es X.env := by rfl) (nos : (backTo pos (starEach es X.env)).any (·.1) = false := by rfl) : PMk X (.Call (.Name x p) (e :: es) [] pos) (tMkO C sp [] ta) := by
  intro pins s σ H Q I h
  obtain ⟨nm, qn, N, bs, sn, sub, ab, col, dd, k0, k1, k2, k3, k5, hC⟩ := T.oex.cls
  obtain ⟨nI, bmB, FB⟩ := F.new
  refine wpAny_Call_Name_kw (ld_glob I vis T.nam (PySem.W.callWith_K (h₀ := X.base) I.ok.mod.kin T.oex.kC (thn (arg.run pos pins s σ H _ I h) fun us s1 z => ?_) one nos) dbg)
  obtain ⟨vs, H1, I1, r1, few0, q1⟩ := z
  refine ⟨I1.kIn, ?_⟩
  show wpAny _ _ (call (.ref C) us) _ _ _
  obtain ⟨hp, g, dr, tk, os⟩ := s1
  have up : hp.objs.size ≤ hp.objs.size + 1 := Nat.le_succ _
  have free : H1 (hp.objs.size + 1) = none := I1.hok.fresh up
  have pr := q1 (hp.objs.size + 1) free
  rw [List.append_nil] at pr
  have keep : ∀ b o, hp.get? b = some o → ((hp.push (PySem.W.kdv_tup us)).push (PySem.HandSPX.excO C hp.objs.size)).get? b = some o := fun b o e => Heap.get?_push_of_some _ (Heap.get?_push_of_some _ e)
  have here : ((hp.push (PySem.W.kdv_tup us)).push (PySem.HandSPX.excO C hp.objs.size)).get? (hp.objs.size + 1) = some (PySem.HandSPX.excO C hp.objs.size) := by heap_get
  have J : Inv X pins σ (upd H1 (hp.objs.size + 1) (exo (hp.objs.size + 1) C none)) ⟨(hp.push (PySem.W.kdv_tup us)).push (PySem.HandSPX.excO C hp.objs.size), g, dr, tk, os⟩ :=
    I1.laid (t' := tk) (a := hp.objs.size + 1) (o := exo (hp.objs.size + 1) C none) (h' := (hp.push (PySem.W.kdv_tup us)).push (PySem.HandSPX.excO C hp.objs.size)) keep up (exo_ok here)
  have rs : Vals (V.ref (hp.objs.size + 1) :: vs) (Value.ref (hp.objs.size + 1) :: us) := .cons rfl r1
  have many : (Value.ref (hp.objs.size + 1) :: us).length = ps.length := rs.length.symm.trans (G.len _ _ _ _ pr)
  have few : us.length ≤ sizeLine := by
    have l := Paired.length r1
    rw [← l, sizeLine_eq]
    omega
  have bs := bind ⟨_, g, dr, tk, os⟩ (Value.ref (hp.objs.size + 1) :: us) J.kIn (by rw [List.append_nil]; exact many)
  rw [List.append_nil] at bs
  refine wpAny_call (ExG.call_at FB F.cha (I1.kIn _ _ hC) (PySem.W.looks_findIn I1.kIn T.ini) (fun self => PySem.W.bind_fn I1.kIn self T.typ) few
    (codeAny_mono (G.run _ X.stack _ _ ⟨Value.ref (hp.objs.size + 1) :: us, []⟩ (Value.ref (hp.objs.size + 1) :: us) _ _ (fun _ _ _ => False) (hr.make C us []) (J.env0.make C us []) bs rs pr) fun r s' z => ?_))
  cases r with
  | error er => exact way pins σ _ _ er s' J z
  | ok fl =>
    cases fl with
    | ret u =>
      obtain ⟨v, H2, os2, bare2, un2, hok2, rv, ev, d, fs, ea, ed, hd1, q2⟩ := z
      subst ev
      obtain ⟨h2, g2, d2, t2, os'⟩ := s'
      exact ⟨rv, mk_end (raises_own T.exC T.tyC) I1 up keep un2 hok2 os2 bare2 ea ed hd1 q2⟩
    | next => exact z.elim
    | brk => exact z.elim
    | cont => exact z.elim
end
section
variable {P : Program} {w : World} {K : PySem.W.Frag} {mg : Str → Option Value} {base : Heap}
theorem ok_badCell {C f B : Addr} {fd : FuncData} (F : Fun K "__init__" "BadCell.__init__" sBadCell f fd) (TB : OwnBase K mg "StoreError" B) (oex : OexC K C) (nof : PySem.W.findIn K (.ref C) "index" = some none) :
    FnOk P w K mg base CX0 1 f fd ["self", "index"] (spErr C "index") := by
  refine F.ok scBadCell (fun vs H Q E h => ?_) (fun cdv A outer s H vs Q E hr h => ?_)
  · obtain ⟨a, v, rfl, _⟩ := h
    rfl
  · obtain ⟨a, v, rfl, e, q⟩ := h
    refine ⟨_, pss_cons (ps_expr (pe_baseI (by rfl) TB (pa_cons (pv 0) (pa_cons pe_str pa_nil)))) (pss_one (ps_ost (pv 0) (pv 1))), ?_⟩
    refine ⟨.ref a, rfl, a, C, _, rfl, by show (1 : Nat) ≤ 1000; decide, oex, e, ?_⟩
    exact ⟨v, rfl, .ref a, rfl, a, C, rfl, oex, nof, .inl ⟨e, fun d nd ne => q d nd ne⟩⟩
theorem ok_badFunc {C f B : Addr} {fd : FuncData} (F : Fun K "__init__" "BadFunction.__init__" sBadFunction f fd) (TB : OwnBase K mg "StoreError" B) (oex : OexC K C) (nof : PySem.W.findIn K (.ref C) "index" = some none) :
    FnOk P w K mg base CX0 1 f fd ["self", "index"] (spErr C "index") := by
  refine F.ok scBadFunction (fun vs H Q E h => ?_) (fun cdv A outer s H vs Q E hr h => ?_)
  · obtain ⟨a, v, rfl, _⟩ := h
    rfl
  · obtain ⟨a, v, rfl, e, q⟩ := h
    refine ⟨_, pss_cons (ps_expr (pe_baseI (by rfl) TB (pa_cons (pv 0) (pa_cons pe_str pa_nil)))) (pss_one (ps_ost (pv 0) (pv 1))), ?_⟩
    refine ⟨.ref a, rfl, a, C, _, rfl, by show (1 : Nat) ≤ 1000; decide, oex, e, ?_⟩
    exact ⟨v, rfl, .ref a, rfl, a, C, rfl, oex, nof, .inl ⟨e, fun d nd ne => q d nd ne⟩⟩
theorem ok_TooMany {C g : Addr} {fd : FuncData} (F : Fun K "__init__" "TooMany.__init__" sTooMany g fd) (nb : mg "OverflowError" = none) (fi : PySem.W.findCls K (.type "OverflowError") (.type "type") "__init__" = some (.val (.builtin "OverflowError.__init__"))) (oex : OexG K famO C) (no : PySem.W.findIn K (.ref C) "limit" = some none) : FnOk P w K mg base CX0 1 g fd ["self", "limit"] (spErr C "limit") :=
  F.ok scTooMany (fun vs H Q E ⟨a, v, e, _⟩ => by subst e; rfl) (fun cdv A outer s H vs Q E hr ⟨a, v, ev, e, q⟩ => by
    subst ev
    exact ⟨_, pss_cons (ps_expr (pe_iniBlt famO_ok (by rfl) nb (by decide +kernel) (by kernel_rfl) (by decide +kernel) fi (by decide +kernel) (pa_cons (pv 0) (pa_cons pe_str pa_nil)))) (pss_one (ps_fst famO_ok (pv 0) (pv 1))),
      .ref a, rfl, a, C, _, rfl, (by show (1 : Nat) ≤ 1000; decide), oex, e, v, rfl, .ref a, rfl, a, C, rfl, oex, no, e, fun d nd ne => q d nd ne⟩)
end
/-! ### which functions fit -/
def has (kvs : List (Key × V)) (z : Str) : Bool := (valV kvs (.inr z : Key)).isSome
def callFits (avs : List (Key × V)) : PyData → Bool
  | .tuple [_, .str x, .tuple ts] => decide (valV avs (.inr x : Key) = some (.int (ts.length : Nat)))
  | _ => false
def partFits (kvs avs : List (Key × V)) (d : PyData) : Bool := (namesD "cell" d).all (has kvs) && (withD "call" d).all (callFits avs)
theorem all_names {ys l : List Str} (p : Str → Bool) (h : ys.Perm (onceS l)) : ys.all p = l.all p := by
  rw [Bool.eq_iff_iff, List.all_eq_true, List.all_eq_true]
  exact ⟨fun q x hx => q x (h.mem_iff.mpr (onceS_mem.mpr hx)), fun q x hx => q x (onceS_mem.mp (h.mem_iff.mp hx))⟩
theorem w_call3 {n : Int} {p : PyData} (hf : hasForm n p = true) (h : isW "call" p = true) : ∃ x ts, p = .tuple [.str "call", .str x, .tuple ts] := by
  obtain ⟨rest, rfl, hv⟩ := isW_head h
  have hf1 : formOf n "call" rest = true := by
    have e : hasForm n (.tuple (.str "call" :: rest)) = (isValue (.tuple (.str "call" :: rest)) || formOf n "call" rest) := rfl
    rw [e, hv] at hf
    exact hf
  have e1 : formOf n "call" rest = on2 (fun x y => isName x && callForm y) rest := (if_neg (by decide +kernel)).trans ((if_neg (by decide +kernel)).trans (if_pos rfl))
  rw [e1] at hf1
  match rest, hf1 with
  | [d, e], hf1 =>
    have h2 := Bool.and_eq_true_iff.mp (show (isName d && callForm e) = true from hf1)
    obtain ⟨x, rfl⟩ := isName_str h2.1
    match e, h2.2 with
    | .tuple ts, _ => exact ⟨x, ts, rfl⟩
/-- a dict whose values are all ints, or all texts -/
def IntsAt (avs : List (Key × V)) : Prop := ∀ z u, valV avs (.inr z : Key) = some u → ∃ i : Int, u = .int i
def StrsAt (kvs : List (Key × V)) : Prop := ∀ z u, valV kvs (.inr z : Key) = some u → ∃ k : Str, u = .str k
abbrev sPF : Stmt := topS 64
theorem scPF : FnScope ["part", "kinds", "ahead", "cell", "_", "name", "terms"] ["part", "kinds", "ahead"] (defScope sPF) := ⟨rfl, rfl, rfl, by decide +kernel, rfl, by decide +kernel, by decide +kernel⟩
def spPF (K : PySem.W.Frag) : Sp := fun vs H Q _ => ∃ (v : V) (pk pa : Addr) (d : PyData) (n : Int) (kvs avs : List (Key × V)), vs = [v, .ref pk, .ref pa] ∧ Dp K H v d ∧ szD d = true ∧ isTerm n d = true ∧ H pk = some (.dK kvs) ∧ H pa = some (.dK avs) ∧ IntsAt avs ∧
  ∀ H', Same H H' → Q (.bl (partFits kvs avs d)) H'
section
variable {P : Program} {w : World} {K : PySem.W.Frag} {mg : Str → Option Value} {base : Heap}
theorem ok_pf {f fC fW : Addr} {fd dC dW : FuncData} (F : Fun K "_part_fits" "_part_fits" sPF f fd) (M : Blt mg) (GC : FnOk P w K mg base CX0 7 fC dC ["term"] (spNames K "cell")) (kC : PySem.W.keepIn K (.ref fC) = true) (bC : Binds K dC ["term"] []) (gC : mg "cells_in" = some (.ref fC))
    (GW : FnOk P w K mg base CX0 6 fW dW ["word", "term"] (spWith K)) (kW : PySem.W.keepIn K (.ref fW) = true) (bW : Binds K dW ["word", "term"] []) (gW : mg "parts_with" = some (.ref fW)) : FnOk P w K mg base CX0 8 f fd ["part", "kinds", "ahead"] (spPF K) := by
  refine F.ok scPF (fun vs H Q E h => ?_) (fun cdv A outer s H vs Q E hr h => ?_)
  · obtain ⟨v, pk, pa, d, n, kvs, avs, rfl, _⟩ := h
    rfl
  · obtain ⟨v, pk, pa, d, n, kvs, avs, rfl, hv, hz, ht, ek, ea, hA, q⟩ := h
    have hr6 : Room 6 (A.deeper (envOfC "_part_fits" (defScope sPF) s.heap.objs.size f cdv)) := hr.mono (by decide)
    refine ⟨_, pss_cons (ps_for PassesOwn.never rfl (pi_list (pe_call GC hr (by rfl) gC kC bC .nil pass0 (pa_cons (pv 0) pa_nil))) (pg_name (i := 3) scPF.nd rfl (.inl rfl))
        (pss_one (ps_if (pt_cmp (pc_dnotin (hu_of hr) (pv 3) (pv 1))) (pss_one (ps_ret pe_bl)) pss_nil)))
      (pss_cons (ps_for PassesOwn.never rfl (pi_list (pe_call GW hr6 (by rfl) gW kW bW .nil pass0 (pa_cons pe_str (pa_cons (pv 0) pa_nil)))) (pg_tup (by rfl) (pgs_cons (pg_name (i := 4) scPF.nd rfl (.inl rfl)) (pgs_cons (pg_name (i := 5) scPF.nd rfl (.inl rfl)) (pgs_cons (pg_name (i := 6) scPF.nd rfl (.inl rfl)) pgs_nil))))
        (pss_one (ps_if (PW.pt (pw_or (pt_cmp (pc_dnotin (hu_of hr) (pv 5) (pv 2)))
          (pw_or1 (pt_cmpR op_ne (pe_dget (hu_of hr) (pv 2) (pv 5) (fun _ _ => rfl)) (pe_callB call_len_seq (by rfl) M.len PySem.boot_len (pa_cons (pv 6) pa_nil)) (nomark _))))) (pss_one (ps_ret pe_bl)) pss_nil)))
      (pss_one (ps_ret pe_bl))), ?_⟩
    refine ⟨v, rfl, v, d, n, rfl, hv, hz, ht, fun ys p H1 s1 ep hp so => ?_⟩
    have eall := all_names (has kvs) hp
    refine ⟨p, rfl, ⟨_, .inl (.inl ep)⟩, ?_⟩
    refine for_list (K := K) (a := p) (xs := ys.map V.str) (fun j σ H' => ∃ z, σ = [some v, some (.ref pk), some (.ref pa), z, none, none, none] ∧ Same H1 H' ∧ (ys.take j).all (has kvs) = true) ⟨_, rfl, Same.refl _, rfl⟩ (fun j σ H2 _ pr => ?_) (fun j x σ H2 hx pr => ?_) (fun σ H2 pr => ?_)
    · obtain ⟨_, _, s2, _⟩ := pr
      exact .inl (.inl (s2 _ _ ep))
    · obtain ⟨z, rfl, s2, al⟩ := pr
      rw [List.getElem?_map] at hx
      obtain ⟨y, hy, rfl⟩ := Option.map_eq_some_iff.mp hx
      have t2 := s1.trans s2
      refine ⟨.str y, rfl, .ref pk, rfl, pk, _, rfl, .inl ⟨kvs, .inr y, .inl (t2 _ _ ek), rfl, rfl⟩, _, rfl, ?_⟩
      show if (!(valV kvs (.inr y : Key)).isSome) = true then _ else _
      cases hh : has kvs y with
      | false =>
        rw [show (valV kvs (.inr y : Key)).isSome = false from hh]
        refine iteT ?_
        have no : partFits kvs avs d = false := by
          unfold partFits
          rw [← eall, Bool.and_eq_false_iff]
          refine .inl (eq_false_of_ne_true fun q => ?_)
          have := List.all_eq_true.mp q y (List.mem_of_getElem? hy)
          rw [hh] at this
          cases this
        have q2 := q H2 t2
        rw [no] at q2
        exact q2
      | true =>
        rw [show (valV kvs (.inr y : Key)).isSome = true from hh]
        refine iteF ⟨_, rfl, s2, ?_⟩
        rw [take_snoc hy, List.all_append, al]
        show (true && (has kvs y && true)) = true
        rw [hh]
        rfl
    · obtain ⟨z, rfl, s2, al⟩ := pr
      rw [List.length_map, List.take_length] at al
      rw [al] at eall
      have t2 := s1.trans s2
      refine ⟨v, rfl, "call", v, d, n, rfl, dp_same t2 hv, hz, ht, fun a xs H3 s3 eb hxs => ?_⟩
      have t3 := t2.trans s3
      refine ⟨a, rfl, ⟨_, .inl (.inl eb)⟩, ?_⟩
      refine for_list (K := K) (a := a) (xs := xs) (fun j σ H' => ∃ z1 z2 z3, σ = [some v, some (.ref pk), some (.ref pa), z, z1, z2, z3] ∧ Same H3 H' ∧ ((withD "call" d).take j).all (callFits avs) = true) ⟨_, _, _, rfl, Same.refl _, rfl⟩ (fun j σ H4 _ pr => ?_) (fun j x σ H4 hx pr => ?_) (fun σ H4 pr => ?_)
      · obtain ⟨_, _, _, _, s4, _⟩ := pr
        exact .inl (.inl (s4 _ _ eb))
      · obtain ⟨z1, z2, z3, rfl, s4, al2⟩ := pr
        obtain ⟨di, hd, hxi⟩ := dpA_at hxs hx
        have hmem := List.mem_filter.mp (List.mem_of_getElem? hd)
        obtain ⟨x', ts, rfl⟩ := w_call3 (List.all_eq_true.mp (parts_form ht) _ hmem.1) hmem.2
        have t4 := t3.trans s4
        cases hxi with
        | @tup b zs _ hs ha =>
        cases ha with
        | @cons x0 xr _ _ g0 g1 =>
        cases g1 with
        | @cons x1 xr1 _ _ g2 g3 =>
        cases g3 with
        | @cons x2 xr2 _ _ g4 g5 =>
        cases g5
        cases g2
        cases g4 with
        | @tup c ws _ hs2 ha2 =>
        have eA := t4 _ _ ea
        refine ⟨b, _, rfl, same_sqT (s3.trans s4) hs, rfl, x0, _, rfl, _, _, rfl, _, _, rfl, rfl, ?_⟩
        have no : callFits avs (.tuple [.str "call", .str x', .tuple ts]) = false → Q (.bl false) H4 := fun e => by
          have no : partFits kvs avs d = false := by
            unfold partFits
            rw [Bool.and_eq_false_iff]
            refine .inr (eq_false_of_ne_true fun q => ?_)
            have := List.all_eq_true.mp q _ (List.mem_of_getElem? hd)
            rw [e] at this
            cases this
          have q2 := q H4 t4
          rw [no] at q2
          exact q2
        refine ⟨.str x', rfl, .ref pa, rfl, pa, _, rfl, .inl ⟨avs, .inr x', .inl eA, rfl, rfl⟩, _, rfl, ?_⟩
        cases hval : valV avs (.inr x' : Key) with
        | none =>
          refine iteT (iteT (no ?_))
          show decide (valV avs (.inr x' : Key) = _) = false
          rw [hval]
          rfl
        | some u =>
          obtain ⟨i, rfl⟩ := hA _ _ hval
          refine iteF ⟨.ref pa, rfl, .str x', rfl, pa, .int i, rfl, .inl ⟨avs, .inr x', .inl eA, rfl, hval.symm⟩, .ref c, rfl, c, ws, rfl, .inr (same_sqT (s3.trans s4) hs2), rfl, _, rfl, ?_⟩
          have el := dpA_len ha2
          by_cases e : i = (ts.length : Nat)
          · rw [decide_eq_true (by rw [e, el] : V.int i = V.int (ws.length : Nat))]
            refine iteF ⟨_, _, _, rfl, s4, ?_⟩
            rw [take_snoc hd, List.all_append, al2]
            show (true && (decide (valV avs (.inr x' : Key) = some (.int (ts.length : Nat))) && true)) = true
            rw [hval, e, decide_eq_true rfl]
            rfl
          · rw [decide_eq_false (fun z => e (by have := V.int.inj z; omega) : ¬ V.int i = V.int (ws.length : Nat))]
            refine iteT (no ?_)
            show decide (valV avs (.inr x' : Key) = some (.int (ts.length : Nat))) = false
            rw [hval]
            exact decide_eq_false fun z => e (V.int.inj (Option.some.inj z))
      · obtain ⟨z1, z2, z3, rfl, s4, al2⟩ := pr
        rw [dpA_len hxs, List.take_length] at al2
        have q2 := q H4 (t3.trans s4)
        have yes : partFits kvs avs d = true := by
          unfold partFits
          rw [← eall, al2]
          rfl
        rw [yes] at q2
        exact q2
end
def writeOk (kvs : List (Key × V)) : PyData → Bool
  | .tuple [.str z, _] => decide (valV kvs (.inr z : Key) = some (.str "table"))
  | _ => false
def fitsB (kvs avs : List (Key × V)) (F : FD) : Bool := !(has kvs F.nm || has avs F.nm) && F.ws.all (writeOk kvs) && (partsF F).all (partFits kvs avs)
theorem bad_at {n : Int} : ∀ {ws : List PyData} {j : Nat} {z t : PyData}, badTerm n ws = none → ws[j]? = some (.tuple [z, t]) → isTerm n t = true
  | [], _, _, _, _, e => by simp at e
  | d :: r, j, z, t, h, e => by
    cases j with
    | zero =>
      cases e
      unfold badTerm at h
      split at h
      · next q => exact q
      · cases h
    | succ j =>
      refine bad_at (ws := r) (j := j) ?_ e
      unfold badTerm at h
      split at h
      · next q => cases q
      · next q =>
        cases q
        split at h
        · exact h
        · cases h
      · next q =>
        cases q
        exact h
theorem parts_ok {F : FD} (k : FdOk F) {i : Nat} {d : PyData} (e : (partsF F)[i]? = some d) : isTerm F.ar d = true ∧ szD d = true := by
  unfold partsF at e
  cases i with
  | zero =>
    cases e
    exact ⟨k.res, k.zr⟩
  | succ i =>
    have e1 : (F.ws.map sndD)[i]? = some d := e
    rw [List.getElem?_map] at e1
    obtain ⟨c, hc, rfl⟩ := Option.map_eq_some_iff.mp e1
    obtain ⟨z, t, rfl⟩ := writes_at k.ws hc
    exact ⟨bad_at k.bt hc, szD_item (i := 1) (szD_seqT (szD_item k.zw hc)) rfl⟩
theorem partsF_len {F : FD} (k : FdOk F) : (partsF F).length ≤ 4 := by
  have := k.few
  unfold partsF
  rw [List.length_cons, List.length_map]
  omega
abbrev sFits : Stmt := topS 63
theorem scFits : FnScope ["function", "kinds", "ahead", "cell", "_", "part"] ["function", "kinds", "ahead"] (defScope sFits) := ⟨rfl, rfl, rfl, by decide +kernel, rfl, by decide +kernel, by decide +kernel⟩
def spFits (K : PySem.W.Frag) (CF : Addr) : Sp := fun vs H Q _ => ∃ (a pk pa : Addr) (F : FD) (kvs avs : List (Key × V)), vs = [.ref a, .ref pk, .ref pa] ∧ FunOf K H CF a F ∧ H pk = some (.dK kvs) ∧ H pa = some (.dK avs) ∧ IntsAt avs ∧ StrsAt kvs ∧
  ∀ H', Same H H' → Q (.bl (fitsB kvs avs F)) H'
section
variable {P : Program} {w : World} {K : PySem.W.Frag} {mg : Str → Option Value} {base : Heap}
theorem ok_fits {CF f fP fM : Addr} {fd dP dM : FuncData} (F0 : Fun K "_fits" "_fits" sFits f fd) (M : Blt mg) (C : FldC K CF) (GP : FnOk P w K mg base CX0 8 fP dP ["part", "kinds", "ahead"] (spPF K)) (kP : PySem.W.keepIn K (.ref fP) = true) (bP : Binds K dP ["part", "kinds", "ahead"] []) (gP : mg "_part_fits" = some (.ref fP))
    (GM : FnOk P w K mg base CX0 1 fM dM ["self"] (spFParts K CF)) (mM : Meth K CF "parts" fM) (bM : Binds K dM ["self"] []) : FnOk P w K mg base CX0 9 f fd ["function", "kinds", "ahead"] (spFits K CF) := by
  refine F0.ok scFits (fun vs H Q E h => ?_) (fun cdv A outer s H vs Q E hr h => ?_)
  · obtain ⟨a, pk, pa, F, kvs, avs, rfl, _⟩ := h
    rfl
  · obtain ⟨a, pk, pa, F, kvs, avs, rfl, hF, ek, ea, hA, hK, q⟩ := h
    obtain ⟨ok, dx, fs, vr, wa, eF, h1, h2, h3, hr3, h5, hw, h7⟩ := id hF
    have hr1 : Room 1 (A.deeper (envOfC "_fits" (defScope sFits) s.heap.objs.size f cdv)) := hr.mono (by decide)
    refine ⟨_, pss_cons (ps_if (PW.pt (pw_or (pt_cmp (pc_din (hu_of hr) (pe_fld (pv 0) (by rfl)) (pv 1))) (pw_or1 (pt_cmp (pc_din (hu_of hr) (pe_fld (pv 0) (by rfl)) (pv 2)))))) (pss_one (ps_ret pe_bl)) pss_nil)
      (pss_cons (ps_for PassesOwn.never rfl (pi_tup (pe_fld (pv 0) (by rfl))) (pg_tup (by rfl) (pgs_cons (pg_name (i := 3) scFits.nd rfl (.inl rfl)) (pgs_cons (pg_name (i := 4) scFits.nd rfl (.inl rfl)) pgs_nil)))
        (pss_one (ps_if (PW.pt (pw_or (pt_cmp (pc_dnotin (hu_of hr) (pv 3) (pv 1))) (pw_or1 (pt_cmpR op_ne (pe_dget (hu_of hr) (pv 1) (pv 3) (fun _ _ => rfl)) pe_str (nomark _))))) (pss_one (ps_ret pe_bl)) pss_nil)))
      (pss_one (ps_ret (pe_callB (cr_all rfl) (by rfl) M.all (by decide +kernel) (pa_cons
        (pe_lc (own := [("part", 5)]) (g := gName 5) (wi := iList K (tMeth CF "parts" (spFParts K CF) [] E0 (tVar 0) tNil)) (tt := tYes) (te := tCall (spPF K) [] E0 (tCons (tVar 5) (tCons (tVar 1) (tCons (tVar 2) tNil)))) (by rfl) scFits.nd (pi_list (pe_meth0 (pv 0) C.cl mM GM hr1 bM .nil pass0))
          (blkOk_by (own := [("part", 5)]) (N := ["function", "kinds", "ahead", "cell", "_", "part"]) (sc := defScope sFits) (by decide +kernel)) (fun _ _ _ _ _ => pg_name (i := 5) scFits.nd rfl (Or.inl rfl)) (fun _ _ _ _ _ => pts_nil) (fun _ _ _ _ _ => pe_call GP hr (by rfl) gP kP bP .nil pass0 (pa_cons (pv 5) (pa_cons (pv 1) (pa_cons (pv 2) pa_nil))))) pa_nil))))), ?_⟩
    have no : ∀ H', Same H H' → fitsB kvs avs F = false → Q (.bl false) H' := fun H' s e => by
      have q2 := q H' s
      rw [e] at q2
      exact q2
    refine ⟨.ref a, rfl, a, CF, dx, fs, _, rfl, eF, C.cl, C.n1, h1, .ref pk, rfl, pk, _, rfl, .inl ⟨kvs, .inr F.nm, .inl ek, rfl, rfl⟩, _, rfl, ?_⟩
    cases hk : has kvs F.nm with
    | true =>
      rw [show (valV kvs (.inr F.nm : Key)).isSome = true from hk]
      refine iteT (iteT (no H (Same.refl H) ?_))
      unfold fitsB
      rw [hk]
      rfl
    | false =>
    rw [show (valV kvs (.inr F.nm : Key)).isSome = false from hk]
    refine iteF ⟨.ref a, rfl, a, CF, dx, fs, _, rfl, eF, C.cl, C.n1, h1, .ref pa, rfl, pa, _, rfl, .inl ⟨avs, .inr F.nm, .inl ea, rfl, rfl⟩, _, rfl, ?_⟩
    cases ha : has avs F.nm with
    | true =>
      rw [show (valV avs (.inr F.nm : Key)).isSome = true from ha]
      refine iteT (no H (Same.refl H) ?_)
      unfold fitsB
      rw [hk, ha]
      rfl
    | false =>
    rw [show (valV avs (.inr F.nm : Key)).isSome = false from ha]
    refine iteF ?_
    cases hw with
    | @tup _ xs _ hs hds =>
    have eB : fitsB kvs avs F = (F.ws.all (writeOk kvs) && (partsF F).all (partFits kvs avs)) := by
      unfold fitsB
      rw [hk, ha]
      rfl
    refine ⟨.ref a, rfl, a, CF, dx, fs, .ref wa, rfl, eF, C.cl, C.n5, h5, wa, rfl, ⟨_, hs⟩, ?_⟩
    refine for_tup (K := K) (a := wa) (xs := xs) (fun j σ H' => ∃ z1 z2, σ = [some (.ref a), some (.ref pk), some (.ref pa), z1, z2, none] ∧ Same H H' ∧ (F.ws.take j).all (writeOk kvs) = true) ⟨_, _, rfl, Same.refl _, rfl⟩ (fun j σ H2 _ pr => ?_) (fun j x σ H2 hx pr => ?_) (fun σ H2 pr => ?_)
    · obtain ⟨_, _, _, s2, _⟩ := pr
      exact same_sqT s2 hs
    · obtain ⟨z1, z2, rfl, s2, al⟩ := pr
      obtain ⟨di, hd, hxi⟩ := dpA_at hds hx
      obtain ⟨z, t, rfl⟩ := writes_at ok.ws hd
      cases hxi with
      | @tup b ys _ hb hy =>
      obtain ⟨y0, y1, rfl, hy0, hy1⟩ := dp_pair hy
      cases hy0
      refine ⟨b, _, rfl, same_sqT s2 hb, rfl, _, _, rfl, y1, [], rfl, rfl, ?_⟩
      have eK := s2 _ _ ek
      have bad : writeOk kvs (.tuple [.str z, t]) = false → Q (.bl false) H2 := fun e => no H2 s2 (by
        rw [eB, Bool.and_eq_false_iff]
        refine .inl (eq_false_of_ne_true fun q => ?_)
        have := List.all_eq_true.mp q _ (List.mem_of_getElem? hd)
        rw [e] at this
        cases this)
      refine ⟨.str z, rfl, .ref pk, rfl, pk, _, rfl, .inl ⟨kvs, .inr z, .inl eK, rfl, rfl⟩, _, rfl, ?_⟩
      cases hval : valV kvs (.inr z : Key) with
      | none =>
        refine iteT (iteT (bad ?_))
        show decide (valV kvs (.inr z : Key) = _) = false
        rw [hval]
        rfl
      | some u =>
        obtain ⟨i, rfl⟩ := hK _ _ hval
        refine iteF ⟨.ref pk, rfl, .str z, rfl, pk, .str i, rfl, .inl ⟨kvs, .inr z, .inl eK, rfl, hval.symm⟩, rfl, _, rfl, ?_⟩
        by_cases e : i = "table"
        · rw [decide_eq_true (by rw [e] : V.str i = V.str "table")]
          refine iteF ⟨_, _, rfl, s2, ?_⟩
          rw [take_snoc hd, List.all_append, al]
          show (true && (decide (valV kvs (.inr z : Key) = some (.str "table")) && true)) = true
          rw [hval, e, decide_eq_true rfl]
          rfl
        · rw [decide_eq_false (fun z => e (V.str.inj z) : ¬ V.str i = V.str "table")]
          refine iteT (bad ?_)
          show decide (valV kvs (.inr z : Key) = some (.str "table")) = false
          rw [hval]
          exact decide_eq_false fun z => e (V.str.inj (Option.some.inj z))
    · obtain ⟨z1, z2, rfl, s2, al⟩ := pr
      rw [dpA_len hds, List.take_length] at al
      rw [al, Bool.true_and] at eB
      have hF2 := hF.same s2
      refine ⟨.ref a, rfl, a, dx, fs, rfl, s2 _ _ eF, h7, a, F, rfl, hF2, fun p ps H3 s3 ep hps => ?_⟩
      have t3 := s2.trans s3
      refine ⟨p, rfl, ⟨_, .inl (.inl ep)⟩, fun D hD => ?_⟩
      refine walk_gen (walk_list (K := K) (a := p) (xs := ps)) (fun i H' => Same H3 H' ∧ H' D = some (.lst (((partsF F).take i).map fun d => V.bl (partFits kvs avs d)))) ⟨same_upd hD, upd_same⟩ (fun i H' _ pr => .inl (.inl (pr.1 _ _ ep))) (fun i x H4 H5 hi pr y => ?_) (fun H' pr => ?_)
      · obtain ⟨s4, eD⟩ := pr
        obtain ⟨rfl, hx⟩ := y
        obtain ⟨di, hd, hxi⟩ := dpA_at hps hx
        obtain ⟨k1, k2⟩ := parts_ok ok hd
        have t4 := t3.trans s4
        refine And.intro rfl ?_
        unfold tYes
        refine iteT ⟨x, rfl, .ref pk, rfl, .ref pa, rfl, x, pk, pa, di, F.ar, kvs, avs, rfl, dp_same s4 hxi, k2, k1, t4 _ _ ek, t4 _ _ ea, hA, fun H6 s6 => ⟨_, s6 _ _ eD, ?_, fun b o e => ?_, ?_⟩⟩
        · rw [List.length_map, List.length_take]
          have := partsF_len ok
          exact Nat.lt_of_le_of_lt (show _ ≤ 4 by omega) (by decide)
        · rw [upd_ne (ne_of_none e hD)]
          exact s6 _ _ (s4 _ _ e)
        · rw [take_snoc hd, List.map_append]
          exact upd_same
      · obtain ⟨s4, eD⟩ := pr
        rw [dpA_len hps, List.take_length] at eD
        refine ⟨D, (partsF F).map (partFits kvs avs), rfl, .inl (.inl ?_), ?_⟩
        · rw [List.map_map]
          exact eD
        · have q2 := q H' (t3.trans s4)
          rw [eB] at q2
          rw [List.all_map]
          exact q2
end
/-! ### the cells of a book -/
/-- rows of items, by descriptions -/
def Items {α : Type} (R : V → α → Prop) (xs : List V) (is : List α) : Prop := xs.length = is.length ∧ ∀ (i : Nat) x c, xs[i]? = some x → is[i]? = some c → R x c
theorem Items.mono {α : Type} {R R' : V → α → Prop} {xs : List V} {is : List α} (h : Items R xs is) (k : ∀ x c, R x c → R' x c) : Items R' xs is := ⟨h.1, fun i x c e1 e2 => k x c (h.2 i x c e1 e2)⟩
theorem Items.at {α : Type} {R : V → α → Prop} {xs : List V} {is : List α} (h : Items R xs is) {i : Nat} {x : V} (e : xs[i]? = some x) : ∃ c, is[i]? = some c ∧ R x c := by
  have hi := (List.getElem?_eq_some_iff.mp e).1
  have hi : i < is.length := h.1 ▸ hi
  exact ⟨is[i], List.getElem?_eq_getElem hi, h.2 i x _ e (List.getElem?_eq_getElem hi)⟩
inductive CI where
  | cell (n k : Str)
  | odd
def CItem (K : PySem.W.Frag) (H : Hp) (C : Addr) (v : V) : CI → Prop
  | .cell n k => ∃ a, v = .ref a ∧ CellAt H C a n k
  | .odd => ∃ d, Dp K H v d
theorem CItem.same {K : PySem.W.Frag} {H H' : Hp} {C : Addr} {v : V} {c : CI} (h : CItem K H C v c) (s : Same H H') : CItem K H' C v c := by
  cases c with
  | cell n k =>
    obtain ⟨a, e, h⟩ := h
    exact ⟨a, e, h.same s⟩
  | odd =>
    obtain ⟨d, h⟩ := h
    exact ⟨d, dp_same s h⟩
def cN : CI → Str
  | .cell n _ => n
  | .odd => ""
/-- the first that is no cell, or whose name stands ahead -/
def badC (seen : List Str) (i : Nat) : List CI → Option Nat
  | [] => none
  | .odd :: _ => some i
  | .cell n _ :: r => if n ∈ seen then some i else badC (seen ++ [n]) (i + 1) r
/-- no list and no tuple -/
def NoSeq (K : PySem.W.Frag) (H : Hp) (v : V) : Prop := (∃ d, Dp K H v d ∧ isSeq d = false) ∨ ∃ p kvs, v = .ref p ∧ H p = some (.dK kvs)
theorem NoSeq.same {K : PySem.W.Frag} {H H' : Hp} {v : V} (h : NoSeq K H v) (s : Same H H') : NoSeq K H' v := by
  rcases h with ⟨d, h, e⟩ | ⟨p, kvs, e, h⟩
  · exact .inl ⟨d, dp_same s h, e⟩
  · exact .inr ⟨p, kvs, e, s _ _ h⟩
theorem NoSeq.ty {K : PySem.W.Frag} {H : Hp} {v : V} (h : NoSeq K H v) : ∃ t, TyX K H v t ∧ PySem.W.kitAny K t [.type "list", .type "tuple"] = some false := by
  rcases h with ⟨d, h, e⟩ | ⟨p, kvs, rfl, h⟩
  · have k := kit_seq K d
    rw [e] at k
    exact ⟨_, dp_ty h, k⟩
  · exact ⟨_, .base (.dK h), kit_seq K (.dict [])⟩
theorem sqA_ty {K : PySem.W.Frag} {H : Hp} {p : Addr} {xs : List V} (h : SqL K H p xs ∨ SqT K H p xs) : ∃ t, TyX K H (.ref p) t ∧ PySem.W.kitAny K t [.type "list", .type "tuple"] = some true := by
  rcases h with h | h
  · exact ⟨_, tyx_sqL h, kit_seq K (.list [])⟩
  · exact ⟨_, tyx_sqT h, kit_seq K (.tuple [])⟩
theorem sqA_same {K : PySem.W.Frag} {H H' : Hp} {p : Addr} {xs : List V} (h : SqL K H p xs ∨ SqT K H p xs) (s : Same H H') : SqL K H' p xs ∨ SqT K H' p xs := h.imp (fun h => s.seq h) fun h => same_sqT s h
structure BkT (mg : Str → Option Value) : Prop where
  en : mg "enumerate" = none
  c6 : ∃ t, mg "MOST_CELLS" = some (.int 6 t)
  f8 : ∃ t, mg "MOST_FUNCTIONS" = some (.int 8 t)
/-- what is wanted of an error made here -/
abbrev EWish (H : Hp) (C : Addr) (f : Str) (v : V) (E : XK) : Prop := ∀ H1 dd H', Same H H1 → Left H1 dd f v H' → E (.ref C) (some dd) H'
abbrev sCC : Stmt := topS 61
theorem scCC : FnScope ["cells", "names", "index", "cell"] ["cells"] (defScope sCC) := ⟨rfl, rfl, rfl, by decide +kernel, rfl, by decide +kernel, by decide +kernel⟩
def CWish8 (H : Hp) (CB CO : Addr) (E : XK) (ok : Prop) (many : Bool) : Option Nat → Prop
  | some i => EWish H CB "index" (.int (i : Nat)) E
  | none => if many = true then EWish H CO "limit" (.int 6) E else ok
def spCC (K : PySem.W.Frag) (C CB CO : Addr) : Sp := fun vs H Q E => ∃ v, vs = [v] ∧
  ((NoSeq K H v ∧ EWish H CB "index" .non E) ∨ ∃ (p : Addr) (xs : List V) (is : List CI), v = .ref p ∧ (SqL K H p xs ∨ SqT K H p xs) ∧ Items (CItem K H C) xs is ∧ is.length ≤ 20 ∧
    CWish8 H CB CO E (∀ H', Same H H' → Q .non H') (decide (6 < is.length)) (badC [] 0 is))
section
variable {P : Program} {w : World} {K : PySem.W.Frag} {mg : Str → Option Value} {base : Heap}
theorem ok_cc {C CB CO f fB fO : Addr} {fd dB dO : FuncData} (F : Fun K "_check_cells" "_check_cells" sCC f fd) (M : Blt mg) (B : BkT mg) (TC : CelC K mg C) (N : NoKit K C) (TB : ErrT K mg "BadCell" "index" CB fB) (TO : ErrO K mg famO "TooMany" "limit" CO fO)
    (GB : FnOk P w K mg base CX0 1 fB dB ["self", "index"] (spErr CB "index")) (bB : Binds K dB ["self", "index"] []) (GO : FnOk P w K mg base CX0 1 fO dO ["self", "limit"] (spErr CO "limit")) (bO : Binds K dO ["self", "limit"] []) :
    FnOk P w K mg base (L2.CX P w) 3 f fd ["cells"] (spCC K C CB CO) := by
  obtain ⟨t6, g6⟩ := B.c6
  refine F.okX scCC (fun vs H Q E h => ?_) (fun cdv A outer s H vs Q E hr h => ?_)
  · obtain ⟨v, rfl, _⟩ := h
    rfl
  · obtain ⟨v, rfl, h⟩ := h
    have one : (1 : Nat) ≤ 1000 := by decide
    refine ⟨_, pss_cons (ps_if (pt_not (pt_val (pe_callB call_isiT (by rfl) M.isinstance (by decide +kernel) (pa_cons (pv 0) (pa_cons (pe_tup (pa_cons (pe_bltn (v := .ty "list") (by rfl) M.list (by decide +kernel) rfl) (pa_cons (pe_bltn (v := .ty "tuple") (by rfl) M.tuple (by decide +kernel) rfl) pa_nil))) pa_nil)))))
        (pss_one (ps_raise rfl (takes_of rfl rfl rfl rfl) (pmk_oex (k := 1) (ps := ["self", "index"]) (sp := spErr CB "index") (ds := []) (dvs := []) TB.oex TB.ini TB.typ GB hr bB .nil pass0 (by rfl) TB.nam (pa_cons pe_non pa_nil)))) pss_nil)
      (pss_cons (ps_set (i := 1) scCC.nd rfl (.inl rfl) pe_dnewK)
      (pss_cons (ps_for (passes_of rfl) rfl (EnT.pi_enumA (by rfl) B.en (pa_cons (pv 0) pa_nil)) (pg_tup (by rfl) (pgs_cons (pg_name (i := 2) scCC.nd rfl (.inl rfl)) (pgs_cons (pg_name (i := 3) scCC.nd rfl (.inl rfl)) pgs_nil)))
        (pss_cons (ps_if (PW.pt (pw_or (pt_not (pt_val (pe_callB call_isi (by rfl) M.isinstance (by decide +kernel) (pa_cons (pv 3) (pa_cons (pe_glob (v := .ref C) (by rfl) TC.gC rfl) pa_nil)))))
          (pw_or1 (pt_cmp (pc_din (hu_of hr) (pe_fld (pv 3) (by rfl)) (pv 1))))))
          (pss_one (ps_raise rfl (takes_of rfl rfl rfl rfl) (pmk_oex (k := 1) (ps := ["self", "index"]) (sp := spErr CB "index") (ds := []) (dvs := []) TB.oex TB.ini TB.typ GB hr bB .nil pass0 (by rfl) TB.nam (pa_cons (pv 2) pa_nil)))) pss_nil)
        (pss_one (ps_dput (hu_of hr) (pv 1) (pe_fld (pv 3) (by rfl)) pe_bl (by rfl)))))
      (pss_one (ps_if (pt_cmpR op_gt (pe_callB call_len_seq (by rfl) M.len PySem.boot_len (pa_cons (pv 0) pa_nil)) (pe_glob (v := .int 6) (by rfl) g6 ⟨_, rfl⟩) (nomark _))
        (pss_one (ps_raise rfl (takes_of rfl rfl rfl rfl) (pmk_fam (k := 1) (ps := ["self", "limit"]) (sp := spErr CO "limit") famO_ok TO GO hr bO pass0 (by rfl) (pa_cons (pe_glob (v := .int 6) (by rfl) g6 ⟨_, rfl⟩) pa_nil)))) pss_nil)))), ?_⟩
    refine ⟨v, rfl, (by show 2 ≤ sizeLine; decide), fun tp np => ?_⟩
    have s0 : Same H (upd H tp (HO.tup [.ty "list", .ty "tuple"])) := same_upd np
    have tcs : Paired ClsV [V.ty "list", V.ty "tuple"] [Value.type "list", Value.type "tuple"] := .cons (.ty "list") (.cons (.ty "tuple") .nil)
    rcases h with ⟨hn, out⟩ | ⟨p, xs, is, rfl, hA, hI, h20, wish⟩
    · obtain ⟨t, ty, kt⟩ := (hn.same s0).ty
      exact ⟨v, tp, _, t, _, _, rfl, upd_same, tcs, ty, kt, _, rfl, iteT ⟨one, mk_left fun dd H' l => out _ dd H' s0 l⟩⟩
    · obtain ⟨t, ty, kt⟩ := sqA_ty (sqA_same hA s0)
      refine ⟨.ref p, tp, _, t, _, _, rfl, upd_same, tcs, ty, kt, _, rfl, iteF ?_⟩
      generalize upd H tp (HO.tup [.ty "list", .ty "tuple"]) = H0 at s0 ⊢
      intro td nd
      have sd : Same H0 (upd H0 td (.dK [])) := same_upd nd
      have ndH : H td = none := s0.free nd
      refine ⟨.ref p, rfl, p, xs, rfl, ?_⟩
      obtain ⟨Pv, hPv⟩ : ∃ Pv : Nat → L2.St → Hp → Prop, Pv = fun j σ H' => ∃ z2 z3 kvs, σ = [some (.ref p), some (.ref td), z2, z3] ∧ Same H H' ∧ H' td = some (.dK kvs) ∧ kvs.length ≤ j ∧ (∀ z, has kvs z = decide (z ∈ (is.take j).map cN)) ∧ badC [] 0 is = badC ((is.take j).map cN) j (is.drop j) := ⟨_, rfl⟩
      have h0 : Pv 0 [some (.ref p), some (.ref td), none, none] (upd H0 td (.dK [])) := by
        subst hPv
        exact ⟨_, _, [], rfl, s0.trans sd, upd_same, Nat.le_refl _, fun z => rfl, rfl⟩
      rcases hA with hA | hA
      case' inl => refine .inl ⟨(s0.trans sd).seq hA, ?_⟩; refine for_it (walk_enum (K := K) (a := p) (xs := xs)) Pv h0 (fun j σ H' _ pr => by subst hPv; obtain ⟨_, _, _, _, s, _⟩ := pr; exact s.seq hA) (fun j x σ H2 H3 hj pr y => ?_) (fun σ H2 pr => ?_)
      case' inr => refine .inr ⟨same_sqT (s0.trans sd) hA, ?_⟩; refine for_it (EnT.walk_enumT (K := K) (a := p) (xs := xs)) Pv h0 (fun j σ H' _ pr => by subst hPv; obtain ⟨_, _, _, _, s, _⟩ := pr; exact same_sqT s hA) (fun j x σ H2 H3 hj pr y => ?_) (fun σ H2 pr => ?_)
      all_goals subst hPv
      case' inl.refine_1 | inr.refine_1 =>
        obtain ⟨z2, z3, kvs, rfl, s2, eD, lk, hk, eb⟩ := pr
        obtain ⟨T, y0, x0, rfl, nT, rfl, ey, hx⟩ := y
        cases ey
        obtain ⟨c, hc, hx1⟩ := hI.at hx
        have sT : Same H2 (upd H2 T (.tup [.int (j : Nat), x0])) := same_upd nT
        have s3 := s2.trans sT
        have hx3 := hx1.same s3
        have eD3 := sT _ _ eD
        have jl : j < is.length := (List.getElem?_eq_some_iff.mp hc).1
        have hdr : is.drop j = c :: is.drop (j + 1) := by
          rw [List.drop_eq_getElem_cons jl]
          have := (List.getElem?_eq_some_iff.mp hc).2
          rw [this]
        rw [hdr] at eb
        have stop : badC [] 0 is = some j → EWish H CB "index" (.int (j : Nat)) E := fun e => by
          rw [e] at wish
          exact wish
        refine ⟨T, _, rfl, .inl (.inl upd_same), rfl, _, _, rfl, _, _, rfl, rfl, ?_⟩
        cases c with
        | odd =>
          obtain ⟨d, hd⟩ := hx3
          refine ⟨x0, rfl, x0, .ref C, _, _, _, rfl, .own C, dp_ty hd, N d, _, rfl, iteT (iteT ⟨.int (j : Nat), rfl, one, mk_left fun dd H' l => stop ?_ _ dd H' s3 l⟩)⟩
          rw [eb]
          rfl
        | cell n k =>
          obtain ⟨a, rfl, dx, fs, ea, ln, lk2⟩ := hx3
          refine ⟨.ref a, rfl, .ref a, .ref C, _, _, _, rfl, .own C, .base (.ins ea TC.cl TC.ca TC.cg TC.ct TC.cm), TC.me, _, rfl, iteF ?_⟩
          refine ⟨.ref a, rfl, a, C, dx, fs, _, rfl, ea, TC.cl, TC.nn, ln, .ref td, rfl, td, _, rfl, .inl ⟨kvs, .inr n, .inl eD3, rfl, rfl⟩, _, rfl, ?_⟩
          have hb : badC ((is.take j).map cN) j (.cell n k :: is.drop (j + 1)) = if n ∈ (is.take j).map cN then some j else badC ((is.take j).map cN ++ [n]) (j + 1) (is.drop (j + 1)) := rfl
          rw [show (valV kvs (.inr n : Key)).isSome = _ from hk n]
          by_cases hm : n ∈ (is.take j).map cN
          · rw [decide_eq_true hm]
            refine iteT ⟨.int (j : Nat), rfl, one, mk_left fun dd H' l => stop ?_ _ dd H' s3 l⟩
            rw [eb, hb, if_pos hm]
          · rw [decide_eq_false hm]
            rw [if_neg hm] at hb
            refine iteF ?_
            have nD : ∀ {b : Addr} {o : HO}, H b = some o → b ≠ td := fun e => ne_of_none e ndH
            refine ⟨.ref td, rfl, .ref a, rfl, a, C, dx, fs, _, rfl, ea, TC.cl, TC.nn, ln, td, _, rfl, .inl ⟨kvs, .inr n, eD3, rfl, Nat.lt_of_le_of_lt (show _ ≤ 20 by omega) (by decide), rfl⟩, ?_⟩
            refine ⟨_, _, putK kvs (.inr n : Key) (.bl true), rfl, fun b o e => ?_, upd_same, ?_, fun z => ?_, ?_⟩
            · rw [upd_ne (nD e)]
              exact s3 _ _ e
            · rw [putK_new _ (by
                have := hk n
                rw [decide_eq_false hm] at this
                unfold has at this
                exact Option.not_isSome_iff_eq_none.mp (by rw [this]; decide))]
              rw [List.length_append]
              exact Nat.add_le_add lk (Nat.le_refl 1)
            · unfold has
              rw [valV_put, take_snoc hc, List.map_append]
              have h0 := hk z
              unfold has at h0
              by_cases e : z = n
              · subst e
                rw [if_pos rfl]
                exact (decide_eq_true (List.mem_append_right _ (List.mem_singleton.mpr rfl))).symm
              · rw [if_neg (fun q => e (Sum.inr.inj q)), h0]
                refine decide_eq_decide.mpr ⟨fun q => List.mem_append_left _ q, fun q => ?_⟩
                rcases List.mem_append.mp q with q | q
                · exact q
                · exact (e (List.mem_singleton.mp q)).elim
            · rw [eb, hb, take_snoc hc, List.map_append]
              rfl
      case' inl.refine_2 | inr.refine_2 =>
        obtain ⟨z2, z3, kvs, rfl, s2, eD, lk, hk, eb⟩ := pr
        have en : badC [] 0 is = none := by
          rw [eb, hI.1, List.drop_length]
          rfl
        rw [en] at wish
        refine ⟨.ref p, rfl, p, xs, rfl, sqA_same (by first | exact .inl hA | exact .inr hA) s2, _, _, rfl, rfl, _, rfl, ?_⟩
        refine ite2 (fun t => ?_) (fun t => ?_)
        · have t6 : 6 < is.length := by
            have h4 := of_decide_eq_true t
            have := hI.1
            omega
          have wish : EWish H CO "limit" (.int 6) E := by
            have w := wish
            unfold CWish8 at w
            rw [decide_eq_true t6] at w
            exact w
          exact ⟨one, mk_left fun dd H' l => wish _ dd H' s2 l⟩
        · have t6 : ¬ 6 < is.length := fun q => t (decide_eq_true (by
            have := hI.1
            omega))
          have wish : ∀ H', Same H H' → Q .non H' := by
            have w := wish
            unfold CWish8 at w
            rw [decide_eq_false t6] at w
            exact w
          exact wish _ s2
end
/-! ### a walk over a list or a tuple -/
/-- what holds of a list or a tuple -/
abbrev SqA (K : PySem.W.Frag) (H : Hp) (a : Addr) (xs : List V) : Prop := SqL K H a xs ∨ SqT K H a xs
theorem SqA.same {K : PySem.W.Frag} {H H' : Hp} {a : Addr} {xs : List V} (h : SqA K H a xs) (s : Same H H') : SqA K H' a xs := h.imp s.seq fun r => r.imp (fun r => r.imp (s _ _) fun ⟨o, e⟩ => ⟨o, s _ _ e⟩) id
def iSeqA (K : PySem.W.Frag) (tl : TE) : TI := fun σ H R => tl σ H fun x H1 => ∃ a, x = .ref a ∧ (((∃ xs, SqL K H1 a xs) ∧ R (Itl K a) H1) ∨ ((∃ xs, SqT K H1 a xs) ∧ R (Itt K a) H1))
theorem pi_seqA {X : Cx} {tg l : Expr} {tl : TE} (hl : PE X l tl) : PI X tg l (iSeqA X.K tl) := by
  refine ⟨fun pins s σ H R I h => ?_⟩
  refine thn (hl.run pins s σ H _ I h) fun v s1 ⟨x, H1, I1, r1, q1⟩ => ?_
  obtain ⟨a, e, q1⟩ := q1
  subst e
  cases r1
  rcases q1 with ⟨⟨xs, hq⟩, q⟩ | ⟨⟨xs, hq⟩, q⟩
  · obtain ⟨its, rv, p, hz⟩ := I1.list hq
    refine wpAny_pyIter_list p.isList ?_
    refine ⟨s1.heap.objs.size, [s1.heap.objs.size], _, _, H1, rfl, I1.kept (t' := s1.toks) fun b o e => Heap.get?_push_of_some _ e, turn_list a _, ⟨_, Heap.get?_push_size _ rfl, rfl, rfl⟩, fun b hb => ?_, q⟩
    have e : b = s1.heap.objs.size := by simpa using hb
    subst e
    exact I1.fpOk (Nat.le_refl _) (I1.hok.fresh (Nat.le_refl _))
  · obtain ⟨its, rv, p, hz⟩ := I1.tuple hq
    refine wpAny_pyIter_tuple (show s1.heap.IsTuple a its.toArray from p) ?_
    refine ⟨s1.heap.objs.size, [s1.heap.objs.size], _, _, H1, rfl, I1.kept (t' := s1.toks) fun b o e => Heap.get?_push_of_some _ e, turn_tuple a _, ⟨_, Heap.get?_push_size _ rfl, rfl, rfl⟩, fun b hb => ?_, q⟩
    have e : b = s1.heap.objs.size := by simpa using hb
    subst e
    exact I1.fpOk (Nat.le_refl _) (I1.hok.fresh (Nat.le_refl _))
/-! ### the functions of a book -/
inductive FI where
  | fn (F : FD)
  | odd
def FItem (K : PySem.W.Frag) (H : Hp) (CF : Addr) (v : V) : FI → Prop
  | .fn F => ∃ a, v = .ref a ∧ FunOf K H CF a F
  | .odd => ∃ d, Dp K H v d
theorem FItem.same {K : PySem.W.Frag} {H H' : Hp} {C : Addr} {v : V} {c : FI} (h : FItem K H C v c) (s : Same H H') : FItem K H' C v c := by
  cases c with
  | fn F =>
    obtain ⟨a, e, h⟩ := h
    exact ⟨a, e, h.same s⟩
  | odd =>
    obtain ⟨d, h⟩ := h
    exact ⟨d, dp_same s h⟩
def cK : CI → Str
  | .cell _ k => k
  | .odd => ""
def kindsK (is : List CI) : List (Key × V) := is.map fun c => ((.inr (cN c) : Key), V.str (cK c))
/-- the first that is no function, or doesn't fit -/
def badF (kvs : List (Key × V)) (avs : List (Key × V)) (i : Nat) : List FI → Option Nat
  | [] => none
  | .odd :: _ => some i
  | .fn F :: r => if fitsB kvs avs F = true then badF kvs (putK avs (.inr F.nm : Key) (.int F.ar)) (i + 1) r else some i
theorem kinds_strs {is : List CI} : StrsAt (kindsK is) := fun z u e => by
  unfold valV kindsK at e
  obtain ⟨kv, hkv, rfl⟩ := Option.map_eq_some_iff.mp e
  obtain ⟨c, _, rfl⟩ := List.mem_map.mp (List.mem_of_find?_eq_some hkv)
  exact ⟨_, rfl⟩
/-- cells that are good are cells, of names of their own -/
theorem good_cells : ∀ {is : List CI} {seen : List Str} {i : Nat}, badC seen i is = none → ∀ j c, is[j]? = some c → (∃ n k, c = .cell n k) ∧ cN c ∉ seen ++ (is.take j).map cN
  | [], _, _, _, _, _, e => by simp at e
  | .odd :: _, _, _, h, _, _, _ => by cases h
  | .cell n k :: r, seen, i, h, j, c, e => by
    unfold badC at h
    split at h
    · cases h
    · next hn =>
      cases j with
      | zero =>
        cases e
        refine ⟨⟨n, k, rfl⟩, ?_⟩
        show n ∉ seen ++ []
        rw [List.append_nil]
        exact hn
      | succ j =>
        have h2 := good_cells h j c e
        refine ⟨h2.1, ?_⟩
        rw [List.append_assoc] at h2
        exact h2.2
theorem kinds_new {is : List CI} (h : badC [] 0 is = none) {j : Nat} {c : CI} (e : is[j]? = some c) : valV (kindsK (is.take j)) (.inr (cN c) : Key) = none := by
  have h2 := (good_cells h j c e).2
  unfold valV
  rw [List.find?_eq_none.mpr]
  · rfl
  · intro kv hkv q
    obtain ⟨c2, hc2, rfl⟩ := List.mem_map.mp hkv
    have q1 : (Sum.inr (cN c2) : Key) = .inr (cN c) := of_decide_eq_true q
    exact h2 (Sum.inr.inj q1 ▸ List.mem_map.mpr ⟨c2, hc2, rfl⟩)
theorem ints_put {avs : List (Key × V)} (h : IntsAt avs) (n : Str) (i : Int) : IntsAt (putK avs (.inr n : Key) (.int i)) := fun z u e => by
  rw [valV_put] at e
  split at e
  · cases e
    exact ⟨i, rfl⟩
  · exact h z u e
/-- what isinstance asks of a class -/
structure KitC (K : PySem.W.Frag) (C : Addr) : Prop where
  cl : Cls K C
  me : PySem.W.kitOne K (.ref C) (.ref C) = some true
  ca : PySem.W.findIn K (.ref C) "__class__" = some (some (.builtin "object.__class__"))
  cg : PySem.W.specialIn K (.builtin "object.__class__") "__get__" = some (some (.builtin "getset_descriptor.__get__"))
  ct : PySem.W.takesIn K (.builtin "object.__class__") = some true
  cm : PySem.W.mroIn K C (.type "object") = some true
  no : NoKit K C
abbrev sCFn : Stmt := topS 62
theorem scCFn : FnScope ["cells", "functions", "kinds", "ahead", "index", "function", "cell"] ["cells", "functions"] (defScope sCFn) := ⟨rfl, rfl, rfl, by decide +kernel, rfl, by decide +kernel, by decide +kernel⟩
def FWish8 (H : Hp) (CB CO : Addr) (E : XK) (ok : Prop) (none_ many : Bool) (r : Option Nat) : Prop :=
  if none_ = true then EWish H CB "index" .non E else
  match r with
  | some i => EWish H CB "index" (.int (i : Nat)) E
  | none => if many = true then EWish H CO "limit" (.int 8) E else ok
def spCFn (K : PySem.W.Frag) (C CF CB CO : Addr) : Sp := fun vs H Q E => ∃ (p : Addr) (xs : List V) (is : List CI) (v : V), vs = [.ref p, v] ∧ (SqL K H p xs ∨ SqT K H p xs) ∧ Items (CItem K H C) xs is ∧ badC [] 0 is = none ∧ is.length ≤ 6 ∧
  ((NoSeq K H v ∧ EWish H CB "index" .non E) ∨ ∃ (r : Addr) (ys : List V) (js : List FI), v = .ref r ∧ (SqL K H r ys ∨ SqT K H r ys) ∧ Items (FItem K H CF) ys js ∧ js.length ≤ 20 ∧
    FWish8 H CB CO E (∀ H', Same H H' → Q .non H') (decide (js.length = 0)) (decide (8 < js.length)) (badF (kindsK is) [] 0 js))
section
variable {P : Program} {w : World} {K : PySem.W.Frag} {mg : Str → Option Value} {base : Heap}
theorem ok_cfn {C CF CB CO f fB fO fT : Addr} {fd dB dO dT : FuncData} (F : Fun K "_check_functions" "_check_functions" sCFn f fd) (M : Blt mg) (B : BkT mg) (TC : CelC K mg C) (KF : KitC K CF) (gF : mg "Function" = some (.ref CF)) (FC : FldC K CF)
    (TB : ErrT K mg "BadFunction" "index" CB fB) (TO : ErrO K mg famO "TooMany" "limit" CO fO)
    (GB : FnOk P w K mg base CX0 1 fB dB ["self", "index"] (spErr CB "index")) (bB : Binds K dB ["self", "index"] []) (GO : FnOk P w K mg base CX0 1 fO dO ["self", "limit"] (spErr CO "limit")) (bO : Binds K dO ["self", "limit"] [])
    (GT : FnOk P w K mg base CX0 9 fT dT ["function", "kinds", "ahead"] (spFits K CF)) (kT : PySem.W.keepIn K (.ref fT) = true) (bT : Binds K dT ["function", "kinds", "ahead"] []) (gT : mg "_fits" = some (.ref fT)) :
    FnOk P w K mg base (L2.CX P w) 10 f fd ["cells", "functions"] (spCFn K C CF CB CO) := by
  obtain ⟨t8, g8⟩ := B.f8
  refine F.okX scCFn (fun vs H Q E h => ?_) (fun cdv A outer s H vs Q E hr h => ?_)
  · obtain ⟨p, xs, is, v, rfl, _⟩ := h
    rfl
  · obtain ⟨p, xs, is, v, rfl, hA, hI, hgood, h6, h⟩ := h
    have one : (1 : Nat) ≤ 1000 := by decide
    have hr2 : Room 2 (A.deeper (envOfC "_check_functions" (defScope sCFn) s.heap.objs.size f cdv)) := hr.mono (by decide)
    refine ⟨_, pss_cons (ps_if (PW.pt (pw_or (pt_not (pt_val (pe_callB call_isiT (by rfl) M.isinstance (by decide +kernel) (pa_cons (pv 1) (pa_cons (pe_tup (pa_cons (pe_bltn (v := .ty "list") (by rfl) M.list (by decide +kernel) rfl) (pa_cons (pe_bltn (v := .ty "tuple") (by rfl) M.tuple (by decide +kernel) rfl) pa_nil))) pa_nil)))))
          (pw_or1 (pt_cmpR op_eq (pe_callB call_len_seq (by rfl) M.len PySem.boot_len (pa_cons (pv 1) pa_nil)) pe_int (nomark _)))))
        (pss_one (ps_raise rfl (takes_of rfl rfl rfl rfl) (pmk_oex (k := 1) (ps := ["self", "index"]) (sp := spErr CB "index") (ds := []) (dvs := []) TB.oex TB.ini TB.typ GB hr2 bB .nil pass0 (by rfl) TB.nam (pa_cons pe_non pa_nil)))) pss_nil)
      (pss_cons (ps_setDc (i := 2) (own := [("cell", 6)]) (g := gName 6) (wi := iSeqA K (tVar 0)) (tk := tFld K (tVar 6) "name") (tv := tFld K (tVar 6) "kind") (by rfl) scCFn.nd rfl rfl (swd_true rfl rfl rfl (by decide +kernel)) (pi_seqA (pv 0)) (blkOk_by (own := [("cell", 6)]) (N := ["cells", "functions", "kinds", "ahead", "index", "function", "cell"]) (sc := defScope sCFn) (by decide +kernel))
          (fun _ _ _ _ _ => pg_name (i := 6) scCFn.nd rfl (Or.inl rfl)) (fun _ _ _ _ _ => pts_nil) (fun _ _ _ _ _ => pe_fld (pv 6) (by rfl)) (fun _ _ _ _ _ => pe_fld (pv 6) (by rfl)))
      (pss_cons (ps_set (i := 3) scCFn.nd rfl (.inl rfl) pe_dnewK)
      (pss_cons (ps_for (passes_of rfl) rfl (EnT.pi_enumA (by rfl) B.en (pa_cons (pv 1) pa_nil)) (pg_tup (by rfl) (pgs_cons (pg_name (i := 4) scCFn.nd rfl (.inl rfl)) (pgs_cons (pg_name (i := 5) scCFn.nd rfl (.inl rfl)) pgs_nil)))
        (pss_cons (ps_if (PW.pt (pw_or (pt_not (pt_val (pe_callB call_isi (by rfl) M.isinstance (by decide +kernel) (pa_cons (pv 5) (pa_cons (pe_glob (v := .ref CF) (by rfl) gF rfl) pa_nil)))))
          (pw_or1 (pt_not (pt_val (pe_call GT hr (by rfl) gT kT bT .nil pass0 (pa_cons (pv 5) (pa_cons (pv 2) (pa_cons (pv 3) pa_nil)))))))))
          (pss_one (ps_raise rfl (takes_of rfl rfl rfl rfl) (pmk_oex (k := 1) (ps := ["self", "index"]) (sp := spErr CB "index") (ds := []) (dvs := []) TB.oex TB.ini TB.typ GB hr2 bB .nil pass0 (by rfl) TB.nam (pa_cons (pv 4) pa_nil)))) pss_nil)
        (pss_one (ps_dput (hu_of hr) (pv 3) (pe_fld (pv 5) (by rfl)) (pe_fld (pv 5) (by rfl)) (by rfl)))))
      (pss_one (ps_if (pt_cmpR op_gt (pe_callB call_len_seq (by rfl) M.len PySem.boot_len (pa_cons (pv 1) pa_nil)) (pe_glob (v := .int 8) (by rfl) g8 ⟨_, rfl⟩) (nomark _))
        (pss_one (ps_raise rfl (takes_of rfl rfl rfl rfl) (pmk_fam (k := 1) (ps := ["self", "limit"]) (sp := spErr CO "limit") famO_ok TO GO hr2 bO pass0 (by rfl) (pa_cons (pe_glob (v := .int 8) (by rfl) g8 ⟨_, rfl⟩) pa_nil)))) pss_nil))))), ?_⟩
    refine ⟨v, rfl, (by show 2 ≤ sizeLine; decide), fun tp np => ?_⟩
    have s0 : Same H (upd H tp (HO.tup [.ty "list", .ty "tuple"])) := same_upd np
    have tcs : Paired ClsV [V.ty "list", V.ty "tuple"] [Value.type "list", Value.type "tuple"] := .cons (.ty "list") (.cons (.ty "tuple") .nil)
    rcases h with ⟨hn, out⟩ | ⟨r, ys, js, rfl, hY, hJ, h20, wish⟩
    · obtain ⟨t, ty, kt⟩ := (hn.same s0).ty
      exact ⟨v, tp, _, t, _, _, rfl, upd_same, tcs, ty, kt, _, rfl, iteT (iteT ⟨one, mk_left fun dd H' l => out _ dd H' s0 l⟩)⟩
    · obtain ⟨t, ty, kt⟩ := sqA_ty (sqA_same hY s0)
      refine ⟨.ref r, tp, _, t, _, _, rfl, upd_same, tcs, ty, kt, _, rfl, iteF ?_⟩
      generalize upd H tp (HO.tup [.ty "list", .ty "tuple"]) = H0 at s0 ⊢
      refine ⟨.ref r, rfl, r, ys, rfl, sqA_same hY s0, rfl, _, rfl, ?_⟩
      by_cases hz : js.length = 0
      · have e0 : decide (V.int (ys.length : Nat) = V.int 0) = true := decide_eq_true (by rw [hJ.1, hz]; rfl)
        rw [e0]
        have w : EWish H CB "index" .non E := by
          have w := wish
          unfold FWish8 at w
          rw [decide_eq_true hz] at w
          exact w
        exact iteT ⟨one, mk_left fun dd H' l => w _ dd H' s0 l⟩
      · have e0 : decide (V.int (ys.length : Nat) = V.int 0) = false := decide_eq_false fun q => hz (by have := V.int.inj q; have := hJ.1; omega)
        rw [e0]
        refine iteF ?_
        have wish : match badF (kindsK is) [] 0 js with
            | some i => EWish H CB "index" (.int (i : Nat)) E
            | none => if decide (8 < js.length) = true then EWish H CO "limit" (.int 8) E else (∀ H', Same H H' → Q .non H') := by
          have w := wish
          unfold FWish8 at w
          rw [decide_eq_false hz] at w
          exact w
        have hI0 := hI.mono fun x c h => h.same s0
        have hA0 := sqA_same hA s0
        have hY0 := sqA_same hY s0
        have hJ0 := hJ.mono fun x c h => h.same s0
        obtain ⟨Pc, hPc⟩ : ∃ Pc : Addr → Nat → Hp → Prop, Pc = fun D i H' => Same H0 H' ∧ H' D = some (.dK (kindsK (is.take i))) := ⟨_, rfl⟩
        refine ⟨_, rfl, p, rfl, ?_⟩
        rcases hA0 with hA0 | hA0
        case' inl => refine .inl ⟨⟨_, hA0⟩, fun D hD => ?_⟩; refine walk_gen (walk_list (K := K) (a := p) (xs := xs)) (Pc D) (by subst hPc; exact ⟨same_upd hD, upd_same⟩) (fun i H' _ pr => by subst hPc; exact pr.1.seq hA0) (fun i x H1 H2 hi pr y => ?_) (fun H1 pr => ?_)
        case' inr => refine .inr ⟨⟨_, hA0⟩, fun D hD => ?_⟩; refine walk_gen (walk_tup (K := K) (a := p) (xs := xs)) (Pc D) (by subst hPc; exact ⟨same_upd hD, upd_same⟩) (fun i H' _ pr => by subst hPc; exact same_sqT pr.1 hA0) (fun i x H1 H2 hi pr y => ?_) (fun H1 pr => ?_)
        all_goals subst hPc
        case' inl.refine_1 | inr.refine_1 =>
          obtain ⟨s1, e1⟩ := pr
          obtain ⟨rfl, hx⟩ := y
          obtain ⟨c, hc, hx1⟩ := hI0.at hx
          obtain ⟨⟨n, k, rfl⟩, _⟩ := good_cells hgood _ _ hc
          obtain ⟨a, rfl, dx, fs, ea, ln, lk⟩ := hx1
          have ea1 := s1 _ _ ea
          refine And.intro rfl ?_
          unfold tYes
          refine iteT ?_
          refine ⟨.ref a, rfl, a, C, dx, fs, _, rfl, ea1, TC.cl, TC.nn, ln, .ref a, rfl, a, C, dx, fs, _, rfl, ea1, TC.cl, TC.nk, lk, _, .inr n, rfl, e1, ?_, fun b o e => ?_, ?_⟩
          · unfold kindsK
            rw [List.length_map, List.length_take]
            exact Nat.lt_of_le_of_lt (show _ ≤ 6 by omega) (by decide)
          · rw [upd_ne (ne_of_none e hD)]
            exact s1 _ _ e
          · rw [upd_same, take_snoc hc, putK_new _ (show valV (kindsK (is.take i)) (.inr n : Key) = none from kinds_new hgood hc)]
            unfold kindsK
            rw [List.map_append]
            rfl
        all_goals
          obtain ⟨s1, e1⟩ := pr
          rw [hI.1, List.take_length] at e1
          intro td nd
          have sd : Same H1 (upd H1 td (.dK [])) := same_upd nd
          have t1 := s0.trans (s1.trans sd)
          refine ⟨.ref r, rfl, r, ys, rfl, ?_⟩
          obtain ⟨Pv, hPv⟩ : ∃ Pv : Nat → L2.St → Hp → Prop, Pv = fun j σ H' => ∃ z4 z5 avs, σ = [some (.ref p), some (.ref r), some (.ref D), some (.ref td), z4, z5, none] ∧ Same H1 H' ∧ H' td = some (.dK avs) ∧ avs.length ≤ j ∧ IntsAt avs ∧ badF (kindsK is) [] 0 js = badF (kindsK is) avs j (js.drop j) := ⟨_, rfl⟩
          have h0 : Pv 0 [some (.ref p), some (.ref r), some (.ref D), some (.ref td), none, none, none] (upd H1 td (.dK [])) := by
            subst hPv
            exact ⟨_, _, [], rfl, sd, upd_same, Nat.le_refl _, (fun z u e => by cases e), rfl⟩
          rcases hY0 with hY0 | hY0
          case' inl => refine .inl ⟨(s1.trans sd).seq hY0, ?_⟩; refine for_it (walk_enum (K := K) (a := r) (xs := ys)) Pv h0 (fun j σ H' _ pr => by subst hPv; obtain ⟨_, _, _, _, s, _⟩ := pr; exact (s1.trans s).seq hY0) (fun j x σ H2 H3 hj pr y => ?_) (fun σ H2 pr => ?_)
          case' inr => refine .inr ⟨same_sqT (s1.trans sd) hY0, ?_⟩; refine for_it (EnT.walk_enumT (K := K) (a := r) (xs := ys)) Pv h0 (fun j σ H' _ pr => by subst hPv; obtain ⟨_, _, _, _, s, _⟩ := pr; exact same_sqT (s1.trans s) hY0) (fun j x σ H2 H3 hj pr y => ?_) (fun σ H2 pr => ?_)
          all_goals subst hPv
          case' inl.refine_1 | inr.refine_1 =>
            obtain ⟨z4, z5, avs, rfl, s2, eD, lk, hAv, eb⟩ := pr
            obtain ⟨T, y0, x0, rfl, nT, rfl, ey, hx⟩ := y
            cases ey
            obtain ⟨c, hc, hx1⟩ := hJ0.at hx
            have sT : Same H2 (upd H2 T (.tup [.int (j : Nat), x0])) := same_upd nT
            have s3 := s1.trans (s2.trans sT)
            have hx3 := hx1.same s3
            have eD3 := sT _ _ eD
            have e13 := sT _ _ (s2 _ _ e1)
            have jl : j < js.length := (List.getElem?_eq_some_iff.mp hc).1
            have hdr : js.drop j = c :: js.drop (j + 1) := by
              rw [List.drop_eq_getElem_cons jl]
              have := (List.getElem?_eq_some_iff.mp hc).2
              rw [this]
            rw [hdr] at eb
            have stop : badF (kindsK is) [] 0 js = some j → EWish H CB "index" (.int (j : Nat)) E := fun e => by
              rw [e] at wish
              exact wish
            refine ⟨T, _, rfl, .inl (.inl upd_same), rfl, _, _, rfl, _, _, rfl, rfl, ?_⟩
            cases c with
            | odd =>
              obtain ⟨d, hd⟩ := hx3
              refine ⟨x0, rfl, x0, .ref CF, _, _, _, rfl, .own CF, dp_ty hd, KF.no d, _, rfl, iteT (iteT ⟨.int (j : Nat), rfl, one, mk_left fun dd H' l => stop ?_ _ dd H' (s0.trans s3) l⟩)⟩
              rw [eb]
              rfl
            | fn G =>
              obtain ⟨a, rfl, hG⟩ := hx3
              obtain ⟨ok, dx, fs, vr, wa, ea, l1, l2, _⟩ := id hG
              refine ⟨.ref a, rfl, .ref a, .ref CF, _, _, _, rfl, .own CF, .base (.ins ea KF.cl KF.ca KF.cg KF.ct KF.cm), KF.me, _, rfl, iteF ?_⟩
              refine ⟨.ref a, rfl, .ref D, rfl, .ref td, rfl, a, D, td, G, kindsK is, avs, rfl, hG, e13, eD3, hAv, kinds_strs, fun H4 s4 => ⟨_, rfl, ?_⟩⟩
              have hb : badF (kindsK is) avs j (.fn G :: js.drop (j + 1)) = if fitsB (kindsK is) avs G = true then badF (kindsK is) (putK avs (.inr G.nm : Key) (.int G.ar)) (j + 1) (js.drop (j + 1)) else some j := rfl
              cases hf : fitsB (kindsK is) avs G with
              | false =>
                rw [hf] at hb
                refine iteT ⟨.int (j : Nat), rfl, one, mk_left fun dd H' l => stop ?_ _ dd H' (s0.trans (s3.trans s4)) l⟩
                rw [eb, hb]
                rfl
              | true =>
                rw [hf, if_pos rfl] at hb
                refine iteF ?_
                have ea4 := s4 _ _ ea
                refine ⟨.ref a, rfl, a, CF, dx, fs, _, rfl, ea4, FC.cl, FC.n2, l2, .ref td, rfl, .ref a, rfl, a, CF, dx, fs, _, rfl, ea4, FC.cl, FC.n1, l1, td, _, rfl, .inl ⟨avs, .inr G.nm, s4 _ _ eD3, rfl, Nat.lt_of_le_of_lt (show _ ≤ 20 by omega) (by decide), rfl⟩, ?_⟩
                refine ⟨_, _, putK avs (.inr G.nm : Key) (.int G.ar), rfl, fun b o e => ?_, upd_same, ?_, ints_put hAv _ _, ?_⟩
                · rw [upd_ne (ne_of_none e nd)]
                  exact s4 _ _ (sT _ _ (s2 _ _ e))
                · rw [putK_new _ (by
                    have hn : has avs G.nm = false := by
                      have h1 : fitsB (kindsK is) avs G = true := hf
                      unfold fitsB at h1
                      rw [Bool.and_eq_true, Bool.and_eq_true, Bool.not_eq_true', Bool.or_eq_false_iff] at h1
                      exact h1.1.1.2
                    unfold has at hn
                    exact Option.not_isSome_iff_eq_none.mp (by rw [hn]; decide))]
                  rw [List.length_append]
                  exact Nat.add_le_add lk (Nat.le_refl 1)
                · rw [eb, hb]
          all_goals
            obtain ⟨z4, z5, avs, rfl, s2, eD, lk, hAv, eb⟩ := pr
            have en : badF (kindsK is) [] 0 js = none := by
              rw [eb, hJ.1, List.drop_length]
              rfl
            rw [en] at wish
            dsimp only at wish
            have t2 := s0.trans (s1.trans s2)
            refine ⟨.ref r, rfl, r, ys, rfl, sqA_same hY t2, _, _, rfl, rfl, _, rfl, ?_⟩
            refine ite2 (fun t => ?_) (fun t => ?_)
            · have t8 : 8 < js.length := by
                have h4 := of_decide_eq_true t
                have := hJ.1
                omega
              rw [decide_eq_true t8] at wish
              exact ⟨one, mk_left fun dd H' l => wish _ dd H' t2 l⟩
            · have t8 : ¬ 8 < js.length := fun q => t (decide_eq_true (by
                have := hJ.1
                omega))
              rw [decide_eq_false t8] at wish
              exact wish _ t2
end
/-! ### Function.__eq__ -/
abbrev sFEq : Stmt := inClass (topS 55) 1
theorem scFEq : FnScope ["self", "other"] ["self", "other"] (defScope sFEq) := ⟨rfl, rfl, rfl, by decide +kernel, rfl, by decide +kernel, by decide +kernel⟩
/-- a whole Function: its data, the number of its label, its cost -/
structure FX where
  d : FD
  lab : Nat
  cost : Int
structure FXOk (F : FX) : Prop where
  fd : FdOk F.d
  sr : SeqAt.shaped F.d.res = true
  sw : SeqAt.shaped (.tuple F.d.ws) = true
  ar : countOk 2 (.int F.d.ar) = true
  co : countOk 99 (.int F.cost) = true
def FunFull (K : PySem.W.Frag) (H : Hp) (CF CL a : Addr) (F : FX) : Prop := FXOk F ∧ ∃ (dx : Addr) (fs : List (Str × V)) (vr : V) (wa la : Addr), H a = some (.ins CF dx fs) ∧ fs.lookup ("name" : Str) = some (.str F.d.nm) ∧ fs.lookup ("arguments" : Str) = some (.int F.d.ar) ∧
  fs.lookup ("result" : Str) = some vr ∧ Dp K H vr F.d.res ∧ fs.lookup ("writes" : Str) = some (.ref wa) ∧ Dp K H (.ref wa) (.tuple F.d.ws) ∧ fs.lookup ("label" : Str) = some (.ref la) ∧ LabAt H CL la F.lab ∧ fs.lookup ("cost" : Str) = some (.int F.cost) ∧
  fs.lookup ("labelled" : Str) = none ∧ fs.lookup ("changed" : Str) = none ∧ fs.lookup ("parts" : Str) = none
theorem FunFull.same {K : PySem.W.Frag} {H H' : Hp} {CF CL a : Addr} {F : FX} (h : FunFull K H CF CL a F) (s : Same H H') : FunFull K H' CF CL a F := by
  obtain ⟨k, dx, fs, vr, wa, la, e, l1, l2, l3, d1, l4, d2, l5, la1, l6, r⟩ := h
  exact ⟨k, dx, fs, vr, wa, la, s _ _ e, l1, l2, l3, dp_same s d1, l4, dp_same s d2, l5, la1.ext s, l6, r⟩
theorem FunFull.of {K : PySem.W.Frag} {H : Hp} {CF CL a : Addr} {F : FX} (h : FunFull K H CF CL a F) : FunOf K H CF a F.d := by
  obtain ⟨k, dx, fs, vr, wa, la, e, l1, l2, l3, d1, l4, d2, l5, la1, l6, n1, n2, n3⟩ := h
  exact ⟨k.fd, dx, fs, vr, wa, e, l1, l2, l3, d1, l4, d2, n3⟩
def eqFX (F G : FX) : Bool := decide (F.d.nm = G.d.nm) && (decide (F.d.ar = G.d.ar) && (PyData.eqv F.d.res G.d.res && (decide (F.lab = G.lab) && (PyData.eqv (.tuple F.d.ws) (.tuple G.d.ws) && decide (F.cost = G.cost)))))
def spFEq (K : PySem.W.Frag) (CF CL : Addr) : Sp := fun vs H Q _ => ∃ (a : Addr) (F : FX) (y : V), vs = [.ref a, y] ∧ FunFull K H CF CL a F ∧ ((∃ b G, y = .ref b ∧ FunFull K H CF CL b G ∧ Q (.bl (eqFX F G)) H) ∨ ∃ z, y = .str z ∧ Q (.bl false) H)
/-- the attributes of a Function -/
structure FAtt (K : PySem.W.Frag) (CF : Addr) : Prop where
  n1 : NoAttr K CF "name"
  n2 : NoAttr K CF "arguments"
  n3 : NoAttr K CF "result"
  n4 : NoAttr K CF "label"
  n5 : NoAttr K CF "writes"
  n6 : NoAttr K CF "cost"
/-- Label.__eq__, as the own == goes by it -/
structure LabQ (P : Program) (w : World) (K : PySem.W.Frag) (mg : Str → Option Value) (base : Heap) (CL g : Addr) (fg : FuncData) : Prop where
  eq_ : PySem.W.findIn K (.ref CL) (cmpInfo .Eq).2.1 = some (some (.ref g))
  eqf : PySem.W.isFn K (.ref g) = true
  eqo : FnOk P w K mg base CX0 1 g fg ["self", "other"] (spLabEq K CL)
  eqb : Binds K fg ["self", "other"] []
section
variable {P : Program} {w : World} {K : PySem.W.Frag} {mg : Str → Option Value} {base : Heap}
theorem ok_feq {CF CL f g : Addr} {fd fg : FuncData} (F : Fun K "__eq__" "Function.__eq__" sFEq f fd) (M : Blt mg) (KC : KitC K CF) (gF : mg "Function" = some (.ref CF)) (T : FAtt K CF) (LQ : LabQ P w K mg base CL g fg) : FnOk P w K mg base CX0 2 f fd ["self", "other"] (spFEq K CF CL) := by
  refine F.ok scFEq (fun vs H Q E h => ?_) (fun cdv A outer s H vs Q E hr h => ?_)
  · obtain ⟨a, F, y, rfl, _⟩ := h
    rfl
  · obtain ⟨a, F, y, rfl, ⟨k, dx, fs, vr, wa, la, e, l1, l2, l3, d1, l4, d2, l5, la1, l6, _⟩, h⟩ := h
    refine ⟨_, pss_one (ps_ret (pe_and (pe_callB call_isi (by rfl) M.isinstance (by decide +kernel) (pa_cons (pv 1) (pa_cons (pe_glob (v := .ref CF) (by rfl) gF rfl) pa_nil)))
      (pe_and (pe_cmpR op_eq (pe_fld (pv 0) (by rfl)) (pe_fld (pv 1) (by rfl)) (nomark _)) (pe_and (pe_cmpR op_eq (pe_fld (pv 0) (by rfl)) (pe_fld (pv 1) (by rfl)) (nomark _)) (pe_and (pe_cmpR (op_eqD hr.units) (pe_fld (pv 0) (by rfl)) (pe_fld (pv 1) (by rfl)) (nomark _))
      (pe_and (pe_cmpR (op_ownI LQ.eq_ LQ.eqf LQ.eqo LQ.eqb hr) (pe_fld (pv 0) (by rfl)) (pe_fld (pv 1) (by rfl)) (nomark _)) (pe_and (pe_cmpR (op_eqD hr.units) (pe_fld (pv 0) (by rfl)) (pe_fld (pv 1) (by rfl)) (nomark _)) (pe_one (pe_cmpR op_eq (pe_fld (pv 0) (by rfl)) (pe_fld (pv 1) (by rfl)) (nomark _)))))))))), ?_⟩
    rcases h with ⟨b, G, rfl, ⟨k', dy, gs, ur, wb, lb, e', m1, m2, m3, c1, m4, c2, m5, lb1, m6, _⟩, q⟩ | ⟨z2, rfl, q⟩
    · obtain ⟨dxa, fsa, za, ela, _⟩ := id la1
      obtain ⟨dxb, fsb, zb, elb, _⟩ := id lb1
      have es : ∀ x y : Str, decide (V.str x = V.str y) = decide (x = y) := fun x y => by
        by_cases e : x = y
        · rw [decide_eq_true e, decide_eq_true (by rw [e])]
        · rw [decide_eq_false e, decide_eq_false (fun z => e (V.str.inj z))]
      have ei : ∀ x y : Int, decide (V.int x = V.int y) = decide (x = y) := fun x y => by
        by_cases e : x = y
        · rw [decide_eq_true e, decide_eq_true (by rw [e])]
        · rw [decide_eq_false e, decide_eq_false (fun z => e (V.int.inj z))]
      unfold eqFX at q
      refine ⟨_, rfl, _, _, _, _, _, rfl, .own CF, .base (.ins e' KC.cl KC.ca KC.cg KC.ct KC.cm), KC.me, _, rfl, iteT ?_⟩
      refine ⟨_, rfl, a, CF, dx, fs, _, rfl, e, KC.cl, T.n1, l1, _, rfl, b, CF, dy, gs, _, rfl, e', KC.cl, T.n1, m1, rfl, _, rfl, ?_⟩
      rw [es]
      cases h1 : decide (F.d.nm = G.d.nm) with
      | false => rw [h1] at q; exact iteF q
      | true =>
      rw [h1] at q
      refine iteT ⟨_, rfl, a, CF, dx, fs, _, rfl, e, KC.cl, T.n2, l2, _, rfl, b, CF, dy, gs, _, rfl, e', KC.cl, T.n2, m2, rfl, _, rfl, ?_⟩
      rw [ei]
      cases h2 : decide (F.d.ar = G.d.ar) with
      | false => rw [h2] at q; exact iteF q
      | true =>
      rw [h2] at q
      refine iteT ⟨_, rfl, a, CF, dx, fs, _, rfl, e, KC.cl, T.n3, l3, _, rfl, b, CF, dy, gs, _, rfl, e', KC.cl, T.n3, m3, _, _, d1, c1, k.sr, k'.sr, _, rfl, ?_⟩
      cases h3 : PyData.eqv F.d.res G.d.res with
      | false => rw [h3] at q; exact iteF q
      | true =>
      rw [h3] at q
      refine iteT ⟨_, rfl, a, CF, dx, fs, _, rfl, e, KC.cl, T.n4, l5, _, rfl, b, CF, dy, gs, _, rfl, e', KC.cl, T.n4, m5, la, lb, dxa, dxb, fsa, fsb, rfl, rfl, ela, elb, la, F.lab, .ref lb, rfl, la1, .inl ⟨lb, G.lab, rfl, lb1, _, rfl, ?_⟩⟩
      cases h4 : decide (F.lab = G.lab) with
      | false => rw [h4] at q; exact iteF q
      | true =>
      rw [h4] at q
      refine iteT ⟨_, rfl, a, CF, dx, fs, _, rfl, e, KC.cl, T.n5, l4, _, rfl, b, CF, dy, gs, _, rfl, e', KC.cl, T.n5, m4, _, _, d2, c2, k.sw, k'.sw, _, rfl, ?_⟩
      cases h5 : PyData.eqv (.tuple F.d.ws) (.tuple G.d.ws) with
      | false => rw [h5] at q; exact iteF q
      | true =>
      rw [h5] at q
      refine iteT ⟨_, rfl, a, CF, dx, fs, _, rfl, e, KC.cl, T.n6, l6, _, rfl, b, CF, dy, gs, _, rfl, e', KC.cl, T.n6, m6, rfl, ?_⟩
      rw [ei]
      exact q
    · exact ⟨_, rfl, _, _, _, _, _, rfl, .own CF, .base (.str z2), KC.no (.str z2), _, rfl, iteF q⟩
end
/-! ### the law's names -/
abbrev sLNames : Stmt := topS 69
theorem scLNames : FnScope ["_law_pool_here", "_law_count", "_law_signs", "_law_origin", "_law_step", "_law_ends", "_law_head", "_law_tail", "_law_k"] ["_law_pool_here", "_law_count"] (defScope sLNames) := ⟨rfl, rfl, rfl, by decide +kernel, rfl, by decide +kernel, by decide +kernel⟩
theorem low_at : ∀ i : Nat, i < 26 → ∃ c, (Str.ofString "abcdefghijklmnopqrstuvwxyz").cps.toList[i]? = some c ∧ lowCode c = true ∧ c = 97 + i := by
  have h : ∀ i : Nat, i < 26 → ((Str.ofString "abcdefghijklmnopqrstuvwxyz").cps.toList[i]?).any (fun c => lowCode c && decide (c = 97 + i)) = true := by decide +kernel
  intro i hi
  have h1 := h i hi
  cases e : (Str.ofString "abcdefghijklmnopqrstuvwxyz").cps.toList[i]? with
  | none =>
    rw [e] at h1
    cases h1
  | some c =>
    rw [e] at h1
    have h2 : (lowCode c && decide (c = 97 + i)) = true := h1
    rw [Bool.and_eq_true] at h2
    exact ⟨c, rfl, h2.1, of_decide_eq_true h2.2⟩
theorem name_of {h t : Str} {c : Nat} (hh : h.cps.toList.all lowCode = true) (ht : t.cps.toList.all lowCode = true) (hc : lowCode c = true) (hl : h.length + t.length ≤ 7) : isName (.str (h ++ ⟨#[c]⟩ ++ t)) = true := by
  have e1 : (h ++ (⟨#[c]⟩ : Str) ++ t).cps = h.cps ++ #[c] ++ t.cps := rfl
  have e2 : (h ++ (⟨#[c]⟩ : Str) ++ t).length = h.length + 1 + t.length := by
    show (h ++ (⟨#[c]⟩ : Str) ++ t).cps.size = h.cps.size + 1 + t.cps.size
    rw [e1, Array.size_append, Array.size_append]
    rfl
  show (decide (1 ≤ ((h ++ (⟨#[c]⟩ : Str) ++ t).length : Int)) && decide (((h ++ (⟨#[c]⟩ : Str) ++ t).length : Int) ≤ 8) && (h ++ (⟨#[c]⟩ : Str) ++ t).cps.toList.all lowCode) = true
  rw [e2, decide_eq_true (by omega), decide_eq_true (by omega), e1, Array.toList_append, Array.toList_append, List.all_append, List.all_append, hh, ht]
  show (true && true && (true && (lowCode c && true) && true)) = true
  rw [hc]
  rfl
theorem len_of {h t : Str} {c : Nat} : (h ++ (⟨#[c]⟩ : Str) ++ t).length = h.length + 1 + t.length := by
  show (h ++ (⟨#[c]⟩ : Str) ++ t).cps.size = h.cps.size + 1 + t.cps.size
  rw [show (h ++ (⟨#[c]⟩ : Str) ++ t).cps = h.cps ++ #[c] ++ t.cps from rfl, Array.size_append, Array.size_append]
  rfl
theorem but_sameN {p : Addr} {H H1 H2 : Hp} (b : But p H H1) (s : Same H1 H2) : But p H H2 := b.trans (But.of s)
theorem dpT {K : PySem.W.Frag} {H : Hp} {t : Addr} {xs : List V} {ds : List PyData} (n : H t = none) (h : DpAll K H xs ds) : Dp K (upd H t (.tup xs)) (.ref t) (.tuple ds) := .tup (.inl (.inl upd_same)) (dpA_same (same_upd n) h)
theorem sign_inj {h tl : Str} {c d : Nat} (e : h ++ (⟨#[c]⟩ : Str) ++ tl = h ++ (⟨#[d]⟩ : Str) ++ tl) : c = d := by
  have e1 : (h.cps ++ #[c] ++ tl.cps) = (h.cps ++ #[d] ++ tl.cps) := congrArg Str.cps e
  have e2 := congrArg Array.toList e1
  rw [Array.toList_append, Array.toList_append, Array.toList_append, Array.toList_append] at e2
  have e3 := List.append_cancel_left (List.append_cancel_right e2)
  exact (List.cons.inj e3).1
theorem signs_nodup {h tl : Str} {o z : Int} (z0 : 0 ≤ z) (z1 : z < 6) {zs : List Str} (hl : zs.length ≤ 8) (hs : ∀ (m : Nat) (u : Str), zs[m]? = some u → u = h ++ (⟨#[97 + ((o + (1 + 2 * z) * (m : Int)) % 26).toNat]⟩ : Str) ++ tl) : zs.Nodup := by
  refine List.pairwise_iff_getElem.mpr fun i j hi hj lt e => ?_
  have e1 := hs i _ (List.getElem?_eq_getElem hi)
  have e2 := hs j _ (List.getElem?_eq_getElem hj)
  rw [e1, e2] at e
  have e3 := sign_inj e
  rcases (show z = 0 ∨ z = 1 ∨ z = 2 ∨ z = 3 ∨ z = 4 ∨ z = 5 by omega) with q | q | q | q | q | q <;> subst q <;> omega
def spLNames (K : PySem.W.Frag) : Sp := fun vs H Q _ => ∃ (p : Addr) (cn : Nat), vs = [.ref p, .int cn] ∧ cn ≤ 8 ∧ PoolAt H p ∧ ∀ (r : Addr) (zs : List Str) H', But p H H' → PoolAt H' p → H' r = some (.lst (zs.map V.str)) → zs.length = cn → (∀ z ∈ zs, isName (.str z) = true) → zs.Nodup → (∀ z ∈ zs, z.length ≤ 4 ∨ z.length = 8) → Q (.ref r) H'
def endsD : List PyData := [.tuple [.str "", .str ""], .tuple [.str "", .str "q"], .tuple [.str "ab", .str ""], .tuple [.str "abcdefg", .str ""], .tuple [.str "", .str "abcdefg"]]
theorem ends_are : ∀ {i : Nat} {d : PyData}, endsD[i]? = some d → ∃ h t : Str, d = .tuple [.str h, .str t] ∧ h.cps.toList.all lowCode = true ∧ t.cps.toList.all lowCode = true ∧ h.length + t.length ≤ 7 ∧ (h.length + t.length ≤ 3 ∨ h.length + t.length = 7)
  | 0, _, e => ⟨_, _, (Option.some.inj e).symm, by decide +kernel, by decide +kernel, by decide +kernel, by decide +kernel⟩
  | 1, _, e => ⟨_, _, (Option.some.inj e).symm, by decide +kernel, by decide +kernel, by decide +kernel, by decide +kernel⟩
  | 2, _, e => ⟨_, _, (Option.some.inj e).symm, by decide +kernel, by decide +kernel, by decide +kernel, by decide +kernel⟩
  | 3, _, e => ⟨_, _, (Option.some.inj e).symm, by decide +kernel, by decide +kernel, by decide +kernel, by decide +kernel⟩
  | 4, _, e => ⟨_, _, (Option.some.inj e).symm, by decide +kernel, by decide +kernel, by decide +kernel, by decide +kernel⟩
  | n + 5, _, e => nomatch e
section
variable {P : Program} {w : World} {K : PySem.W.Frag} {mg : Str → Option Value} {base : Heap}
theorem ok_lnames {f fD fP : Addr} {fd dD dP : FuncData} (F : Fun K "_law_names" "_law_names" sLNames f fd) (M : Blt mg)
    (FD : Fun K "_law_draw" "_law_draw" sDraw fD dD) (bD : Binds K dD ["_law_pool_here", "_law_many"] []) (gD : mg "_law_draw" = some (.ref fD))
    (FP : Fun K "_law_pick" "_law_pick" sPick fP dP) (bP : Binds K dP ["_law_pool_here", "_law_row"] []) (gP : mg "_law_pick" = some (.ref fP)) :
    FnOk P w K mg base CX0 3 f fd ["_law_pool_here", "_law_count"] (spLNames K) := by
  have GD : FnOk P w K mg base CX0 1 fD dD ["_law_pool_here", "_law_many"] spDraw := ok_draw FD M
  have GP : FnOk P w K mg base CX0 2 fP dP ["_law_pool_here", "_law_row"] (spPick K) := ok_pick FP M FD bD gD
  refine F.ok scLNames (fun vs H Q E h => ?_) (fun cdv A outer s H vs Q E hr h => ?_)
  · obtain ⟨p, cn, rfl, _⟩ := h
    rfl
  · obtain ⟨p, cn, rfl, hc8, hp, q⟩ := h
    have hr1 : Room 1 _ := hr.mono (by omega)
    refine ⟨_, pss_cons (ps_set (i := 2) scLNames.nd rfl (.inr rfl) pe_str)
      (pss_cons (ps_asg (pe_tup (pa_cons (pe_call GD hr1 (by rfl) gD FD.kp bD .nil pass0 (pa_cons (pv 0) (pa_cons pe_int pa_nil)))
          (pa_cons (pe_op op_add pe_int (pe_op op_mul pe_int (pe_call GD hr1 (by rfl) gD FD.kp bD .nil pass0 (pa_cons (pv 0) (pa_cons pe_int pa_nil))))) pa_nil)))
          (pg_tup (by rfl) (pgs_cons (pg_name (i := 3) scLNames.nd rfl (.inr rfl)) (pgs_cons (pg_name (i := 4) scLNames.nd rfl (.inr rfl)) pgs_nil))))
      (pss_cons (ps_set (i := 5) scLNames.nd rfl (.inl rfl) (pe_lst (pa_cons (pe_tup (pa_cons pe_str (pa_cons pe_str pa_nil))) (pa_cons (pe_tup (pa_cons pe_str (pa_cons pe_str pa_nil))) (pa_cons (pe_tup (pa_cons pe_str (pa_cons pe_str pa_nil)))
          (pa_cons (pe_tup (pa_cons pe_str (pa_cons pe_str pa_nil))) (pa_cons (pe_tup (pa_cons pe_str (pa_cons pe_str pa_nil))) pa_nil)))))))
      (pss_cons (ps_asg (pe_call GP hr (by rfl) gP FP.kp bP .nil pass0 (pa_cons (pv 0) (pa_cons (pv 5) pa_nil)))
          (pg_tup (by rfl) (pgs_cons (pg_name (i := 6) scLNames.nd rfl (.inr rfl)) (pgs_cons (pg_name (i := 7) scLNames.nd rfl (.inr rfl)) pgs_nil))))
      (pss_one (ps_ret (pe_lc (own := [("_law_k", 8)]) (g := gName 8) (by rfl) scLNames.nd (pi_range1 (by rfl) M.range (pa_cons (pv 1) pa_nil)) (blkOk_by (own := [("_law_k", 8)]) (N := ["_law_pool_here", "_law_count", "_law_signs", "_law_origin", "_law_step", "_law_ends", "_law_head", "_law_tail", "_law_k"]) (sc := defScope sLNames) (by decide +kernel))
          (fun _ _ _ _ _ => pg_name (i := 8) scLNames.nd rfl (Or.inl rfl)) (fun _ _ _ _ _ => pts_nil)
          (fun _ _ _ _ _ => pe_op op_add_str (pe_op op_add_str (pv 6) (pe_ix ix_str (pv 2) (pe_op op_mod (pe_callTy call_int1 (by rfl) M.int (by decide +kernel) (pa_cons (pe_op op_add (pv 3) (pe_op op_mul (pv 4) (pv 8))) pa_nil)) pe_int) (fun _ _ => rfl))) (pv 7)))))))), ?_⟩
    refine q_c (i := 2) (v := .str "abcdefghijklmnopqrstuvwxyz") ?_
    dsimp only [List.set]
    refine ⟨.ref p, rfl, p, 26, rfl, hp, by omega, by omega, fun o H1 o0 o1 b1 hp1 fr1 => ?_⟩
    refine ⟨.ref p, rfl, p, 6, rfl, hp1, by omega, by omega, fun z H2 z0 z1 b2 hp2 fr2 => ?_⟩
    refine ⟨_, _, rfl, rfl, .inl ⟨by decide, by decide⟩, _, _, rfl, rfl, (by show 2 ≤ sizeLine; decide), fun t nt => ?_⟩
    refine ⟨t, _, rfl, .inl (.inl upd_same), rfl, _, _, rfl, _, _, rfl, rfl, ?_⟩
    have st : Same H2 (upd H2 t (.tup [.int o, .int (1 + 2 * z)])) := same_upd nt
    have b3 := but_sameN (b1.trans b2) st
    have hp3 := hp2.same st
    generalize upd H2 t (.tup [.int o, .int (1 + 2 * z)]) = H3 at b3 hp3
    refine ⟨(by show 2 ≤ sizeLine; decide), fun t1 m1 => ⟨(by show 2 ≤ sizeLine; decide), fun t2 m2 => ⟨(by show 2 ≤ sizeLine; decide), fun t3 m3 => ⟨(by show 2 ≤ sizeLine; decide), fun t4 m4 => ⟨(by show 2 ≤ sizeLine; decide), fun t5 m5 => ⟨(by show 5 ≤ sizeLine; decide), fun l ml => ?_⟩⟩⟩⟩⟩⟩
    have k2 := same_upd (o := .tup [.str "", .str "q"]) m2
    have k3 := same_upd (o := .tup [.str "ab", .str ""]) m3
    have k4 := same_upd (o := .tup [.str "abcdefg", .str ""]) m4
    have k5 := same_upd (o := .tup [.str "", .str "abcdefg"]) m5
    have k1 := same_upd (o := .tup [.str "", .str ""]) m1
    have kl := same_upd (o := .lst [.ref t1, .ref t2, .ref t3, .ref t4, .ref t5]) ml
    have two : ∀ (H : Hp) (a b : Str), DpAll K H [.str a, .str b] [.str a, .str b] := fun H a b => .cons (.str a) (.cons (.str b) .nil)
    have hA : DpAll K _ [.ref t1, .ref t2, .ref t3, .ref t4, .ref t5] endsD := dpA_same kl (.cons (dp_same (k2.trans (k3.trans (k4.trans k5))) (dpT m1 (two _ _ _))) (.cons (dp_same (k3.trans (k4.trans k5)) (dpT m2 (two _ _ _))) (.cons (dp_same (k4.trans k5) (dpT m3 (two _ _ _))) (.cons (dp_same k5 (dpT m4 (two _ _ _))) (.cons (dpT m5 (two _ _ _)) .nil)))))
    have s4 := k1.trans (k2.trans (k3.trans (k4.trans (k5.trans kl))))
    have el : (upd (upd (upd (upd (upd (upd H3 t1 (.tup [.str "", .str ""])) t2 (.tup [.str "", .str "q"])) t3 (.tup [.str "ab", .str ""])) t4 (.tup [.str "abcdefg", .str ""])) t5 (.tup [.str "", .str "abcdefg"])) l (.lst [.ref t1, .ref t2, .ref t3, .ref t4, .ref t5])) l = some (.lst [.ref t1, .ref t2, .ref t3, .ref t4, .ref t5]) := upd_same
    have npl : p ≠ l := (((((hp3.upd m1).upd m2).upd m3).upd m4).upd m5).ne ml
    generalize upd (upd (upd (upd (upd (upd H3 t1 (.tup [.str "", .str ""])) t2 (.tup [.str "", .str "q"])) t3 (.tup [.str "ab", .str ""])) t4 (.tup [.str "abcdefg", .str ""])) t5 (.tup [.str "", .str "abcdefg"])) l (.lst [.ref t1, .ref t2, .ref t3, .ref t4, .ref t5]) = H4 at hA s4 el
    have b4 := but_sameN b3 s4
    have hp4 := hp3.same s4
    refine ⟨.ref p, rfl, .ref l, rfl, p, l, _, rfl, hp4, npl, .inl (.inl (.inl el)), Nat.le_of_ble_eq_true rfl, Nat.le_of_ble_eq_true rfl, fun i hi H5 b5 hp5 fr5 => ?_⟩
    obtain ⟨de, hde, dv⟩ := dpA_at hA (List.getElem?_eq_getElem hi)
    obtain ⟨h, tl, rfl, lowh, lowt, hlen, hlen2⟩ := ends_are hde
    generalize [V.ref t1, .ref t2, .ref t3, .ref t4, .ref t5][i] = vv at dv
    cases dv with
    | @tup a ys _ hs ha =>
      cases ha with
      | cons h1 h2 =>
        cases h1
        cases h2 with
        | cons h3 h4 =>
          cases h3
          cases h4
          obtain ⟨px, py, pe, _⟩ := hp4
          refine ⟨a, _, rfl, but_sqT pe b5 hs, rfl, _, _, rfl, _, _, rfl, rfl, ?_⟩
          refine ⟨_, rfl, (cn : Int), rfl, by omega, by omega, fun D hD => ?_⟩
          refine walk_gen (walk_range (lo := 0) (n := (cn : Int).toNat)) (fun i H' => Same H5 H' ∧ ∃ zs : List Str, H' D = some (.lst (zs.map V.str)) ∧ zs.length = i ∧ (∀ z ∈ zs, isName (.str z) = true) ∧ ∀ (m : Nat) (u : Str), zs[m]? = some u → u = h ++ (⟨#[97 + ((o + (1 + 2 * z) * (m : Int)) % 26).toNat]⟩ : Str) ++ tl) ⟨same_upd hD, [], upd_same, rfl, (fun z h => by cases h), fun m u e => by simp at e⟩ (fun _ _ _ _ => True.intro) (fun i' x H6 H7 hi' pv' y => ?_) (fun H' pv' => ?_)
          · obtain ⟨s6, zs, e6, l6, a6, f6⟩ := pv'
            obtain ⟨rfl, rfl⟩ := y
            refine And.intro rfl ?_
            unfold tYes
            refine iteT ?_
            generalize hv : (o + (1 + 2 * z) * (0 + (i' : Int))) = vv
            have h1 := Int.emod_lt_of_pos vv (show (0 : Int) < 26 by decide)
            have h2 := Int.emod_nonneg vv (show (26 : Int) ≠ 0 by decide)
            obtain ⟨c, hc, lc, c97⟩ := low_at (vv % 26).toNat (by omega)
            have hat : atI (Str.ofString "abcdefghijklmnopqrstuvwxyz").cps.toList (vv % 26) = some c := by
              unfold atI ixN
              rw [if_pos h2, if_pos (show vv % 26 < (((Str.ofString "abcdefghijklmnopqrstuvwxyz").cps.toList.length : Nat) : Int) from h1)]
              exact hc
            refine ⟨_, rfl, _, rfl, _, rfl, _, rfl, _, rfl, _, _, rfl, rfl, .inl ⟨by omega, by omega⟩, _, _, rfl, rfl, .inl ⟨_, rfl, _, _, rfl, rfl, (by show (0 : Int) < 26; decide), ?_⟩⟩
            rw [hv]
            have hl1 : h.length + (⟨#[c]⟩ : Str).length ≤ sizeLine := Nat.le_trans (show h.length + 1 ≤ 8 by omega) (by decide)
            have hl2 : (h ++ (⟨#[c]⟩ : Str)).length + tl.length ≤ sizeLine := by
              have e2 : (h ++ (⟨#[c]⟩ : Str)).length = h.length + 1 := by
                show (h.cps ++ #[c]).size = h.cps.size + 1
                rw [Array.size_append]
                rfl
              rw [e2]
              exact Nat.le_trans (show h.length + 1 + tl.length ≤ 8 by omega) (by decide)
            refine ⟨_, _, c, rfl, rfl, (by decide +kernel), hat, _, _, rfl, rfl, hl1, _, rfl, _, _, rfl, rfl, hl2, zs.map V.str, e6, ?_, fun b o' e' => ?_, zs ++ [h ++ (⟨#[c]⟩ : Str) ++ tl], ?_, ?_, (fun u hu => ?_), fun m u em => ?_⟩
            · rw [List.length_map, l6]
              exact Nat.lt_of_le_of_lt (show i' ≤ 8 by omega) (by decide)
            · rw [upd_ne (ne_of_none e' hD)]
              exact s6 _ _ e'
            · rw [upd_same, List.map_append]
              rfl
            · rw [List.length_append, l6]
              rfl
            · rcases List.mem_append.mp hu with hu | hu
              · exact a6 u hu
              · rw [List.mem_singleton.mp hu]
                exact name_of lowh lowt lc hlen
            · by_cases hm : m < zs.length
              · rw [List.getElem?_append_left hm] at em
                exact f6 m u em
              · have hm2 : m = zs.length := by
                  have := (List.getElem?_eq_some_iff.mp em).1
                  rw [List.length_append] at this
                  simp at this
                  omega
                rw [hm2, List.getElem?_append_right (Nat.le_refl _), Nat.sub_self] at em
                have e2 := Option.some.inj em
                subst e2
                rw [hm2, l6, c97]
                rw [Int.zero_add] at hv
                rw [hv]
          · obtain ⟨s6, zs, e6, l6, a6, f6⟩ := pv'
            exact q D zs H' (but_sameN (b4.trans b5) s6) (hp5.same s6) e6 (by rw [l6]; rfl) a6 (signs_nodup z0 z1 (by omega) f6) (fun u hu => by
              obtain ⟨m, em⟩ := List.getElem?_of_mem hu
              rw [f6 m u em, len_of]
              omega)
end
/-! ### the law's terms, drawn over any drawn book -/
/-- what a drawn book tells: cells with their kinds, functions with their numbers of arguments -/
structure LB where
  cells : List (Str × Str)
  fns : List (Str × Nat)
structure LOk (L : LB) : Prop where
  c : ∀ x ∈ L.cells, isName (.str x.1) = true ∧ x.2 ∈ (["frozen", "setting", "table"] : List Str)
  f : ∀ x ∈ L.fns, isName (.str x.1) = true ∧ x.2 ≤ 2
  lc : L.cells.length ≤ 8
  lf : L.fns.length ≤ 8
/-- a term over this book, of so many arguments -/
inductive GdL (L : LB) (n : Int) : Nat → PyData → Prop
  | val {f : Nat} {i : Int} : 0 ≤ i → i < 3 → GdL L n (f + 1) (.int i)
  | arg {f : Nat} {i : Int} : 0 ≤ i → i < n → GdL L n (f + 1) (.tuple [.str "arg", .int i])
  | cell {f : Nat} {x k : Str} : (x, k) ∈ L.cells → GdL L n (f + 1) (.tuple [.str "cell", .str x])
  | tick {f : Nat} : GdL L n (f + 1) (.tuple [.str "tick"])
  | call {f : Nat} {x : Str} {ts : List PyData} : (x, ts.length) ∈ L.fns → (∀ t ∈ ts, GdL L n f t) → GdL L n (f + 1) (.tuple [.str "call", .str x, .tuple ts])
  | op {f : Nat} {z : Str} {ts : List PyData} : (z = "if" ∧ ts.length = 3) ∨ (bin z ∧ ts.length = 2) → (∀ t ∈ ts, GdL L n f t) → GdL L n (f + 1) (.tuple (.str z :: ts))
theorem gdl_gd {L : LB} (o : LOk L) {n : Int} : ∀ (f : Nat) (d : PyData), GdL L n f d → Gd n f d
  | 0, _, h => nomatch h
  | f + 1, d, h => by
    cases h with
    | val a b => exact .val a b
    | arg a b => exact .arg a b
    | cell a => exact .cell (o.c _ a).1
    | tick => exact .tick
    | call a c => exact .call (o.f _ a).1 (o.f _ a).2 fun t ht => gdl_gd o f t (c t ht)
    | op a c => exact .op a fun t ht => gdl_gd o f t (c t ht)
theorem gdl_mono {L : LB} {n : Int} : ∀ (f f' : Nat) (d : PyData), GdL L n f d → f ≤ f' → GdL L n f' d
  | 0, _, _, h, _ => nomatch h
  | f + 1, 0, _, _, h => absurd h (Nat.not_succ_le_zero f)
  | f + 1, f' + 1, d, h, hf => by
    cases h with
    | val a b => exact .val a b
    | arg a b => exact .arg a b
    | cell a => exact .cell a
    | tick => exact .tick
    | call a c => exact .call a fun t ht => gdl_mono f f' t (c t ht) (by omega)
    | op a c => exact .op a fun t ht => gdl_mono f f' t (c t ht) (by omega)
theorem q_seqR {ta tz : TS} {D : Ends} {σ : L2.St} {H : Hp} (Pr : L2.St → Hp → Prop) (h : ∀ nx, (∀ σ' H', Pr σ' H' → nx σ' H') → ta { D with nx := nx } σ H) (k : ∀ σ' H', Pr σ' H' → tz D σ' H') : tSeq ta tz D σ H := h _ k
abbrev sLTerm : Stmt := topS 70
theorem scLTerm : FnScope ["_law_pool_here", "_law_b", "_law_many", "_law_deep", "_law_kind", "_law_f", "_law_head", "_law_at"] ["_law_pool_here", "_law_b", "_law_many", "_law_deep"] (defScope sLTerm) := ⟨rfl, rfl, rfl, by decide +kernel, rfl, by decide +kernel, by decide +kernel⟩
def rNeLen (K : PySem.W.Frag) : R2 := fun x y H Q => ∃ a b xs ys, x = .ref a ∧ y = .ref b ∧ SqL K H a xs ∧ SqL K H b ys ∧ xs.length ≠ ys.length ∧ Q (.bl true) H
theorem op_neLen {X : Cx} (few : X.A.units + 64 < cLine) : OpR X (compareOp .NotEq) (rNeLen X.K) := by
  rintro pins st σ H one other v1 v2 Q inv rel1 rel2 ⟨a1, a2, l1, l2, rfl, rfl, s1, s2, unlike, goal⟩
  obtain rfl : v1 = Value.ref a1 := rel1
  obtain rfl : v2 = Value.ref a2 := rel2
  have f1 := inv.list s1
  have f2 := inv.list s2
  rcases f1 with ⟨w1, vals1, is1, -⟩
  rcases f2 with ⟨w2, vals2, is2, -⟩
  have sizes : (w1.toArray.size != w2.toArray.size) = true := by
    have n1 : w1.toArray.size = l1.length := List.size_toArray.trans vals1.length.symm
    have n2 : w2.toArray.size = l2.length := List.size_toArray.trans vals2.length.symm
    rw [n1, n2]
    simpa using unlike
  exact SeqAt.RcNeAt.lists_lengths is1.isList is2.isList sizes (by omega) _ _ _ _ ⟨V.bl true, H, inv, rfl, goal⟩
theorem in_twoI (k a b : Int) : inV (.int k) [.int a, .int b] = decide (k = a ∨ k = b) := by
  show ((a == k) || ((b == k) || false)) = _
  rw [Bool.or_false, Bool.eq_iff_iff, Bool.or_eq_true, decide_eq_true_eq, beq_iff_eq, beq_iff_eq]
  exact ⟨fun h => h.imp Eq.symm Eq.symm, fun h => h.imp Eq.symm Eq.symm⟩
def CellT (K : PySem.W.Frag) (H : Hp) (v : V) (x : Str × Str) : Prop := ∃ t, v = .ref t ∧ SqT K H t [.str x.1, .str x.2]
def FnD (H : Hp) (v : V) (x : Str × Nat) : Prop := ∃ g kvs, v = .ref g ∧ H g = some (.dK kvs) ∧ valV kvs (.inr "name" : Key) = some (.str x.1) ∧ valV kvs (.inr "many" : Key) = some (.int (x.2 : Nat))
def Rows {α : Type} (R : V → α → Prop) (xs : List V) (cs : List α) : Prop := xs.length = cs.length ∧ ∀ (i : Nat) x c, xs[i]? = some x → cs[i]? = some c → R x c
theorem Rows.mono {α : Type} {R R' : V → α → Prop} {xs : List V} {cs : List α} (h : Rows R xs cs) (k : ∀ x c, R x c → R' x c) : Rows R' xs cs := ⟨h.1, fun i x c a b => k x c (h.2 i x c a b)⟩
theorem Rows.at {α : Type} {R : V → α → Prop} {xs : List V} {cs : List α} (h : Rows R xs cs) {i : Nat} (hi : i < xs.length) : ∃ c, c ∈ cs ∧ R xs[i] c := by
  have hj : i < cs.length := h.1 ▸ hi
  exact ⟨cs[i], List.getElem_mem hj, h.2 i _ _ (List.getElem?_eq_getElem hi) (List.getElem?_eq_getElem hj)⟩
/-- the drawn book stands at b -/
def LBk (K : PySem.W.Frag) (L : LB) (H : Hp) (b : Addr) : Prop := ∃ c f ts gs, H b = some (.dK [(.inr "cells", .ref c), (.inr "functions", .ref f)]) ∧ H c = some (.lst ts) ∧ H f = some (.lst gs) ∧ Rows (CellT K H) ts L.cells ∧ Rows (FnD H) gs L.fns
theorem LBk.but {K : PySem.W.Frag} {L : LB} {H H' : Hp} {b p : Addr} (h : LBk K L H b) (hp : PoolAt H p) (bt : But p H H') : LBk K L H' b := by
  obtain ⟨c, f, ts, gs, e0, e1, e4, r1, r2⟩ := h
  obtain ⟨x, y, ep, _⟩ := hp
  have nc : c ≠ p := fun q => by
    rw [q, ep] at e1
    cases e1
    obtain ⟨d, _, t, e, _⟩ := r1.at (i := 0) (by show 0 < 2; decide)
    cases e
  have nf : f ≠ p := fun q => by
    rw [q, ep] at e4
    cases e4
    obtain ⟨d, _, t, _, e, _⟩ := r2.at (i := 0) (by show 0 < 2; decide)
    cases e
  refine ⟨c, f, ts, gs, bt _ _ e0 (ne_of e0 ep (fun z => nomatch z)), bt _ _ e1 nc, bt _ _ e4 nf, r1.mono fun v d h => ?_, r2.mono fun v d h => ?_⟩
  · obtain ⟨t, e, h⟩ := h
    exact ⟨t, e, but_sqT ep bt h⟩
  · obtain ⟨g, kvs, e, h, h1, h2⟩ := h
    exact ⟨g, kvs, e, bt _ _ h (ne_of h ep (fun z => nomatch z)), h1, h2⟩
theorem dg {H : Hp} {r : Addr} {kv : List (Key × V)} (e : H r = some (.dK kv)) (z : Str) {v : V} (h : valV kv (.inr z) = some v) : DGet H r (.str z) (some v) := .inl ⟨kv, .inr z, .inl e, rfl, h.symm⟩
/-- the cells as data -/
def cellsD (L : LB) : List PyData := L.cells.map fun x => .tuple [.str x.1, .str x.2]
theorem cells_dp {K : PySem.W.Frag} {H : Hp} : ∀ {ts : List V} {cs : List (Str × Str)}, Rows (CellT K H) ts cs → DpAll K H ts (cs.map fun x => .tuple [.str x.1, .str x.2])
  | [], [], _ => .nil
  | [], _ :: _, h => absurd h.1 (by simp)
  | _ :: _, [], h => absurd h.1 (by simp)
  | v :: ts, x :: cs, h => by
    obtain ⟨t, rfl, ht⟩ := h.2 0 v x rfl rfl
    exact .cons (.tup ht (.cons (.str _) (.cons (.str _) .nil))) (cells_dp ⟨Nat.succ.inj h.1, fun i y d e1 e2 => h.2 (i + 1) y d e1 e2⟩)
theorem cells_shaped {L : LB} (o : LOk L) : SeqAt.shaped (.list (cellsD L)) = true := by
  have one : ∀ d ∈ cellsD L, d.canLay0 = true ∧ d.depth ≤ 1 := fun d hd => by
    obtain ⟨x, hx, rfl⟩ := List.mem_map.mp hd
    obtain ⟨h1, h2⟩ := o.c x hx
    have k : PyData.strOk x.2 = true := by
      simp only [List.mem_cons, List.not_mem_nil, or_false] at h2
      rcases h2 with e | e | e <;> rw [e] <;> decide +kernel
    refine ⟨?_, ?_⟩
    · show (PyData.strOk x.1 && (PyData.strOk x.2 && true)) = true
      rw [name_ok h1, k]
      rfl
    · show max 0 (max 0 0) + 1 ≤ 1
      decide
  refine Bool.and_eq_true_iff.mpr ⟨canLay_of fun t h => (one t h).1, decide_eq_true ?_⟩
  show PyData.depthAll (cellsD L) + 1 ≤ 64
  have := depth_of (m := 1) (ts := cellsD L) fun t h => (one t h).2
  omega
/-- != against an empty list -/
def rNeNil (K : PySem.W.Frag) : R2 := fun x y H Q => ∃ a b xs, x = .ref a ∧ y = .ref b ∧ SqL K H a xs ∧ SqL K H b [] ∧ Q (.bl (!xs.isEmpty)) H
theorem op_neNil {X : Cx} (few : X.A.units + 64 < cLine) : OpR X (compareOp .NotEq) (rNeNil X.K) := by
  intro pins st σ H one other v1 v2 Q inv rel1 rel2 h
  obtain ⟨a1, a2, l1, rfl, rfl, s1, s2, goal⟩ := h
  cases l1 with
  | nil => exact op_neD few pins st σ H _ _ v1 v2 Q inv rel1 rel2 ⟨.list [], .list [], .lst s1 .nil, .lst s2 .nil, by decide +kernel, by decide +kernel, by rw [show PyData.eqv (.list []) (.list []) = true from SeqAt.eqv_refl _ (by decide +kernel)]; exact goal⟩
  | cons x r => exact op_neLen few pins st σ H _ _ v1 v2 Q inv rel1 rel2 ⟨a1, a2, x :: r, [], rfl, rfl, s1, s2, by simp, goal⟩
/-- a comprehension of terms drawn -/
theorem lc_terms {K : PySem.W.Frag} {p : Addr} {L : LB} (ok : LOk L) {n : Int} {f : Nat} {J : It} {cnt : Nat} {Y : Nat → Hp → V → Hp → Prop} (w : Walk J cnt (fun _ => True) Y) {j : Nat} {te : TE} {vs : List Nat} {σ : L2.St} {H1 : Hp} {D : Addr} {Qd : Hp → Prop} (hz : cnt ≤ 1000)
    (hD : H1 D = none) (hp : PoolAt H1 p) (hw : ∀ x, wipe ((wipe σ vs).set j (some x)) vs = wipe σ vs)
    (he : ∀ i x H H', i < cnt → But p H1 H → PoolAt H p → Y i H x H' → H' = H ∧ ∀ Q : VK, (∀ v d H2, But p H H2 → PoolAt H2 p → Dp K H2 v d → GdL L n f d → Q v H2) → te ((wipe σ vs).set j (some x)) H Q)
    (hd : ∀ ys ts H, But p H1 H → PoolAt H p → H D = some (.lst ys) → DpAll K H ys ts → ts.length = cnt → (∀ t ∈ ts, GdL L n f t) → Qd H)  :
    Turns J (upd H1 D (.lst [])) Qd (LcBody D te vs j σ) := by
  have npD : D ≠ p := (hp.ne hD).symm
  refine lc_it w (fun i H => But p H1 H ∧ PoolAt H p ∧ ∃ ys ts, H D = some (.lst ys) ∧ DpAll K H ys ts ∧ ts.length = i ∧ ∀ t ∈ ts, GdL L n f t) ⟨But.of (same_upd hD), hp.upd hD, [], [], upd_same, .nil, rfl, fun v e => by cases e⟩ (fun i H _ p => True.intro) (fun i x H H' hi q y => ?_) (fun H q => ?_)
  · obtain ⟨s1, h1, ys, ts, e1, ea, el, er⟩ := q
    obtain ⟨rfl, k⟩ := he i x H H' hi s1 h1 y
    refine And.intro (hw x) ?_
    unfold tYes
    refine iteT ?_
    refine k _ fun v d H2 s3 h3 dv gd => ⟨ys, s3 _ _ e1 npD, ?_, fun b o e nb => ?_, ?_, ys ++ [v], ts ++ [d], upd_same, ?_, ?_, fun u hu => ?_⟩
    · exact Nat.lt_of_le_of_lt (show ys.length ≤ 1000 by rw [dpA_len ea]; omega) (by decide)
    · have hb : b ≠ D := ne_of_none e hD
      rw [upd_ne hb]
      exact s3 _ _ (s1 _ _ e nb) nb
    · obtain ⟨x, y, e, r⟩ := h3
      exact ⟨x, y, by rw [upd_ne npD.symm]; exact e, r⟩
    · have nl : noLs ts = true := noLs_of fun t ht => gd_nl f t (gdl_gd ok f t (er t ht))
      have e2 := s3 _ _ e1 npD
      obtain ⟨px, py, pe, _⟩ := h1
      have a1 : DpAll K H2 ys ts := dpAll_tups (fun _ _ => but_sqT pe s3) ts ys nl ea
      exact dpA_app (dpAll_tups (fun _ _ => but_sqT e2 But.upd) ts ys nl a1) (.cons (dp_tups (fun _ _ => but_sqT e2 But.upd) d v (gd_nl f d (gdl_gd ok f d gd)) dv) .nil)
    · rw [List.length_append, el]
      rfl
    · rcases List.mem_append.mp hu with hu | hu
      · exact er u hu
      · rw [List.mem_singleton.mp hu]
        exact gd
  · obtain ⟨s1, h1, ys, ts, e1, ea, el, er⟩ := q
    exact hd ys ts H s1 h1 e1 ea el er
def spLTerm (K : PySem.W.Frag) (m : Nat) : Sp := fun vs H Q _ => ∃ (L : LB) (p b : Addr) (n : Int) (deep : Nat), LOk L ∧ vs = [.ref p, .ref b, .int n, .int deep] ∧ PoolAt H p ∧ LBk K L H b ∧ 0 ≤ n ∧ n ≤ 2 ∧ deep < m ∧
  ∀ v d H', But p H H' → PoolAt H' p → Dp K H' v d → GdL L n (deep + 1) d → Q v H'
section
variable {P : Program} {w : World} {K : PySem.W.Frag} {mg : Str → Option Value} {base : Heap}
theorem ok_lterm {f fD fP : Addr} {fd dD dP : FuncData} (F : Fun K "_law_term" "_law_term" sLTerm f fd) (M : Blt mg) (bF : Binds K fd ["_law_pool_here", "_law_b", "_law_many", "_law_deep"] []) (gF : mg "_law_term" = some (.ref f))
    (FD : Fun K "_law_draw" "_law_draw" sDraw fD dD) (bD : Binds K dD ["_law_pool_here", "_law_many"] []) (gD : mg "_law_draw" = some (.ref fD))
    (FP : Fun K "_law_pick" "_law_pick" sPick fP dP) (bP : Binds K dP ["_law_pool_here", "_law_row"] []) (gP : mg "_law_pick" = some (.ref fP)) :
    ∀ m : Nat, FnOk P w K mg base CX0 (m + 3) f fd ["_law_pool_here", "_law_b", "_law_many", "_law_deep"] (spLTerm K m) := by
  have GD : FnOk P w K mg base CX0 1 fD dD ["_law_pool_here", "_law_many"] spDraw := ok_draw FD M
  have GP : FnOk P w K mg base CX0 2 fP dP ["_law_pool_here", "_law_row"] (spPick K) := ok_pick FP M FD bD gD
  intro m
  induction m with
  | zero =>
    refine F.ok scLTerm (fun vs H Q E h => ?_) (fun cdv A outer s H vs Q E hr h => ?_)
    · obtain ⟨L, p, b, n, deep, N, rfl, _⟩ := h
      rfl
    · obtain ⟨L, p, b, n, deep, N, rfl, _, _, _, _, h, _⟩ := h
      exact absurd h (Nat.not_lt_zero _)
  | succ m GT =>
    refine F.ok scLTerm (fun vs H Q E h => ?_) (fun cdv A outer s H vs Q E hr h => ?_)
    · obtain ⟨L, p, b, n, deep, N, rfl, _⟩ := h
      rfl
    · obtain ⟨L, p, b, n, deep, N, rfl, hp, hb, hn0, hn2, hdm, q⟩ := h
      have hr1 : Room 1 _ := hr.mono (by omega)
      have hr2 : Room 2 _ := hr.mono (by omega)
      have hu := hu_of hr
      refine ⟨_, pss_cons (ps_set (i := 4) scLTerm.nd rfl (.inl rfl) (pe_call GD hr1 (by rfl) gD FD.kp bD .nil pass0 (pa_cons (pv 0) (pa_cons (pe_ifExp (pt_cmpR op_gt (pv 3) pe_int (nomark _)) pe_int pe_int) pa_nil))))
        (pss_cons (ps_if (PW.pt (pw_or (pt_cmpR op_eq (pv 4) pe_int (nomark _)) (pw_or (PW.pt (pw_and (pt_cmpR op_eq (pv 4) pe_int (nomark _)) (pw_and1 (pt_cmpR op_eq (pv 2) pe_int (nomark _)))))
            (pw_or1 (PW.pt (pw_and (pt_cmpR op_in_seq (pv 4) (pe_lst (pa_cons pe_int (pa_cons pe_int pa_nil))) (by rfl)) (pw_and1 (pt_cmpR (op_eqD hr.units) (pe_dget hu (pv 1) pe_str (fun _ _ => rfl)) (pe_lst pa_nil) (nomark _)))))))))
            (pss_one (ps_ret (pe_call GD hr1 (by rfl) gD FD.kp bD .nil pass0 (pa_cons (pv 0) (pa_cons pe_int pa_nil))))) pss_nil)
        (pss_cons (ps_if (pt_cmpR op_eq (pv 4) pe_int (nomark _)) (pss_one (ps_ret (pe_tup (pa_cons pe_str (pa_cons (pe_call GD hr1 (by rfl) gD FD.kp bD .nil pass0 (pa_cons (pv 0) (pa_cons (pv 2) pa_nil))) pa_nil))))) pss_nil)
        (pss_cons (ps_if (PW.pt (pw_or (pt_cmpR op_eq (pv 4) pe_int (nomark _)) (pw_or1 (pt_cmpR op_eq (pv 4) pe_int (nomark _)))))
            (pss_one (ps_ret (pe_tup (pa_cons pe_str (pa_cons (pe_ix ix_tup (pe_call GP hr2 (by rfl) gP FP.kp bP .nil pass0 (pa_cons (pv 0) (pa_cons (pe_dget hu (pv 1) pe_str (fun _ _ => rfl)) pa_nil))) pe_int (fun _ _ => rfl)) pa_nil))))) pss_nil)
        (pss_cons (ps_if (pt_cmpR op_eq (pv 4) pe_int (nomark _))
            (pss_one (ps_ret (pe_ifExp (pt_cmpR op_eq (pe_call GD hr1 (by rfl) gD FD.kp bD .nil pass0 (pa_cons (pv 0) (pa_cons pe_int pa_nil))) pe_int (nomark _)) (pe_tup (pa_cons pe_str pa_nil)) (pe_call GD hr1 (by rfl) gD FD.kp bD .nil pass0 (pa_cons (pv 0) (pa_cons pe_int pa_nil)))))) pss_nil)
        (pss_cons (ps_if (PW.pt (pw_and (pt_cmpR op_eq (pv 4) pe_int (nomark _)) (pw_and1 (pt_cmpR (op_neNil hr.units) (pe_dget hu (pv 1) pe_str (fun _ _ => rfl)) (pe_lst pa_nil) (nomark _)))))
            (pss_cons (ps_set (i := 5) scLTerm.nd rfl (.inl rfl) (pe_call GP hr2 (by rfl) gP FP.kp bP .nil pass0 (pa_cons (pv 0) (pa_cons (pe_dget hu (pv 1) pe_str (fun _ _ => rfl)) pa_nil))))
            (pss_one (ps_ret (pe_tup (pa_cons pe_str (pa_cons (pe_dget hu (pv 5) pe_str (fun _ _ => rfl)) (pa_cons (pe_callTy call_tuple_of (by rfl) M.tuple (by decide +kernel) (pa_cons
              (pe_lc (own := [("_law_at", 7)]) (g := gName 7) (te := tCall (spLTerm K m) [] E0 (tCons (tVar 0) (tCons (tVar 1) (tCons (tVar 2) (tCons (tC (.int 0)) tNil))))) (by rfl) scLTerm.nd (pi_range1 (by rfl) M.range (pa_cons (pe_dget hu (pv 5) pe_str (fun _ _ => rfl)) pa_nil)) (blkOk_by (own := [("_law_at", 7)]) (N := ["_law_pool_here", "_law_b", "_law_many", "_law_deep", "_law_kind", "_law_f", "_law_head", "_law_at"]) (sc := defScope sLTerm) (by decide +kernel))
                (fun _ _ _ _ _ => pg_name (i := 7) scLTerm.nd rfl (Or.inl rfl)) (fun _ _ _ _ _ => pts_nil) (fun _ _ _ _ _ => pe_call GT hr (by rfl) gF F.kp bF .nil pass0 (pa_cons (pv 0) (pa_cons (pv 1) (pa_cons (pv 2) (pa_cons pe_int pa_nil)))))) pa_nil)) pa_nil))))))) pss_nil)
        (pss_cons (ps_if (pt_cmpR op_eq (pv 4) pe_int (nomark _))
            (pss_one (ps_ret (pe_op op_catT (pe_tup (pa_cons pe_str pa_nil)) (pe_callTy call_tuple_of (by rfl) M.tuple (by decide +kernel) (pa_cons
              (pe_lc (own := [("_law_at", 7)]) (g := gName 7) (te := tCall (spLTerm K m) [] E0 (tCons (tVar 0) (tCons (tVar 1) (tCons (tVar 2) (tCons (tOp (rI0 fun i j => .int (i - j)) (tVar 3) (tC (.int 1))) tNil))))) (by rfl) scLTerm.nd (pi_range1 (by rfl) M.range (pa_cons pe_int pa_nil)) (blkOk_by (own := [("_law_at", 7)]) (N := ["_law_pool_here", "_law_b", "_law_many", "_law_deep", "_law_kind", "_law_f", "_law_head", "_law_at"]) (sc := defScope sLTerm) (by decide +kernel))
                (fun _ _ _ _ _ => pg_name (i := 7) scLTerm.nd rfl (Or.inl rfl)) (fun _ _ _ _ _ => pts_nil) (fun _ _ _ _ _ => pe_call GT hr (by rfl) gF F.kp bF .nil pass0 (pa_cons (pv 0) (pa_cons (pv 1) (pa_cons (pv 2) (pa_cons (pe_op op_sub (pv 3) pe_int) pa_nil)))))) pa_nil))))) pss_nil)
        (pss_cons (ps_set (i := 6) scLTerm.nd rfl (.inl rfl) (pe_call GP hr2 (by rfl) gP FP.kp bP .nil pass0 (pa_cons (pv 0) (pa_cons (pe_lst (pa_cons pe_str (pa_cons pe_str (pa_cons pe_str pa_nil)))) pa_nil))))
        (pss_one (ps_ret (pe_tup (pa_cons (pv 6) (pa_cons (pe_call GT hr (by rfl) gF F.kp bF .nil pass0 (pa_cons (pv 0) (pa_cons (pv 1) (pa_cons (pv 2) (pa_cons (pe_op op_sub (pv 3) pe_int) pa_nil)))))
            (pa_cons (pe_call GT hr (by rfl) gF F.kp bF .nil pass0 (pa_cons (pv 0) (pa_cons (pv 1) (pa_cons (pv 2) (pa_cons (pe_op op_sub (pv 3) pe_int) pa_nil))))) pa_nil))))))))))))), ?_⟩
      refine q_asgP (Pr := fun v H1 => ∃ k : Int, v = .int k ∧ 0 ≤ k ∧ k < 9 ∧ (4 ≤ k → 0 < deep) ∧ But p H H1 ∧ PoolAt H1 p) (fun Q' hq => ?_) (fun v H1 hv => ?_)
      · refine ⟨.ref p, rfl, _, rfl, _, _, rfl, rfl, _, rfl, ite2 (fun e => ?_) (fun e => ?_)⟩
        · refine ⟨p, 9, rfl, hp, by omega, by omega, fun k H1 k0 k9 b1 hp1 fr => hq _ _ ⟨k, rfl, k0, k9, fun _ => ?_, b1, hp1⟩⟩
          have := of_decide_eq_true e
          omega
        · exact ⟨p, 4, rfl, hp, by omega, by omega, fun k H1 k0 k9 b1 hp1 fr => hq _ _ ⟨k, rfl, k0, by omega, fun _ => by omega, b1, hp1⟩⟩
      · obtain ⟨k, rfl, k0, k9, k4, b1, hp1⟩ := hv
        have leaf : ∀ (H2 : Hp) (Q2 : VK), But p H H2 → PoolAt H2 p → (∀ v H', Q v H' → Q2 v H') → ∃ (p' : Addr) (n' : Int), [V.ref p, V.int 3] = [.ref p', .int n'] ∧ PoolAt H2 p' ∧ 0 < n' ∧ n' ≤ 1000000000 ∧ ∀ (v : Int) H', 0 ≤ v → v < n' → But p' H2 H' → PoolAt H' p' → (∀ b, H2 b = none → H' b = none) → Q2 (.int v) H' :=
          fun H2 Q2 b2 hp2 hq => ⟨p, 3, rfl, hp2, by omega, by omega, fun z H3 z0 z3 b3 hp3 fr => hq _ _ (q _ (.int z) H3 (b2.trans b3) hp3 (.int z) (.val z0 z3))⟩
        refine q_seqR (fun σ' H' => σ' = [some (.ref p), some (.ref b), some (.int n), some (.int deep), some (.int k), none, none, none] ∧ But p H H' ∧ PoolAt H' p ∧ k ≠ 0 ∧ (k = 1 → n ≠ 0) ∧ ((k = 2 ∨ k = 8) → L.cells ≠ [])) (fun nx hnx => ?_) (fun σ' H2 hP => ?_)
        · refine ⟨_, rfl, rfl, _, rfl, ?_⟩
          rw [dint]
          by_cases h0 : k = 0
          · rw [decide_eq_true h0]
            exact iteT ⟨.ref p, rfl, leaf H1 _ b1 hp1 fun _ _ h => h⟩
          rw [decide_eq_false h0]
          refine iteF ⟨_, rfl, rfl, _, rfl, ?_⟩
          rw [dint]
          by_cases h1 : k = 1
          · rw [decide_eq_true h1]
            refine iteT ⟨_, rfl, rfl, _, rfl, ?_⟩
            rw [dint]
            by_cases hz : n = 0
            · rw [decide_eq_true hz]
              exact iteT ⟨.ref p, rfl, leaf H1 _ b1 hp1 fun _ _ h => h⟩
            · rw [decide_eq_false hz]
              refine iteF ⟨_, rfl, (by show 2 ≤ sizeLine; decide), fun l nl => ⟨l, _, rfl, .inl (.inl (.inl upd_same)), rfl, rfl, _, rfl, ?_⟩⟩
              rw [in_twoI, decide_eq_false (by omega)]
              exact iteF (iteF (hnx _ _ ⟨rfl, but_sameN b1 (same_upd nl), hp1.upd nl, h0, fun _ => hz, fun h => by omega⟩))
          · rw [decide_eq_false h1]
            refine iteF (iteF ⟨_, rfl, (by show 2 ≤ sizeLine; decide), fun l nl => ⟨l, _, rfl, .inl (.inl (.inl upd_same)), rfl, rfl, _, rfl, ?_⟩⟩)
            rw [in_twoI]
            by_cases h2 : k = 2 ∨ k = 8
            · rw [decide_eq_true h2]
              have b2 := but_sameN b1 (same_upd (o := .lst [.int 2, .int 8]) nl)
              have hp2 := hp1.upd (o := .lst [.int 2, .int 8]) nl
              obtain ⟨c, f', ts, gs, e0, e1, e4, r1, r2⟩ := hb.but hp b2
              refine iteT ⟨_, rfl, b, .ref c, rfl, dg e0 "cells" rfl, Nat.zero_le _, fun l2 nl2 => ?_⟩
              have s2 := same_upd (o := .lst []) nl2
              refine ⟨.list (cellsD L), .list [], .lst (.inl (.inl (s2 _ _ e1))) (dpA_same s2 (cells_dp r1)), .lst (.inl (.inl upd_same)) .nil, cells_shaped N, by decide +kernel, _, rfl, ?_⟩
              cases hcs : L.cells with
              | nil =>
                have ec : cellsD L = [] := by
                  unfold cellsD
                  rw [hcs]
                  rfl
                rw [ec, show PyData.eqv (.list []) (.list []) = true from SeqAt.eqv_refl _ (by decide +kernel)]
                exact iteT ⟨.ref p, rfl, leaf _ _ (but_sameN b2 s2) (hp2.upd nl2) fun _ _ h => h⟩
              | cons x r =>
                have ec : PyData.eqv (.list (cellsD L)) (.list []) = false := by
                  unfold cellsD
                  rw [hcs]
                  rfl
                rw [ec]
                exact iteF (hnx _ _ ⟨rfl, but_sameN b2 s2, hp2.upd nl2, h0, (fun h => absurd h h1), fun _ e => by rw [hcs] at e; cases e⟩)
            · rw [decide_eq_false h2]
              exact iteF (iteF (hnx _ _ ⟨rfl, but_sameN b1 (same_upd nl), hp1.upd nl, h0, (fun h => absurd h h1), fun h => absurd h h2⟩))
        · obtain ⟨rfl, b2, hp2, h0, hn1, hcell⟩ := hP
          clear b1 hp1
          have hb2 := hb.but hp b2
          refine ⟨_, rfl, rfl, _, rfl, ?_⟩
          rw [dint]
          by_cases h1 : k = 1
          · rw [decide_eq_true h1]
            refine iteT ⟨_, rfl, _, rfl, p, n, rfl, hp2, ?_, by omega, fun z H3 z0 zn b3 hp3 fr => ⟨(by show 2 ≤ sizeLine; decide), fun t nt => ?_⟩⟩
            · have := hn1 h1
              omega
            · exact q _ (.tuple [.str "arg", .int z]) _ (but_sameN (b2.trans b3) (same_upd nt)) (hp3.upd nt) (dpT nt (.cons (.str _) (.cons (.int _) .nil))) (.arg z0 zn)
          rw [decide_eq_false h1]
          refine iteF ⟨_, rfl, rfl, _, rfl, ?_⟩
          rw [dint]
          have cell : L.cells ≠ [] → ∀ (Q2 : VK), (∀ v d H', But p H H' → PoolAt H' p → Dp K H' v d → GdL L n (deep + 1) d → Q2 v H') → (tTup (tCons (tC (.str "cell")) (tCons (tOp (rIxT K) (tCall (spPick K) [] E0 (tCons (tVar 0) (tCons (tDGet (tVar 1) (tC (.str "cells"))) tNil))) (tC (.int 0))) tNil))) [some (.ref p), some (.ref b), some (.int n), some (.int deep), some (.int k), none, none, none] H2 Q2 := by
            intro hne Q2 hq
            obtain ⟨c, f', ts, gs, e0, e1, e4, r1, r2⟩ := hb2
            obtain ⟨x, y, ep, _⟩ := id hp2
            have l1 : 1 ≤ ts.length := by
              rw [r1.1]
              cases h : L.cells with
              | nil => exact absurd h hne
              | cons _ _ => simp
            have l8 : ts.length ≤ 8 := by rw [r1.1]; exact N.lc
            have npc : p ≠ c := fun q => by
              rw [← q, ep] at e1
              cases e1
              obtain ⟨d, _, t, e, _⟩ := r1.at (i := 0) (by show 0 < 2; decide)
              cases e
            refine ⟨_, rfl, _, rfl, b, .ref c, rfl, dg e0 "cells" rfl, p, c, ts, rfl, hp2, npc, .inl (.inl (.inl e1)), l1, Nat.le_trans l8 (by decide), fun i hi H3 b3 hp3 fr => ?_⟩
            obtain ⟨d, hd, t, et, ht⟩ := r1.at hi
            rw [et]
            exact ⟨t, _, 0, .str d.1, rfl, rfl, but_sqT ep b3 ht, atI_nat (j := 0) rfl, (by show 2 ≤ sizeLine; decide), fun l nl => hq _ (.tuple [.str "cell", .str d.1]) _ (but_sameN (b2.trans b3) (same_upd nl)) (hp3.upd nl) (dpT nl (.cons (.str _) (.cons (.str _) .nil))) (.cell (k := d.2) hd)⟩
          by_cases h2 : k = 2
          · rw [decide_eq_true h2]
            exact iteT (cell (hcell (.inl h2)) _ q)
          rw [decide_eq_false h2]
          refine iteF ⟨_, rfl, rfl, _, rfl, ?_⟩
          rw [dint]
          by_cases h8 : k = 8
          · rw [decide_eq_true h8]
            exact iteT (cell (hcell (.inr h8)) _ q)
          rw [decide_eq_false h8]
          refine iteF ⟨_, rfl, rfl, _, rfl, ?_⟩
          rw [dint]
          by_cases h3 : k = 3
          · rw [decide_eq_true h3]
            refine iteT ⟨_, rfl, p, 3, rfl, hp2, by omega, by omega, fun z H3 z0 z3 b3 hp3 fr => ⟨rfl, _, rfl, ite2 (fun _ => ⟨(by show 1 ≤ sizeLine; decide), fun t nt => ?_⟩) (fun _ => ⟨.ref p, rfl, leaf H3 _ (b2.trans b3) hp3 fun _ _ h => h⟩)⟩⟩
            exact q _ (.tuple [.str "tick"]) _ (but_sameN (b2.trans b3) (same_upd nt)) (hp3.upd nt) (dpT nt (.cons (.str _) .nil)) .tick
          rw [decide_eq_false h3]
          refine iteF ?_
          dsimp only [tNext]
          have dpos : 0 < deep := k4 (by omega)
          have dm : deep - 1 + 1 = deep := by omega
          have dcast : ((deep : Nat) : Int) - 1 = ((deep - 1 : Nat) : Int) := by omega
          have dargs : [V.ref p, V.ref b, V.int n, V.int (((deep : Nat) : Int) - 1)] = [V.ref p, V.ref b, V.int n, V.int ((deep - 1 : Nat) : Int)] := by rw [dcast]
          refine q_seqR (fun σ' H' => σ' = [some (.ref p), some (.ref b), some (.int n), some (.int deep), some (.int k), none, none, none] ∧ But p H H' ∧ PoolAt H' p ∧ LBk K L H' b) (fun nx hnx => ?_) (fun σ' H2 hP => ?_)
          · refine ⟨_, rfl, rfl, _, rfl, ?_⟩
            rw [dint]
            by_cases h4 : ¬ k = 4
            · rw [decide_eq_false h4]
              exact iteF (hnx _ _ ⟨rfl, b2, hp2, hb2⟩)
            rw [decide_eq_true (Decidable.not_not.mp h4)]
            have hb2' := hb2
            obtain ⟨c, f', ts, gs, e0, e1, e4, r1, r2⟩ := hb2
            refine iteT ⟨_, rfl, b, .ref f', rfl, dg e0 "functions" rfl, Nat.zero_le _, fun l nl => ?_⟩
            have sl : Same H2 (upd H2 l (.lst [])) := same_upd nl
            refine ⟨f', l, gs, rfl, rfl, .inl (.inl (sl _ _ e4)), .inl (.inl upd_same), _, rfl, ?_⟩
            cases hgs : gs with
            | nil => exact iteF (hnx _ _ ⟨rfl, but_sameN b2 sl, hp2.same sl, hb2'.but hp2 (But.of sl)⟩)
            | cons g0 gr =>
            refine iteT ?_
            have l1 : 1 ≤ gs.length := by rw [hgs]; simp
            have l8 : gs.length ≤ 8 := by rw [r2.1]; exact N.lf
            have b3 := but_sameN b2 sl
            have hp3 := hp2.same sl
            have npf : p ≠ f' := fun q => by
              obtain ⟨x, y, ep, _⟩ := hp2
              rw [← q, ep] at e4
              cases e4
              obtain ⟨d, _, t, _, e, _⟩ := r2.at (i := 0) (by show 0 < 2; decide)
              cases e
            have hb3 := hb2'.but hp2 (But.of sl)
            have r3 : Rows (FnD (upd H2 l (.lst []))) gs L.fns := r2.mono fun v d h => by
              obtain ⟨g, kvs, e, h, r⟩ := h
              exact ⟨g, kvs, e, sl _ _ h, r⟩
            generalize upd H2 l (.lst []) = H3 at sl b3 hp3 hb3 r3
            refine ⟨_, rfl, _, rfl, b, .ref f', rfl, dg (sl _ _ e0) "functions" rfl, p, f', gs, rfl, hp3, npf, .inl (.inl (.inl (sl _ _ e4))), l1, Nat.le_trans l8 (by decide), fun i hi H4 b4 hp4 fr => ?_⟩
            have hb4 := hb3.but hp3 b4
            obtain ⟨⟨nx, cnt⟩, hmem, g, kvs, eg, e3g, kn, km⟩ := r3.at hi
            have e4g : H4 g = some (.dK kvs) := by
              obtain ⟨x, y, ep, _⟩ := hp3
              exact b4 _ _ e3g (ne_of e3g ep (fun z => nomatch z))
            have hc := (N.f _ hmem).2
            dsimp only at hc kn km
            rw [eg]
            refine ⟨.ref g, rfl, g, .str nx, rfl, dg e4g "name" kn, .ref g, rfl, g, .int (cnt : Int), rfl, dg e4g "many" km, (cnt : Int), rfl, by omega, by omega, fun D hD => ?_⟩
            refine lc_terms (K := K) N (n := n) (f := 1) (vs := [7]) (j := 7) (D := D) (p := p) walk_range (by omega) hD hp4 (fun x => rfl)
              (fun i' x H5 H6 hi' b5 hp5 y => ⟨y.1, fun Q2 q2 => ⟨.ref p, rfl, .ref b, rfl, .int n, rfl, L, p, b, n, 0, N, rfl, hp5, hb4.but hp4 b5, hn0, hn2, by omega, fun v d H7 b7 hp7 dv gd => q2 v d H7 b7 hp7 dv gd⟩⟩)
              (fun ys ts H5 b5 hp5 e5' ha el hall => ⟨D, ys, rfl, .inl ⟨.inl (.inl e5'), fun t nt => ⟨(by show 3 ≤ sizeLine; decide), fun t2 nt2 => ?_⟩⟩⟩)
            refine q _ (.tuple [.str "call", .str nx, .tuple ts]) _ (but_sameN ((b3.trans b4).trans b5) ((same_upd nt).trans (same_upd nt2))) ((hp5.upd nt).upd nt2) (dpT nt2 (.cons (.str _) (.cons (.str _) (.cons (dpT nt ha) .nil)))) (.call (by rw [el, show ((cnt : Int)).toNat = cnt from rfl]; exact hmem) fun t ht => gdl_mono 1 deep t (hall t ht) dpos)
          clear b2 hp2 hb2
          obtain ⟨rfl, b2, hp2, hb2⟩ := hP
          refine ⟨_, rfl, rfl, _, rfl, ?_⟩
          rw [dint]
          by_cases h7 : k = 7
          · rw [decide_eq_true h7]
            refine iteT ⟨(by show 1 ≤ sizeLine; decide), fun t1 nt1 => ⟨3, rfl, by decide, by decide, fun D hD => ?_⟩⟩
            have s1 : Same H2 (upd H2 t1 (.tup [.str "if"])) := same_upd nt1
            have hp3 := hp2.upd (o := .tup [.str "if"]) nt1
            have et1 : SqT K (upd H2 t1 (.tup [.str "if"])) t1 [.str "if"] := .inl (.inl upd_same)
            refine lc_terms (K := K) N (n := n) (f := deep) (vs := [7]) (j := 7) (D := D) (p := p) (walk_range (n := 3)) (by decide) hD hp3 (fun x => rfl)
              (fun i' x H5 H6 hi' b5 hp5 y => ⟨y.1, fun Q2 q2 => ⟨.ref p, rfl, .ref b, rfl, .int n, rfl, .int deep, rfl, _, _, rfl, rfl, L, p, b, n, deep - 1, N, dargs, hp5, (hb2.but hp2 (But.of s1)).but hp3 b5, hn0, hn2, by omega, fun v d H7 b7 hp7 dv gd => q2 v d H7 b7 hp7 dv (by rw [dm] at gd; exact gd)⟩⟩)
              (fun ys ts H5 b5 hp5 e5' ha el hall => ⟨D, ys, rfl, .inl ⟨.inl (.inl e5'), fun t2 nt2 => ?_⟩⟩)
            have ely : ys.length = 3 := by rw [dpA_len ha, el]
            have et5 : SqT K H5 t1 [.str "if"] := by
              obtain ⟨x, y, ep, _⟩ := hp3
              exact but_sqT ep b5 et1
            refine ⟨t1, t2, [.str "if"], ys, rfl, rfl, same_sqT (same_upd nt2) et5, .inl (.inl upd_same), by simp, ?_, fun e => ?_, fun _ t3 nt3 => ?_⟩
            · rw [ely]
              decide
            · rw [e] at ely
              cases ely
            · exact q _ (.tuple (.str "if" :: ts)) _ (but_sameN ((but_sameN b2 s1).trans b5) ((same_upd nt2).trans (same_upd nt3))) ((hp5.upd nt2).upd nt3) (dpT nt3 (.cons (.str _) (dpA_same (same_upd nt2) ha))) (.op (.inl ⟨rfl, el⟩) hall)
          rw [decide_eq_false h7]
          refine iteF ?_
          refine ⟨.ref p, rfl, (by show 3 ≤ sizeLine; decide), fun l nl => ?_⟩
          refine ⟨p, l, _, rfl, hp2.upd nl, hp2.ne nl, .inl (.inl (.inl upd_same)), (by decide), (by decide), fun i hi H3 b3 hp3 fr => ?_⟩
          have sl : Same H2 (upd H2 l (.lst [.str "plus", .str "less", .str "same"])) := same_upd nl
          have hb3 := (hb2.but hp2 (But.of sl)).but (hp2.upd nl) b3
          have bb3 := (but_sameN b2 sl).trans b3
          obtain ⟨h, eh, hbin⟩ : ∃ h, [V.str "plus", .str "less", .str "same"][i] = .str h ∧ bin h := by
            match i, hi with
            | 0, _ => exact ⟨_, rfl, .inl rfl⟩
            | 1, _ => exact ⟨_, rfl, .inr (.inl rfl)⟩
            | 2, _ => exact ⟨_, rfl, .inr (.inr rfl)⟩
          rw [eh]
          refine ⟨.str h, rfl, .ref p, rfl, .ref b, rfl, .int n, rfl, .int deep, rfl, _, _, rfl, rfl, L, p, b, n, deep - 1, N, dargs, hp3, hb3, hn0, hn2, by omega, fun v1 d1 H4 b4 hp4 dv1 gd1 => ?_⟩
          rw [dm] at gd1
          refine ⟨.ref p, rfl, .ref b, rfl, .int n, rfl, .int deep, rfl, _, _, rfl, rfl, L, p, b, n, deep - 1, N, dargs, hp4, hb3.but hp3 b4, hn0, hn2, by omega, fun v2 d2 H5 b5 hp5 dv2 gd2 => ⟨(by show 3 ≤ sizeLine; decide), fun t nt => ?_⟩⟩
          rw [dm] at gd2
          refine q _ (.tuple [.str h, d1, d2]) _ (but_sameN ((bb3.trans b4).trans b5) (same_upd nt)) (hp5.upd nt) (dpT nt (.cons (.str _) (.cons (dp_but hp4 b5 (gd_nl _ _ (gdl_gd N _ _ gd1)) dv1) (.cons dv2 .nil)))) (.op (.inr ⟨hbin, rfl⟩) fun t ht => ?_)
          rcases List.mem_cons.mp ht with rfl | ht
          · exact gd1
          · rw [List.mem_singleton.mp ht]
            exact gd2
end
/-! ### the law's writes, drawn -/
def WrD (L : LB) (n : Int) (d : PyData) : Prop := d = .tuple [] ∨ ∃ z t, d = .tuple [.tuple [.str z, t]] ∧ (z, ("table" : Str)) ∈ L.cells ∧ GdL L n 2 t
abbrev sLW : Stmt := topS 71
theorem scLW : FnScope ["_law_pool_here", "_law_b", "_law_many", "_law_tables", "_law_cell"] ["_law_pool_here", "_law_b", "_law_many"] (defScope sLW) := ⟨rfl, rfl, rfl, by decide +kernel, rfl, by decide +kernel, by decide +kernel⟩
def tablesOf (cs : List (Str × Str)) : List Str := (cs.filter fun x => decide (x.2 = ("table" : Str))).map (·.1)
def spLW (K : PySem.W.Frag) : Sp := fun vs H Q _ => ∃ (L : LB) (p b : Addr) (n : Int), LOk L ∧ vs = [.ref p, .ref b, .int n] ∧ PoolAt H p ∧ LBk K L H b ∧ 0 ≤ n ∧ n ≤ 2 ∧
  ∀ v d H', But p H H' → PoolAt H' p → Dp K H' v d → WrD L n d → Q v H'
theorem strs_dp {K : PySem.W.Frag} {H : Hp} : ∀ zs : List Str, DpAll K H (zs.map V.str) (zs.map PyData.str)
  | [] => .nil
  | z :: zs => .cons (.str z) (strs_dp zs)
section
variable {P : Program} {w : World} {K : PySem.W.Frag} {mg : Str → Option Value} {base : Heap}
theorem ok_lw {f fD fP fT : Addr} {fd dD dP dT : FuncData} (F : Fun K "_law_writes" "_law_writes" sLW f fd) (M : Blt mg)
    (FD : Fun K "_law_draw" "_law_draw" sDraw fD dD) (bD : Binds K dD ["_law_pool_here", "_law_many"] []) (gD : mg "_law_draw" = some (.ref fD))
    (FP : Fun K "_law_pick" "_law_pick" sPick fP dP) (bP : Binds K dP ["_law_pool_here", "_law_row"] []) (gP : mg "_law_pick" = some (.ref fP))
    (FT : Fun K "_law_term" "_law_term" sLTerm fT dT) (bT : Binds K dT ["_law_pool_here", "_law_b", "_law_many", "_law_deep"] []) (gT : mg "_law_term" = some (.ref fT)) : FnOk P w K mg base CX0 6 f fd ["_law_pool_here", "_law_b", "_law_many"] (spLW K) := by
  have GD : FnOk P w K mg base CX0 1 fD dD ["_law_pool_here", "_law_many"] spDraw := ok_draw FD M
  have GP : FnOk P w K mg base CX0 2 fP dP ["_law_pool_here", "_law_row"] (spPick K) := ok_pick FP M FD bD gD
  have GT : FnOk P w K mg base CX0 5 fT dT ["_law_pool_here", "_law_b", "_law_many", "_law_deep"] (spLTerm K 2) := ok_lterm FT M bT gT FD bD gD FP bP gP 2
  refine F.ok scLW (fun vs H Q E h => ?_) (fun cdv A outer s H vs Q E hr h => ?_)
  · obtain ⟨L, p, b, n, _, rfl, _⟩ := h
    rfl
  · obtain ⟨L, p, b, n, o, rfl, hp, hb, n0, n2, q⟩ := h
    have hr1 : Room 1 (A.deeper (envOfC "_law_writes" (defScope sLW) s.heap.objs.size f cdv)) := hr.mono (by decide)
    have hr2 : Room 2 (A.deeper (envOfC "_law_writes" (defScope sLW) s.heap.objs.size f cdv)) := hr.mono (by decide)
    have hu := hu_of hr
    refine ⟨_, pss_cons (ps_setLc (i := 3) (own := [("_law_cell", 4)]) (g := gName 4) (wi := iList K (tDGet (tVar 1) (tC (.str "cells")))) (tt := tTest (tOp rEq (tOp (rIxT K) (tVar 4) (tC (.int 1))) (tC (.str "table")))) (te := tOp (rIxT K) (tVar 4) (tC (.int 0))) (by rfl) scLW.nd rfl rfl (sw_true rfl rfl rfl (by decide +kernel)) (pi_list (pe_dget hu (pv 1) pe_str (fun _ _ => rfl)))
          (blkOk_by (own := [("_law_cell", 4)]) (N := ["_law_pool_here", "_law_b", "_law_many", "_law_tables", "_law_cell"]) (sc := defScope sLW) (by decide +kernel)) (fun _ _ _ _ _ => pg_name (i := 4) scLW.nd rfl (Or.inl rfl)) (fun _ _ _ _ _ => pts_one (pt_cmpR op_eq (pe_ix ix_tup (pv 4) pe_int (fun _ _ => rfl)) pe_str (nomark _))) (fun _ _ _ _ _ => pe_ix ix_tup (pv 4) pe_int (fun _ _ => rfl)))
      (pss_cons (ps_if (PW.pt (pw_or (pt_cmpR (op_eqD hr.units) (pv 3) (pe_lst pa_nil) (nomark _)) (pw_or1 (pt_cmpR op_eq (pe_call GD hr1 (by rfl) gD FD.kp bD .nil pass0 (pa_cons (pv 0) (pa_cons pe_int pa_nil))) pe_int (nomark _))))) (pss_one (ps_ret (pe_tup pa_nil))) pss_nil)
      (pss_one (ps_ret (pe_tup (pa_cons (pe_tup (pa_cons (pe_call GP hr2 (by rfl) gP FP.kp bP .nil pass0 (pa_cons (pv 0) (pa_cons (pv 3) pa_nil))) (pa_cons (pe_call GT hr (by rfl) gT FT.kp bT .nil pass0 (pa_cons (pv 0) (pa_cons (pv 1) (pa_cons (pv 2) (pa_cons pe_int pa_nil))))) pa_nil))) pa_nil))))), ?_⟩
    obtain ⟨c, fa, ts, gs, e0, e1, e4, r1, r2⟩ := id hb
    refine ⟨.ref b, rfl, b, .ref c, rfl, dg e0 "cells" rfl, c, rfl, ⟨_, .inl (.inl e1)⟩, fun D hD => ?_⟩
    refine walk_gen (walk_list (K := K) (a := c) (xs := ts)) (fun i H' => Same H H' ∧ H' D = some (.lst ((tablesOf (L.cells.take i)).map V.str))) ⟨same_upd hD, upd_same⟩ (fun i H' _ pr => .inl (.inl (pr.1 _ _ e1))) (fun i x H1 H2 hi pr y => ?_) (fun H1 pr => ?_)
    · obtain ⟨s1, eD⟩ := pr
      obtain ⟨rfl, hx⟩ := y
      have hi' : i < L.cells.length := by
        have := (List.getElem?_eq_some_iff.mp hx).1
        rw [r1.1] at this
        exact this
      have hc := List.getElem?_eq_getElem hi'
      obtain ⟨t, rfl, ht⟩ := r1.2 i x _ hx hc
      have ht1 := same_sqT s1 ht
      have snoc : tablesOf (L.cells.take (i + 1)) = tablesOf (L.cells.take i) ++ (if decide (L.cells[i].2 = ("table" : Str)) = true then [L.cells[i].1] else []) := by
        unfold tablesOf
        rw [take_snoc hc, List.filter_append, List.map_append]
        congr 1
        cases e : decide (L.cells[i].2 = ("table" : Str)) with
        | true => rw [List.filter_cons_of_pos (by exact e)]; rfl
        | false => rw [List.filter_cons_of_neg (by rw [e]; decide)]; rfl
      refine And.intro rfl ?_
      refine ⟨.ref t, rfl, t, _, 1, .str _, rfl, rfl, ht1, atI_nat (j := 1) rfl, rfl, _, rfl, ?_⟩
      have dd : decide (V.str L.cells[i].2 = V.str "table") = decide (L.cells[i].2 = ("table" : Str)) := by
        by_cases e : L.cells[i].2 = "table"
        · rw [decide_eq_true e, decide_eq_true (by rw [e])]
        · rw [decide_eq_false e, decide_eq_false (fun z => e (V.str.inj z))]
      rw [dd]
      cases e : decide (L.cells[i].2 = ("table" : Str)) with
      | true =>
        rw [e] at snoc
        refine iteT ⟨.ref t, rfl, t, _, 0, .str _, rfl, rfl, ht1, atI_nat (j := 0) rfl, _, eD, ?_, fun b o e => ?_, ?_⟩
        · rw [List.length_map]
          unfold tablesOf
          rw [List.length_map]
          refine Nat.lt_of_le_of_lt (List.length_filter_le _ _) ?_
          rw [List.length_take]
          have := o.lc
          exact Nat.lt_of_le_of_lt (show _ ≤ 8 by omega) (by decide)
        · rw [upd_ne (ne_of_none e hD)]
          exact s1 _ _ e
        · rw [snoc, List.map_append]
          exact upd_same
      | false =>
        rw [e] at snoc
        refine iteF ⟨s1, ?_⟩
        rw [snoc]
        simpa using eD
    · obtain ⟨s1, eD⟩ := pr
      rw [r1.1, List.take_length] at eD
      have hp1 := hp.same s1
      have hb1 := hb.but hp (But.of s1)
      obtain ⟨zs, ez⟩ : ∃ zs, tablesOf L.cells = zs := ⟨_, rfl⟩
      have mem : ∀ z ∈ zs, (z, ("table" : Str)) ∈ L.cells := fun z hz => by
        rw [← ez] at hz
        unfold tablesOf at hz
        obtain ⟨x, hx, rfl⟩ := List.mem_map.mp hz
        obtain ⟨h1, h2⟩ := List.mem_filter.mp hx
        have e : x.2 = ("table" : Str) := of_decide_eq_true h2
        rw [← e]
        exact h1
      have lz : zs.length ≤ 8 := by
        rw [← ez]
        unfold tablesOf
        rw [List.length_map]
        exact Nat.le_trans (List.length_filter_le _ _) o.lc
      rw [ez] at eD
      refine ⟨.ref D, rfl, Nat.zero_le _, fun l nl => ?_⟩
      have sl := same_upd (o := .lst []) nl
      have names : ∀ z ∈ zs, PyData.strOk z = true := fun z hz => name_ok (o.c _ (mem z hz)).1
      have shp : SeqAt.shaped (.list (zs.map PyData.str)) = true := by
        refine Bool.and_eq_true_iff.mpr ⟨canLay_of fun t h => ?_, decide_eq_true ?_⟩
        · obtain ⟨z, hz, rfl⟩ := List.mem_map.mp h
          exact names z hz
        · show PyData.depthAll (zs.map PyData.str) + 1 ≤ 64
          have := depth_of (m := 0) (ts := zs.map PyData.str) fun t h => by
            obtain ⟨z, hz, rfl⟩ := List.mem_map.mp h
            exact Nat.le_refl _
          omega
      refine ⟨.list (zs.map PyData.str), .list [], .lst (.inl (.inl (sl _ _ eD))) (strs_dp zs), .lst (.inl (.inl upd_same)) .nil, shp, by decide +kernel, _, rfl, ?_⟩
      have b2 : But p H (upd H1 l (.lst [])) := (But.of s1).trans (But.of sl)
      have hp2 := hp1.same sl
      have hb2 := hb1.but hp1 (But.of sl)
      have eD2 := sl _ _ eD
      have nDp : p ≠ D := by
        obtain ⟨x, y, ep, _⟩ := hp
        exact ne_of_none ep hD
      have gone : ∀ H', But p H H' → PoolAt H' p → (tTup tNil) [some (.ref p), some (.ref b), some (.int n), some (.ref D), none] H' Q := fun H' k h => ⟨by show 0 ≤ sizeLine; decide, fun t nt => q _ (.tuple []) _ (but_sameN k (same_upd nt)) (h.upd nt) (dpT nt .nil) (.inl rfl)⟩
      cases hz : zs with
      | nil =>
        rw [show PyData.eqv (.list (([] : List Str).map PyData.str)) (.list []) = true from SeqAt.eqv_refl _ (by decide +kernel)]
        exact iteT (gone _ b2 hp2)
      | cons z0 zr =>
        rw [show PyData.eqv (.list ((z0 :: zr).map PyData.str)) (.list []) = false from rfl]
        have l1 : 1 ≤ (zs.map V.str).length := by rw [hz]; simp
        refine iteF ⟨.ref p, rfl, p, 2, rfl, hp2, by omega, by omega, fun k H3 k0 k2 b3 hp3 fr => ⟨rfl, _, rfl, ?_⟩⟩
        have b13 := b2.trans b3
        refine ite2 (fun _ => gone _ b13 hp3) (fun _ => ?_)
        have eD3 := b3 _ _ eD2 nDp.symm
        refine ⟨.ref p, rfl, .ref D, rfl, p, D, zs.map V.str, rfl, hp3, nDp, .inl (.inl (.inl eD3)), l1, Nat.le_trans (by rw [List.length_map]; exact lz) (by decide), fun i hi H4 b4 hp4 fr4 => ?_⟩
        have hi' : i < zs.length := by rw [List.length_map] at hi; exact hi
        have hb4 := (hb2.but hp2 b3).but hp3 b4
        rw [List.getElem_map]
        refine ⟨.ref p, rfl, .ref b, rfl, .int n, rfl, L, p, b, n, 1, o, rfl, hp4, hb4, n0, n2, by decide, fun v d H5 b5 hp5 dv gd => ?_⟩
        refine ⟨by show 2 ≤ sizeLine; decide, fun t1 m1 => ⟨by show 1 ≤ sizeLine; decide, fun t2 m2 => ?_⟩⟩
        refine q _ (.tuple [.tuple [.str zs[i], d]]) _ (but_sameN ((b13.trans b4).trans b5) ((same_upd m1).trans (same_upd m2))) ((hp5.upd m1).upd m2) (dpT m2 (.cons (dpT m1 (.cons (.str _) (.cons dv .nil))) .nil)) (.inr ⟨_, d, rfl, mem _ (List.getElem_mem hi'), gd⟩)
end
/-! ### the law's book, drawn -/
structure FDr where
  nm : Str
  many : Nat
  res : PyData
  ws : PyData
  cost : Int
  label : Str
def FDrAt (K : PySem.W.Frag) (H : Hp) (v : V) (F : FDr) : Prop := ∃ (g : Addr) (vr vw : V), v = .ref g ∧ H g = some (.dK [(.inr "name", .str F.nm), (.inr "many", .int (F.many : Nat)), (.inr "result", vr), (.inr "writes", vw), (.inr "cost", .int F.cost), (.inr "label", .str F.label)]) ∧
  Dp K H vr F.res ∧ Dp K H vw F.ws ∧ noL F.res = true ∧ noL F.ws = true
def lbOf (cells : List (Str × Str)) (fs : List FDr) : LB := ⟨cells, fs.map fun F => (F.nm, F.many)⟩
def labelRow : List Str := ["always", "session", "statement", "changing"]
/-- what is known of a function drawn behind others -/
structure FOk (deep : Nat) (cells : List (Str × Str)) (prev : List FDr) (F : FDr) : Prop where
  nm : isName (.str F.nm) = true
  many : F.many ≤ 2
  res : GdL (lbOf cells prev) F.many (deep + 1) F.res
  ws : WrD (lbOf cells prev) F.many F.ws
  c0 : 0 ≤ F.cost
  c9 : F.cost < 10
  lab : F.label ∈ labelRow
/-- what is known of a drawn book, its functions so far -/
structure DOk (deep : Nat) (words : List Str) (cells : List (Str × Str)) (fs : List FDr) : Prop where
  lc : cells.length ≤ 3
  lf : fs.length ≤ 3
  cn : ∀ (i : Nat) x, cells[i]? = some x → words[i]? = some x.1 ∧ x.2 ∈ (["frozen", "setting", "table"] : List Str)
  fn : ∀ (i : Nat) F, fs[i]? = some F → words[4 + i]? = some F.nm ∧ FOk deep cells (fs.take i) F
/-- the drawn book stands at b -/
def BkAt (K : PySem.W.Frag) (cells : List (Str × Str)) (fs : List FDr) (H : Hp) (b : Addr) : Prop := ∃ c f ts gs, H b = some (.dK [(.inr "cells", .ref c), (.inr "functions", .ref f)]) ∧ H c = some (.lst ts) ∧ H f = some (.lst gs) ∧ Rows (CellT K H) ts cells ∧ Rows (FDrAt K H) gs fs
theorem BkAt.lbk {K : PySem.W.Frag} {cells : List (Str × Str)} {fs : List FDr} {H : Hp} {b : Addr} (h : BkAt K cells fs H b) : LBk K (lbOf cells fs) H b := by
  obtain ⟨c, f, ts, gs, e0, e1, e2, r1, r2⟩ := h
  refine ⟨c, f, ts, gs, e0, e1, e2, r1, ⟨by rw [r2.1]; simp [lbOf], fun i x y e1 e2 => ?_⟩⟩
  have e3 : (fs.map fun F => (F.nm, F.many))[i]? = some y := e2
  rw [List.getElem?_map] at e3
  obtain ⟨F, hF, rfl⟩ := Option.map_eq_some_iff.mp e3
  obtain ⟨g, vr, vw, rfl, e, _⟩ := r2.2 i x F e1 hF
  exact ⟨g, _, rfl, e, rfl, rfl⟩
theorem DOk.lok {deep : Nat} {words : List Str} {cells : List (Str × Str)} {fs : List FDr} (h : DOk deep words cells fs) (wn : ∀ z ∈ words, isName (.str z) = true) : LOk (lbOf cells fs) where
  c := fun x hx => by
    obtain ⟨i, hi⟩ := List.getElem?_of_mem hx
    obtain ⟨h1, h2⟩ := h.cn i x hi
    exact ⟨wn _ (List.mem_of_getElem? h1), h2⟩
  f := fun x hx => by
    obtain ⟨F, hF, rfl⟩ := List.mem_map.mp hx
    obtain ⟨i, hi⟩ := List.getElem?_of_mem hF
    obtain ⟨_, h2⟩ := h.fn i F hi
    exact ⟨h2.nm, h2.many⟩
  lc := Nat.le_trans h.lc (by decide)
  lf := by
    show (fs.map _).length ≤ 8
    rw [List.length_map]
    exact Nat.le_trans h.lf (by decide)
theorem rows_nil {α : Type} {R : V → α → Prop} : Rows R [] [] := ⟨rfl, fun i x c e _ => by simp at e⟩
theorem rows_snoc {α : Type} {R : V → α → Prop} {xs : List V} {cs : List α} {x : V} {c : α} (h : Rows R xs cs) (k : R x c) : Rows R (xs ++ [x]) (cs ++ [c]) := ⟨by rw [List.length_append, List.length_append, h.1]; rfl, fun i y d e1 e2 => by
  by_cases hi : i < xs.length
  · rw [List.getElem?_append_left hi] at e1
    rw [List.getElem?_append_left (h.1 ▸ hi)] at e2
    exact h.2 i y d e1 e2
  · have h1 := (List.getElem?_eq_some_iff.mp e1).1
    rw [List.length_append] at h1
    have hi2 : i = xs.length := by simp at h1; omega
    rw [hi2, List.getElem?_append_right (Nat.le_refl _), Nat.sub_self] at e1
    rw [hi2, h.1, List.getElem?_append_right (Nat.le_refl _), Nat.sub_self] at e2
    cases e1
    cases e2
    exact k⟩
theorem sqT_dk {K : PySem.W.Frag} {H H' : Hp} {g : Addr} {kvs : List (Key × V)} (e : H g = some (.dK kvs)) (b : But g H H') {a : Addr} {xs : List V} (h : SqT K H a xs) : SqT K H' a xs := by
  rcases h with (h | ⟨o, h⟩) | h
  · exact .inl (.inl (b _ _ h (ne_of h e (fun z => nomatch z))))
  · exact .inl (.inr ⟨o, b _ _ h (ne_of h e (fun z => nomatch z))⟩)
  · exact .inr h
theorem cellT_of {K : PySem.W.Frag} {H H' : Hp} (k : ∀ a xs, SqT K H a xs → SqT K H' a xs) {v : V} {x : Str × Str} (h : CellT K H v x) : CellT K H' v x := by
  obtain ⟨t, e, h⟩ := h
  exact ⟨t, e, k _ _ h⟩
theorem fdrAt_of {K : PySem.W.Frag} {H H' : Hp} (k : ∀ a xs, SqT K H a xs → SqT K H' a xs) {v : V} {F : FDr} (kd : ∀ g kvs, v = .ref g → H g = some (.dK kvs) → kvs.length = 6 → H' g = some (.dK kvs)) (h : FDrAt K H v F) : FDrAt K H' v F := by
  obtain ⟨g, vr, vw, rfl, e, h1, h2, n1, n2⟩ := h
  exact ⟨g, vr, vw, rfl, kd g _ rfl e rfl, dp_tups k _ _ n1 h1, dp_tups k _ _ n2 h2, n1, n2⟩
theorem BkAt.but {K : PySem.W.Frag} {cells : List (Str × Str)} {fs : List FDr} {H H' : Hp} {b p : Addr} (h : BkAt K cells fs H b) (hp : PoolAt H p) (bt : But p H H') : BkAt K cells fs H' b := by
  obtain ⟨c, f, ts, gs, e0, e1, e4, r1, r2⟩ := h
  obtain ⟨x, y, ep, _⟩ := hp
  have nc : c ≠ p := fun q => by
    rw [q, ep] at e1
    cases e1
    obtain ⟨d, _, t, e, _⟩ := r1.at (i := 0) (by show 0 < 2; decide)
    cases e
  have nf : f ≠ p := fun q => by
    rw [q, ep] at e4
    cases e4
    obtain ⟨d, _, t, _, _, e, _⟩ := r2.at (i := 0) (by show 0 < 2; decide)
    cases e
  exact ⟨c, f, ts, gs, bt _ _ e0 (ne_of e0 ep (fun z => nomatch z)), bt _ _ e1 nc, bt _ _ e4 nf, r1.mono fun v d h => cellT_of (fun a xs h => but_sqT ep bt h) h, r2.mono fun v d h => fdrAt_of (fun a xs h => but_sqT ep bt h) (fun g kvs _ e _ => bt _ _ e (ne_of e ep (fun z => nomatch z))) h⟩
theorem upd_two {H : Hp} {a : Addr} {x y : HO} : upd (upd H a x) a y = upd H a y := by
  funext b
  by_cases h : b = a
  · subst h
    rw [upd_same, upd_same]
  · rw [upd_ne h, upd_ne h, upd_ne h]
theorem pool_ne {H : Hp} {p g : Addr} {o : HO} (h : PoolAt H p) (n : p ≠ g) : PoolAt (upd H g o) p := by
  obtain ⟨x, y, e, r⟩ := h
  exact ⟨x, y, by rw [upd_ne n]; exact e, r⟩
theorem but_new {p g : Addr} {G X : Hp} {o : HO} (k : But p G X) (ng : G g = none) : But p G (upd X g o) := fun x u e n => by
  rw [upd_ne (ne_of_none e ng)]
  exact k _ _ e n
theorem wr_nl {L : LB} (o : LOk L) {n : Int} {d : PyData} (h : WrD L n d) : noL d = true := by
  rcases h with rfl | ⟨z, t, rfl, _, g⟩
  · rfl
  · show ((true && (noL t && true)) && true) = true
    rw [gd_nl 2 t (gdl_gd o 2 t g)]
    rfl
abbrev sLB : Stmt := topS 72
theorem scLB : FnScope ["_law_pool_here", "_law_most", "_law_deep", "_law_words", "_law_b", "_law_kinds", "_law_at", "_law_many", "_law_f"] ["_law_pool_here", "_law_most", "_law_deep"] (defScope sLB) := ⟨rfl, rfl, rfl, by decide +kernel, rfl, by decide +kernel, by decide +kernel⟩
def spLB (K : PySem.W.Frag) : Sp := fun vs H Q _ => ∃ (p : Addr) (most : Int) (deep : Nat), vs = [.ref p, .int most, .int (deep : Nat)] ∧ PoolAt H p ∧ 0 < most ∧ most ≤ 3 ∧ deep ≤ 2 ∧
  ∀ b words cells fs H', But p H H' → PoolAt H' p → words.length = 8 → (∀ z ∈ words, isName (.str z) = true) → words.Nodup → (∀ z ∈ words, z.length ≤ 4 ∨ z.length = 8) → BkAt K cells fs H' b → DOk deep words cells fs → 1 ≤ fs.length → H b = none → Q (.ref b) H'
section
variable {P : Program} {w : World} {K : PySem.W.Frag} {mg : Str → Option Value} {base : Heap}
theorem ok_lb {f fD fP fT fN fW : Addr} {fd dD dP dT dN dW : FuncData} (F : Fun K "_law_book" "_law_book" sLB f fd) (M : Blt mg)
    (FD : Fun K "_law_draw" "_law_draw" sDraw fD dD) (bD : Binds K dD ["_law_pool_here", "_law_many"] []) (gD : mg "_law_draw" = some (.ref fD))
    (FP : Fun K "_law_pick" "_law_pick" sPick fP dP) (bP : Binds K dP ["_law_pool_here", "_law_row"] []) (gP : mg "_law_pick" = some (.ref fP))
    (FN : Fun K "_law_names" "_law_names" sLNames fN dN) (bN : Binds K dN ["_law_pool_here", "_law_count"] []) (gN : mg "_law_names" = some (.ref fN))
    (FT : Fun K "_law_term" "_law_term" sLTerm fT dT) (bT : Binds K dT ["_law_pool_here", "_law_b", "_law_many", "_law_deep"] []) (gT : mg "_law_term" = some (.ref fT))
    (FW : Fun K "_law_writes" "_law_writes" sLW fW dW) (bW : Binds K dW ["_law_pool_here", "_law_b", "_law_many"] []) (gW : mg "_law_writes" = some (.ref fW)) : FnOk P w K mg base CX0 8 f fd ["_law_pool_here", "_law_most", "_law_deep"] (spLB K) := by
  have GD : FnOk P w K mg base CX0 1 fD dD ["_law_pool_here", "_law_many"] spDraw := ok_draw FD M
  have GP : FnOk P w K mg base CX0 2 fP dP ["_law_pool_here", "_law_row"] (spPick K) := ok_pick FP M FD bD gD
  have GN : FnOk P w K mg base CX0 3 fN dN ["_law_pool_here", "_law_count"] (spLNames K) := ok_lnames FN M FD bD gD FP bP gP
  have GT : FnOk P w K mg base CX0 6 fT dT ["_law_pool_here", "_law_b", "_law_many", "_law_deep"] (spLTerm K 3) := ok_lterm FT M bT gT FD bD gD FP bP gP 3
  have GW : FnOk P w K mg base CX0 6 fW dW ["_law_pool_here", "_law_b", "_law_many"] (spLW K) := ok_lw FW M FD bD gD FP bP gP FT bT gT
  refine F.ok scLB (fun vs H Q E h => ?_) (fun cdv A outer s H vs Q E hr h => ?_)
  · obtain ⟨p, most, deep, rfl, _⟩ := h
    rfl
  · obtain ⟨p, most, deep, rfl, hp, m0, m3, d2, q⟩ := h
    have hr1 : Room 1 (A.deeper (envOfC "_law_book" (defScope sLB) s.heap.objs.size f cdv)) := hr.mono (by decide)
    have hr2 : Room 2 (A.deeper (envOfC "_law_book" (defScope sLB) s.heap.objs.size f cdv)) := hr.mono (by decide)
    have hr3 : Room 3 (A.deeper (envOfC "_law_book" (defScope sLB) s.heap.objs.size f cdv)) := hr.mono (by decide)
    have hr6 : Room 6 (A.deeper (envOfC "_law_book" (defScope sLB) s.heap.objs.size f cdv)) := hr.mono (by decide)
    have hu := hu_of hr
    refine ⟨_, pss_cons (ps_set (i := 3) scLB.nd rfl (.inl rfl) (pe_call GN hr3 (by rfl) gN FN.kp bN .nil pass0 (pa_cons (pv 0) (pa_cons pe_int pa_nil))))
      (pss_cons (ps_par (i := 4) (j := 5) (by rfl) scLB.nd rfl rfl (by decide) rfl rfl (pa_cons (pe_disp (pps_cons pe_str (pe_lst pa_nil) (pps_cons pe_str (pe_lst pa_nil) pps_nil)) (by rfl) (by rfl) (by simp) (by decide)) (pa_cons (pe_lst (pa_cons pe_str (pa_cons pe_str (pa_cons pe_str (pa_cons pe_str pa_nil))))) pa_nil)) (by rfl))
      (pss_cons (ps_for PassesOwn.never rfl (pi_range1 (by rfl) M.range (pa_cons (pe_call GD hr1 (by rfl) gD FD.kp bD .nil pass0 (pa_cons (pv 0) (pa_cons pe_int pa_nil))) pa_nil)) (pg_name (i := 6) scLB.nd rfl (.inl rfl))
        (pss_one (ps_dput hu (pv 4) pe_str (pe_op op_cat (pe_dget hu (pv 4) pe_str (fun _ _ => rfl)) (pe_lst (pa_cons (pe_tup (pa_cons (pe_ix ix_list (pv 3) (pv 6) (fun _ _ => rfl)) (pa_cons (pe_call GP hr2 (by rfl) gP FP.kp bP .nil pass0 (pa_cons (pv 0) (pa_cons (pv 5) pa_nil))) pa_nil))) pa_nil))) (by rfl))))
      (pss_cons (ps_for PassesOwn.never rfl (pi_range1 (by rfl) M.range (pa_cons (pe_op op_add pe_int (pe_call GD hr1 (by rfl) gD FD.kp bD .nil pass0 (pa_cons (pv 0) (pa_cons (pv 1) pa_nil)))) pa_nil)) (pg_name (i := 6) scLB.nd rfl (.inl rfl))
        (pss_cons (ps_set (i := 7) scLB.nd rfl (.inl rfl) (pe_call GD hr1 (by rfl) gD FD.kp bD .nil pass0 (pa_cons (pv 0) (pa_cons pe_int pa_nil))))
        (pss_cons (ps_set (i := 8) scLB.nd rfl (.inl rfl) (pe_disp (pps_cons pe_str (pe_ix ix_list (pv 3) (pe_op op_add pe_int (pv 6)) (fun _ _ => rfl)) (pps_cons pe_str (pv 7) (pps_cons pe_str (pe_call GT hr6 (by rfl) gT FT.kp bT .nil pass0 (pa_cons (pv 0) (pa_cons (pv 4) (pa_cons (pv 7) (pa_cons (pv 2) pa_nil))))) pps_nil))) (by rfl) (by rfl) (by simp) (by decide)))
        (pss_cons (ps_asg (pe_tup (pa_cons (pe_call GW hr6 (by rfl) gW FW.kp bW .nil pass0 (pa_cons (pv 0) (pa_cons (pv 4) (pa_cons (pv 7) pa_nil)))) (pa_cons (pe_call GD hr1 (by rfl) gD FD.kp bD .nil pass0 (pa_cons (pv 0) (pa_cons pe_int pa_nil))) pa_nil)))
            (pg_tup (by rfl) (pgs_cons (pg_sub (pv 8) pe_str (set_dict hu)) (pgs_cons (pg_sub (pv 8) pe_str (set_dict hu)) pgs_nil))))
        (pss_cons (ps_dput hu (pv 8) pe_str (pe_call GP hr2 (by rfl) gP FP.kp bP .nil pass0 (pa_cons (pv 0) (pa_cons (pe_lst (pa_cons pe_str (pa_cons pe_str (pa_cons pe_str (pa_cons pe_str (pa_cons pe_str pa_nil)))))) pa_nil))) (by rfl))
        (pss_one (ps_dput hu (pv 4) pe_str (pe_op op_cat (pe_dget hu (pv 4) pe_str (fun _ _ => rfl)) (pe_lst (pa_cons (pv 8) pa_nil))) (by rfl))))))))
      (pss_one (ps_ret (pv 4)))))), ?_⟩
    refine ⟨.ref p, rfl, p, 8, rfl, by decide, hp, fun wl words H1 b1 hp1 ew lw wn wnd wln => ?_⟩
    have nw : wl ≠ p := fun e => by
      obtain ⟨x, y, ep, _⟩ := hp1
      rw [e, ep] at ew
      have e2 := HO.lst.inj (Option.some.inj ew)
      rcases words with _ | ⟨z0, zr⟩
      · cases lw
      · cases e2
    dsimp only [gName, List.set]
    refine fun b nb1 => ⟨by show 0 ≤ sizeLine; decide, fun c nc => ⟨by show 0 ≤ sizeLine; decide, fun fl nfl => ?_⟩⟩
    have s1 : Same H1 (upd H1 b (.dK [])) := same_upd nb1
    have s2 := same_upd (o := HO.lst []) nc
    have s3 := same_upd (o := HO.lst []) nfl
    have npb : p ≠ b := hp1.ne nb1
    have nwb : wl ≠ b := ne_of_none ew nb1
    have nbH : H b = none := by
      cases h : H b with
      | none => rfl
      | some o =>
        have := b1 _ _ h npb.symm
        rw [nb1] at this
        cases this
    have eb : (upd (upd (upd H1 b (.dK [])) c (.lst [])) fl (.lst [])) b = some (.dK []) := s3 _ _ (s2 _ _ upd_same)
    have ec : (upd (upd (upd H1 b (.dK [])) c (.lst [])) fl (.lst [])) c = some (.lst []) := s3 _ _ upd_same
    have efl : (upd (upd (upd H1 b (.dK [])) c (.lst [])) fl (.lst [])) fl = some (.lst []) := upd_same
    have b2 : But p H1 (upd (upd (upd H1 b (.dK [])) c (.lst [])) fl (.lst [])) := But.of ((s1.trans s2).trans s3)
    have hp2 : PoolAt (upd (upd (upd H1 b (.dK [])) c (.lst [])) fl (.lst [])) p := hp1.same ((s1.trans s2).trans s3)
    refine ⟨eb, [(.inr "cells", .ref c), (.inr "functions", .ref fl)], rfl, (by show 2 ≤ 15; decide), ?_⟩
    generalize upd (upd (upd H1 b (.dK [])) c (.lst [])) fl (.lst []) = H2 at eb ec efl b2 hp2
    refine ⟨by show 4 ≤ sizeLine; decide, fun kl nkl => ⟨_, _, rfl, ?_⟩⟩
    have skl := same_upd (o := HO.lst [V.str "frozen", .str "setting", .str "table", .str "table"]) nkl
    have ncb : c ≠ b := ne_of ec eb (fun z => nomatch z)
    have nfb : fl ≠ b := ne_of efl eb (fun z => nomatch z)
    have bk0 : BkAt K [] [] (upd (upd H2 b (.dK (mergeK [] [(.inr "cells", .ref c), (.inr "functions", .ref fl)]))) kl (.lst [V.str "frozen", .str "setting", .str "table", .str "table"])) b := ⟨c, fl, [], [], skl _ _ upd_same, skl _ _ (by rw [upd_ne ncb]; exact ec), skl _ _ (by rw [upd_ne nfb]; exact efl), rows_nil, rows_nil⟩
    have b13 : But p H (upd (upd H2 b (.dK (mergeK [] [(.inr "cells", .ref c), (.inr "functions", .ref fl)]))) kl (.lst [V.str "frozen", .str "setting", .str "table", .str "table"])) := but_sameN (but_new (b1.trans b2) nbH) skl
    have hp3 : PoolAt (upd (upd H2 b (.dK (mergeK [] [(.inr "cells", .ref c), (.inr "functions", .ref fl)]))) kl (.lst [V.str "frozen", .str "setting", .str "table", .str "table"])) p := (pool_ne hp2 npb).same skl
    have ew3 : (upd (upd H2 b (.dK (mergeK [] [(.inr "cells", .ref c), (.inr "functions", .ref fl)]))) kl (.lst [V.str "frozen", .str "setting", .str "table", .str "table"])) wl = some (.lst (words.map V.str)) := skl _ _ (by rw [upd_ne nwb]; exact b2 _ _ ew nw)
    have ekl : (upd (upd H2 b (.dK (mergeK [] [(.inr "cells", .ref c), (.inr "functions", .ref fl)]))) kl (.lst [V.str "frozen", .str "setting", .str "table", .str "table"])) kl = some (.lst [V.str "frozen", .str "setting", .str "table", .str "table"]) := upd_same
    generalize upd (upd H2 b (.dK (mergeK [] [(.inr "cells", .ref c), (.inr "functions", .ref fl)]))) kl (.lst [V.str "frozen", .str "setting", .str "table", .str "table"]) = H3 at bk0 b13 hp3 ew3 ekl
    clear skl nfb ncb hp2 b2 efl ec eb s3 s2 s1 nkl
    have npk : p ≠ kl := fun q => by
      obtain ⟨x, y, ep, _⟩ := hp3
      rw [q, ekl] at ep
      cases ep
    dsimp only [gName, List.set]
    refine ⟨.ref p, rfl, p, 4, rfl, hp3, by omega, by omega, fun k H5 k0 k4 b5 hp5 fr => ⟨k, rfl, by omega, by omega, ?_⟩⟩
    refine for_range (lo := 0) (n := k.toNat) (fun j σ H' => ∃ y5 y6 y7, σ = [some (.ref p), some (.int most), some (.int (deep : Nat)), some (.ref wl), some (.ref b), some (.ref kl), y5, y6, y7] ∧ But p H H' ∧ PoolAt H' p ∧ H' wl = some (.lst (words.map V.str)) ∧ H' kl = some (.lst [V.str "frozen", .str "setting", .str "table", .str "table"]) ∧ ∃ cells, BkAt K cells [] H' b ∧ cells.length = j ∧ ∀ (i : Nat) x, cells[i]? = some x → words[i]? = some x.1 ∧ x.2 ∈ (["frozen", "setting", "table"] : List Str))
      ⟨_, _, _, rfl, b13.trans b5, hp5, b5 _ _ ew3 nw, b5 _ _ ekl npk.symm, [], bk0.but hp3 b5, rfl, fun i x e => by simp at e⟩ (fun j σ G hj hW => ?_) (fun σ G hW => ?_)
    · obtain ⟨y5, y6, y7, rfl, bG, hpG, eG, eK, cells, bk, lc, cn⟩ := hW
      have j4 : j < 4 := by omega
      obtain ⟨wd, hwd⟩ : ∃ wd, words[j]? = some wd := ⟨_, List.getElem?_eq_getElem (by omega)⟩
      obtain ⟨cc, ff, ts, gs, f0, f1, f4, r1, r2⟩ := id bk
      refine ⟨.ref b, rfl, b, .ref cc, rfl, dg f0 "cells" rfl, ?_⟩
      refine ⟨.ref wl, rfl, _, rfl, wl, words.map V.str, (j : Nat), .str wd, rfl, (by show V.int (0 + (j : Int)) = _; rw [Int.zero_add]), .inl (.inl eG), atI_nat (by rw [List.getElem?_map, hwd]; rfl), ?_⟩
      refine ⟨.ref p, rfl, .ref kl, rfl, p, kl, _, rfl, hpG, npk, .inl (.inl (.inl eK)), by decide, by decide, fun m hm G1 k1 hpA fr1 => ?_⟩
      obtain ⟨kd, hkd, ek⟩ : ∃ kd, kd ∈ (["frozen", "setting", "table"] : List Str) ∧ [V.str "frozen", .str "setting", .str "table", .str "table"][m] = V.str kd := by
        have hm' : m < 4 := hm
        rcases (show m = 0 ∨ m = 1 ∨ m = 2 ∨ m = 3 by omega) with e | e | e | e <;> subst e
        · exact ⟨"frozen", by decide, rfl⟩
        · exact ⟨"setting", by decide, rfl⟩
        · exact ⟨"table", by decide, rfl⟩
        · exact ⟨"table", by decide, rfl⟩
      rw [ek]
      obtain ⟨px, py, ep, _⟩ := id hpA
      refine ⟨by show 2 ≤ sizeLine; decide, fun t nt => ⟨by show 1 ≤ sizeLine; decide, fun l2 m2 => ?_⟩⟩
      have st := same_upd (o := HO.tup [V.str wd, .str kd]) nt
      have sl := same_upd (o := HO.lst [V.ref t]) m2
      have k2 : But p G (upd (upd G1 t (.tup [V.str wd, .str kd])) l2 (.lst [V.ref t])) := but_sameN (but_sameN k1 st) sl
      have hp2 : PoolAt (upd (upd G1 t (.tup [V.str wd, .str kd])) l2 (.lst [V.ref t])) p := (hpA.same st).same sl
      have et : (upd (upd G1 t (.tup [V.str wd, .str kd])) l2 (.lst [V.ref t])) t = some (.tup [V.str wd, .str kd]) := sl _ _ upd_same
      have el2 : (upd (upd G1 t (.tup [V.str wd, .str kd])) l2 (.lst [V.ref t])) l2 = some (.lst [V.ref t]) := upd_same
      generalize upd (upd G1 t (.tup [V.str wd, .str kd])) l2 (.lst [V.ref t]) = G2 at k2 hp2 et el2
      have bk2 := bk.but hpG k2
      have nc : cc ≠ p := fun q => by
        obtain ⟨x, y, ep, _⟩ := hpG
        rw [q, ep] at f1
        cases f1
        obtain ⟨d, _, t, e, _⟩ := r1.at (i := 0) (by show 0 < 2; decide)
        cases e
      have nff : ff ≠ p := fun q => by
        obtain ⟨x, y, ep, _⟩ := hpG
        rw [q, ep] at f4
        cases f4
        have := r2.1
        simp at this
      have npb' : b ≠ p := npb.symm
      have g0 := k2 _ _ f0 npb'
      have g1 := k2 _ _ f1 nc
      have g4 := k2 _ _ f4 nff
      have r1' : Rows (CellT K G2) ts cells := by
        obtain ⟨x, y, ep, _⟩ := hpG
        exact r1.mono fun v x h => cellT_of (fun a xs h => but_sqT ep k2 h) h
      refine ⟨cc, l2, ts, [.ref t], rfl, rfl, g1, el2, (by rw [r1.1]; exact Nat.le_trans (show cells.length + 1 ≤ 5 by omega) (by decide)), fun l3 m3 => ?_⟩
      have s3 := same_upd (o := HO.lst (ts ++ [V.ref t])) m3
      have h0 := s3 _ _ g0
      refine ⟨.ref b, rfl, b, _, rfl, .inl ⟨_, .inr "cells", h0, rfl, (by show 2 < sizeLine; decide), rfl⟩, ?_⟩
      have tk : ∀ a xs, SqT K G2 a xs → SqT K (upd (upd G2 l3 (.lst (ts ++ [V.ref t]))) b (.dK (putK [(.inr "cells", .ref cc), (.inr "functions", .ref ff)] (.inr "cells" : Key) (.ref l3)))) a xs := fun a xs h => sqT_dk h0 But.upd (same_sqT s3 h)
      have nbG : ∀ {a : Addr} {u : HO}, (upd G2 l3 (.lst (ts ++ [V.ref t]))) a = some u → (∀ kvs, u ≠ .dK kvs) → a ≠ b := fun e n q => by
        rw [q, h0] at e
        exact n _ (Option.some.inj e).symm
      refine ⟨_, _, _, rfl, fun x u e n => ?_, pool_ne (hp2.same s3) npb, ?_, ?_, cells ++ [(wd, kd)], ⟨l3, ff, ts ++ [.ref t], gs, upd_same, ?_, ?_, rows_snoc (r1'.mono fun v x h => cellT_of tk h) ⟨t, rfl, tk _ _ (.inl (.inl et))⟩, ?_⟩, ?_, fun i x ej => ?_⟩
      · rw [upd_ne (ne_of_none e nbH)]
        exact s3 _ _ (k2 _ _ (bG _ _ e n) n)
      · rw [upd_ne nwb]
        exact s3 _ _ (k2 _ _ eG nw)
      · have h := s3 _ _ (k2 _ _ eK npk.symm)
        rw [upd_ne (nbG h (fun kvs z => nomatch z))]
        exact h
      · rw [upd_ne (nbG upd_same (fun kvs z => nomatch z))]
        exact upd_same
      · have h := s3 _ _ g4
        rw [upd_ne (nbG h (fun kvs z => nomatch z))]
        exact h
      · have hg : gs = [] := List.length_eq_zero_iff.mp r2.1
        subst hg
        exact rows_nil
      · rw [List.length_append, lc]
        rfl
      · by_cases hj : i < cells.length
        · rw [List.getElem?_append_left hj] at ej
          exact cn i x ej
        · have hj2 : i = cells.length := by
            have := (List.getElem?_eq_some_iff.mp ej).1
            rw [List.length_append] at this
            simp at this
            omega
          rw [hj2, List.getElem?_append_right (Nat.le_refl _), Nat.sub_self] at ej
          cases ej
          exact ⟨by rw [hj2, lc]; exact hwd, hkd⟩
    · obtain ⟨y5, y6, y7, rfl, bC, hpC, eC, eK, cells, bkC, lc0, cn⟩ := hW
      have lc : cells.length ≤ 3 := by omega
      clear bk0 b13 hp3 ew3 ekl fr b5 hp5
      refine ⟨.ref p, rfl, .int most, rfl, p, most, rfl, hpC, m0, by omega, fun k H5 k0 km b5 hp5 fr => ⟨_, _, rfl, rfl, _, rfl, by omega, by omega, ?_⟩⟩
      have bk5 : BkAt K cells [] H5 b := bkC.but hpC b5
      refine for_range (lo := 0) (n := _) (fun j σ H' => ∃ y5 y6 y7, σ = [some (.ref p), some (.int most), some (.int (deep : Nat)), some (.ref wl), some (.ref b), some (.ref kl), y5, y6, y7] ∧ But p H H' ∧ PoolAt H' p ∧ H' wl = some (.lst (words.map V.str)) ∧ ∃ fs, BkAt K cells fs H' b ∧ DOk deep words cells fs ∧ fs.length = j)
        ⟨_, _, _, rfl, bC.trans b5, hp5, b5 _ _ eC nw, [], bk5, ⟨lc, Nat.zero_le _, cn, fun i F e => by simp at e⟩, rfl⟩ (fun j σ G hj hW => ?_) (fun σ G hW => ?_)
      · obtain ⟨y5, y6, y7, rfl, bG, hpG, eG, fs, bk, ok, lf⟩ := hW
        have j3 : j < 3 := by omega
        have L1 := ok.lok wn
        obtain ⟨wd, hwd⟩ : ∃ wd, words[4 + j]? = some wd := ⟨_, List.getElem?_eq_getElem (by omega)⟩
        refine ⟨.ref p, rfl, p, 3, rfl, hpG, by omega, by omega, fun mk G1 mk0 mk3 k1 hpA fr1 => ?_⟩
        obtain ⟨mn, rfl⟩ : ∃ mn : Nat, mk = mn := ⟨mk.toNat, by omega⟩
        dsimp only [gName, List.set]
        refine fun g ng => ?_
        have ngG : G g = none := by
          cases h : G g with
          | none => rfl
          | some o => exact absurd (k1 _ _ h (hpA.ne ng).symm) (by rw [ng]; simp)
        have npg : p ≠ g := hpA.ne ng
        have kA : But p G (upd G1 g (.dK [])) := but_new k1 ngG
        have hpB := pool_ne (o := .dK []) hpA npg
        have egB : (upd G1 g (.dK [])) g = some (.dK []) := upd_same
        generalize upd G1 g (.dK []) = G2 at kA hpB egB
        refine ⟨.ref wl, rfl, .int (0 + (j : Int)), rfl, _, _, rfl, rfl, wl, words.map V.str, _, .str wd, rfl, rfl, .inl (.inl (kA _ _ eG nw)), (by rw [show (4 + (0 + (j : Int))) = ((4 + j : Nat) : Int) by omega]; exact atI_nat (by rw [List.getElem?_map, hwd]; rfl)), .int (mn : Nat), rfl, ?_⟩
        refine ⟨.ref p, rfl, .ref b, rfl, .int (mn : Nat), rfl, .int (deep : Nat), rfl, lbOf cells fs, p, b, (mn : Nat), deep, L1, rfl, hpB, (bk.but hpG kA).lbk, by omega, by omega, by omega, fun v1 d1 G3 k3 hpC dv1 gd1 => ?_⟩
        have e3g := k3 _ _ egB npg.symm
        refine ⟨e3g, [(.inr "name", .str wd), (.inr "many", .int (mn : Nat)), (.inr "result", v1)], rfl, (by show 3 ≤ 15; decide), ?_⟩
        have nl1 := gd_nl _ _ (gdl_gd L1 _ _ gd1)
        have kC := kA.trans k3
        have dv1 : Dp K (upd G3 g (.dK (mergeK [] [(.inr "name", .str wd), (.inr "many", .int (mn : Nat)), (.inr "result", v1)]))) v1 d1 := dp_tups (fun a xs h => sqT_dk e3g But.upd h) _ _ nl1 dv1
        have kD : But p G (upd G3 g (.dK (mergeK [] [(.inr "name", .str wd), (.inr "many", .int (mn : Nat)), (.inr "result", v1)]))) := but_new kC ngG
        have hpD := pool_ne (o := .dK (mergeK [] [(.inr "name", .str wd), (.inr "many", .int (mn : Nat)), (.inr "result", v1)])) hpC npg
        have e4g : (upd G3 g (.dK (mergeK [] [(.inr "name", .str wd), (.inr "many", .int (mn : Nat)), (.inr "result", v1)]))) g = some (.dK [(.inr "name", .str wd), (.inr "many", .int (mn : Nat)), (.inr "result", v1)]) := upd_same
        generalize upd G3 g (.dK (mergeK [] [(.inr "name", .str wd), (.inr "many", .int (mn : Nat)), (.inr "result", v1)])) = G4 at kD hpD e4g dv1
        clear e3g kC egB kA hpB hpC k3
        dsimp only [gName, List.set]
        refine ⟨.ref p, rfl, .ref b, rfl, .int (mn : Nat), rfl, lbOf cells fs, p, b, (mn : Nat), L1, rfl, hpD, (bk.but hpG kD).lbk, by omega, by omega, fun v2 d2 G5 k5 hpE dv2 wr2 => ?_⟩
        have nl2 := wr_nl L1 wr2
        refine ⟨.ref p, rfl, p, 10, rfl, hpE, by omega, by omega, fun cost G6 c0 c9 k6 hpF fr6 => ⟨by show 2 ≤ sizeLine; decide, fun t nt => ?_⟩⟩
        have k46 := k5.trans k6
        have e6g := k46 _ _ e4g npg.symm
        have dv1 := dp_but hpD k46 nl1 dv1
        have dv2 := dp_but hpE k6 nl2 dv2
        have st := same_upd (o := HO.tup [v2, .int cost]) nt
        have ntg : t ≠ g := (ne_of_none e6g nt).symm
        refine ⟨t, _, rfl, .inl (.inl upd_same), rfl, v2, _, rfl, .ref g, rfl, g, _, rfl, .inl ⟨_, .inr "writes", st _ _ e6g, rfl, (by show 3 < sizeLine; decide), rfl⟩, _, _, rfl, .ref g, rfl, g, _, rfl, .inl ⟨_, .inr "cost", upd_same, rfl, (by show 4 < sizeLine; decide), rfl⟩, rfl, ?_⟩
        rw [upd_two]
        have kG : But p G (upd (upd G6 t (.tup [v2, .int cost])) g (.dK (putK (putK [(.inr "name", .str wd), (.inr "many", .int (mn : Nat)), (.inr "result", v1)] (.inr "writes" : Key) v2) (.inr "cost" : Key) (.int cost)))) := but_new ((kD.trans k46).trans (But.of st)) ngG
        have hpG2 := pool_ne (o := .dK (putK (putK [(.inr "name", .str wd), (.inr "many", .int (mn : Nat)), (.inr "result", v1)] (.inr "writes" : Key) v2) (.inr "cost" : Key) (.int cost))) (hpF.upd (o := .tup [v2, .int cost]) nt) npg
        have e9g : (upd (upd G6 t (.tup [v2, .int cost])) g (.dK (putK (putK [(.inr "name", .str wd), (.inr "many", .int (mn : Nat)), (.inr "result", v1)] (.inr "writes" : Key) v2) (.inr "cost" : Key) (.int cost)))) g = some (.dK [(.inr "name", .str wd), (.inr "many", .int (mn : Nat)), (.inr "result", v1), (.inr "writes", v2), (.inr "cost", .int cost)]) := upd_same
        have dv1 : Dp K (upd (upd G6 t (.tup [v2, .int cost])) g (.dK (putK (putK [(.inr "name", .str wd), (.inr "many", .int (mn : Nat)), (.inr "result", v1)] (.inr "writes" : Key) v2) (.inr "cost" : Key) (.int cost)))) v1 d1 := dp_tups (fun a xs h => sqT_dk (st _ _ e6g) But.upd (same_sqT st h)) _ _ nl1 dv1
        have dv2 : Dp K (upd (upd G6 t (.tup [v2, .int cost])) g (.dK (putK (putK [(.inr "name", .str wd), (.inr "many", .int (mn : Nat)), (.inr "result", v1)] (.inr "writes" : Key) v2) (.inr "cost" : Key) (.int cost)))) v2 d2 := dp_tups (fun a xs h => sqT_dk (st _ _ e6g) But.upd (same_sqT st h)) _ _ nl2 dv2
        generalize upd (upd G6 t (.tup [v2, .int cost])) g (.dK (putK (putK [(.inr "name", .str wd), (.inr "many", .int (mn : Nat)), (.inr "result", v1)] (.inr "writes" : Key) v2) (.inr "cost" : Key) (.int cost))) = G9 at kG hpG2 e9g dv1 dv2
        clear st ntg e6g k46 kD hpD e4g
        refine ⟨.ref p, rfl, (by show 5 ≤ sizeLine; decide), fun l nl => ⟨p, l, _, rfl, hpG2.upd nl, hpG2.ne nl, .inl (.inl (.inl upd_same)), by decide, by decide, fun m hm G10 k10 hpH fr10 => ?_⟩⟩
        obtain ⟨lb, hlb, elb⟩ : ∃ lb, lb ∈ labelRow ∧ [V.str "always", .str "session", .str "statement", .str "changing", .str "changing"][m] = V.str lb := by
          have hm' : m < 5 := hm
          rcases (show m = 0 ∨ m = 1 ∨ m = 2 ∨ m = 3 ∨ m = 4 by omega) with e | e | e | e | e <;> subst e
          · exact ⟨"always", by decide, rfl⟩
          · exact ⟨"session", by decide, rfl⟩
          · exact ⟨"statement", by decide, rfl⟩
          · exact ⟨"changing", by decide, rfl⟩
          · exact ⟨"changing", by decide, rfl⟩
        rw [elb]
        have sl := same_upd (o := HO.lst [V.str "always", .str "session", .str "statement", .str "changing", .str "changing"]) nl
        have k910 : But p G9 G10 := (But.of sl).trans k10
        have eag := k910 _ _ e9g npg.symm
        have dv1 := dp_but hpG2 k910 nl1 dv1
        have dv2 := dp_but hpG2 k910 nl2 dv2
        refine ⟨.ref g, rfl, g, _, rfl, .inl ⟨_, .inr "label", eag, rfl, (by show 5 < sizeLine; decide), rfl⟩, ?_⟩
        have kL : But p G (upd G10 g (.dK (putK [(.inr "name", .str wd), (.inr "many", .int (mn : Nat)), (.inr "result", v1), (.inr "writes", v2), (.inr "cost", .int cost)] (.inr "label" : Key) (.str lb)))) := but_new (kG.trans k910) ngG
        have hpL := pool_ne (o := .dK (putK [(.inr "name", .str wd), (.inr "many", .int (mn : Nat)), (.inr "result", v1), (.inr "writes", v2), (.inr "cost", .int cost)] (.inr "label" : Key) (.str lb))) hpH npg
        have fdr : FDrAt K (upd G10 g (.dK (putK [(.inr "name", .str wd), (.inr "many", .int (mn : Nat)), (.inr "result", v1), (.inr "writes", v2), (.inr "cost", .int cost)] (.inr "label" : Key) (.str lb)))) (.ref g) ⟨wd, mn, d1, d2, cost, lb⟩ := ⟨g, v1, v2, rfl, upd_same, dp_tups (fun a xs h => sqT_dk eag But.upd h) _ _ nl1 dv1, dp_tups (fun a xs h => sqT_dk eag But.upd h) _ _ nl2 dv2, nl1, nl2⟩
        generalize upd G10 g (.dK (putK [(.inr "name", .str wd), (.inr "many", .int (mn : Nat)), (.inr "result", v1), (.inr "writes", v2), (.inr "cost", .int cost)] (.inr "label" : Key) (.str lb))) = G11 at kL hpL fdr
        clear dv1 dv2 eag k910 sl hpH k10 hpG2 e9g kG
        obtain ⟨cc, ff, ts2, gs2, f0, f1, f4, r1, r2⟩ := bk.but hpG kL
        refine ⟨.ref b, rfl, b, .ref ff, rfl, dg f0 "functions" rfl, .ref g, rfl, (by show 1 ≤ sizeLine; decide), fun l2 m2 => ⟨ff, l2, gs2, [.ref g], rfl, rfl, same_upd m2 _ _ f4, upd_same, (by rw [r2.1]; exact Nat.le_trans (show fs.length + 1 ≤ 4 by omega) (by decide)), fun l3 m3 => ?_⟩⟩
        have s2 := same_upd (o := HO.lst [V.ref g]) m2
        have s3 := same_upd (o := HO.lst (gs2 ++ [V.ref g])) m3
        have s23 := s2.trans s3
        have f0' := s23 _ _ f0
        refine ⟨.ref b, rfl, b, _, rfl, .inl ⟨_, .inr "functions", f0', rfl, (by show 2 < sizeLine; decide), rfl⟩, ?_⟩
        have bb : ∀ {a : Addr} {u : HO}, (upd (upd G11 l2 (.lst [V.ref g])) l3 (.lst (gs2 ++ [V.ref g]))) a = some u → (∀ kvs, u = .dK kvs → kvs.length = 6) → a ≠ b := fun e n q => by
          rw [q, f0'] at e
          have := n _ (Option.some.inj e).symm
          simp at this
        have tk : ∀ a xs, SqT K G11 a xs → SqT K (upd (upd (upd G11 l2 (.lst [V.ref g])) l3 (.lst (gs2 ++ [V.ref g]))) b (.dK (putK [(.inr "cells", .ref cc), (.inr "functions", .ref ff)] (.inr "functions" : Key) (.ref l3)))) a xs := fun a xs h => sqT_dk f0' But.upd (same_sqT s23 h)
        have kd : ∀ (v : V) (a : Addr) (kvs : List (Key × V)), v = .ref a → G11 a = some (.dK kvs) → kvs.length = 6 → (upd (upd (upd G11 l2 (.lst [V.ref g])) l3 (.lst (gs2 ++ [V.ref g]))) b (.dK (putK [(.inr "cells", .ref cc), (.inr "functions", .ref ff)] (.inr "functions" : Key) (.ref l3)))) a = some (.dK kvs) := fun v a kvs _ e n => by
          have e2 := s23 _ _ e
          rw [upd_ne (bb e2 (fun k2 e3 => by cases e3; exact n))]
          exact e2
        refine ⟨_, _, _, rfl, fun x u e n => ?_, ?_, ?_, fs ++ [⟨wd, mn, d1, d2, cost, lb⟩], ⟨cc, l3, ts2, gs2 ++ [.ref g], upd_same, ?_, ?_, r1.mono fun v x h => cellT_of tk h, rows_snoc (r2.mono fun v F h => fdrAt_of tk (kd v) h) (fdrAt_of tk (kd _) fdr)⟩, ⟨ok.lc, ?_, ok.cn, fun i F e => ?_⟩, ?_⟩
        · rw [upd_ne (ne_of_none e nbH)]
          exact s23 _ _ (kL _ _ (bG _ _ e n) n)
        · exact pool_ne (hpL.same s23) npb
        · rw [upd_ne nwb]
          exact s23 _ _ (kL _ _ eG nw)
        · rw [upd_ne (bb (s23 _ _ f1) (fun k e => by cases e))]
          exact s23 _ _ f1
        · rw [upd_ne (bb upd_same (fun k e => by cases e))]
          exact upd_same
        · rw [List.length_append, lf]
          show j + 1 ≤ 3
          omega
        · by_cases hi : i < fs.length
          · rw [List.getElem?_append_left hi] at e
            rw [List.take_append_of_le_length (by omega)]
            exact ok.fn i F e
          · have hi2 : i = fs.length := by
              have := (List.getElem?_eq_some_iff.mp e).1
              rw [List.length_append] at this
              simp at this
              omega
            rw [hi2, List.getElem?_append_right (Nat.le_refl _), Nat.sub_self] at e
            cases e
            rw [hi2, List.take_left', lf]
            · exact ⟨hwd, wn _ (List.mem_of_getElem? hwd), by show mn ≤ 2; omega, gd1, wr2, c0, c9, hlb⟩
            · rfl
        · rw [List.length_append, lf]
          rfl
      · obtain ⟨y5, y6, y7, rfl, bG, hpG, eG, fs, bk, ok, lf⟩ := hW
        exact ⟨.ref b, rfl, q b words cells fs G bG hpG lw wn wnd wln bk ok (by rw [lf]; show 1 ≤ (1 + k).toNat; omega) nbH⟩
end
/-! ### displays of data -/
/-- G has all that is new in H' -/
def NewIn (H H' G : Hp) : Prop := ∀ b o, H b = none → H' b = some o → G b = some o
/-- te makes a datum d at the slots σ, whatever is there; it stands in each heap that has what is new -/
def Dat (K : PySem.W.Frag) (te : TE) (σ : L2.St) (d : PyData) : Prop := ∀ (H : Hp) (Q : VK), (∀ v H', Same H H' → (∀ G, NewIn H H' G → Dp K G v d) → Q v H') → te σ H Q
def DatA (K : PySem.W.Frag) (ta : TA) (σ : L2.St) (ds : List PyData) : Prop := ∀ (H : Hp) (Q : List V → Hp → Prop), (∀ vs H', Same H H' → (∀ G, NewIn H H' G → DpAll K G vs ds) → Q vs H') → ta σ H Q
section
variable {K : PySem.W.Frag} {σ : L2.St}
theorem dat_non : Dat K (tC .non) σ .none := fun H Q q => q _ H (Same.refl H) fun _ _ => .non
theorem dat_bl {b : Bool} : Dat K (tC (.bl b)) σ (.bool b) := fun H Q q => q _ H (Same.refl H) fun _ _ => .bl b
theorem dat_int {i : Int} : Dat K (tC (.int i)) σ (.int i) := fun H Q q => q _ H (Same.refl H) fun _ _ => .int i
theorem dat_neg {i : Int} : Dat K (tUn (rU fun i => .int (-i)) (tC (.int i))) σ (.int (-i)) := fun H Q q => ⟨_, rfl, q _ H (Same.refl H) fun _ _ => .int _⟩
theorem dat_str {z : Str} : Dat K (tC (.str z)) σ (.str z) := fun H Q q => q _ H (Same.refl H) fun _ _ => .str z
theorem da_nil : DatA K tNil σ [] := fun H Q q => q _ H (Same.refl H) fun _ _ => .nil
theorem da_cons {te : TE} {ta : TA} {d : PyData} {ds : List PyData} (h : Dat K te σ d) (r : DatA K ta σ ds) : DatA K (tCons te ta) σ (d :: ds) := fun H Q q => h H _ fun v H1 s1 hv => r H1 _ fun vs H2 s2 hs => q _ H2 (s1.trans s2) fun G g =>
  .cons (hv G fun b o n e => g b o n (s2 _ _ e)) (hs G fun b o n e => g b o (s1.free n) e)
theorem newIn_self {H H' : Hp} : NewIn H H' H' := fun _ _ _ e => e
theorem dat_tup {ta : TA} {ds : List PyData} (h : DatA K ta σ ds) (n : ds.length ≤ sizeLine) : Dat K (tTup ta) σ (.tuple ds) := fun H Q q => h H _ fun vs H1 s1 hs => ⟨by rw [dpA_len (hs H1 newIn_self)]; exact n, fun p np => q _ _ (s1.trans (same_upd np)) fun G g =>
  .tup (.inl (.inl (g p _ (s1.free np) upd_same))) (hs G fun b o n e => g b o n (same_upd np _ _ e))⟩
theorem dat_lst {ta : TA} {ds : List PyData} (h : DatA K ta σ ds) (n : ds.length ≤ sizeLine) : Dat K (tLst ta) σ (.list ds) := fun H Q q => h H _ fun vs H1 s1 hs => ⟨by rw [dpA_len (hs H1 newIn_self)]; exact n, fun p np => q _ _ (s1.trans (same_upd np)) fun G g =>
  .lst (.inl (.inl (g p _ (s1.free np) upd_same))) (hs G fun b o n e => g b o n (same_upd np _ _ e))⟩
/-- a new list, with its items -/
theorem lst_new {ta : TA} {ds : List PyData} (h : DatA K ta σ ds) (n : ds.length ≤ sizeLine) (H : Hp) (Q : VK) (q : ∀ l xs H', Same H H' → H' l = some (.lst xs) → DpAll K H' xs ds → Q (.ref l) H') : tLst ta σ H Q :=
  h H _ fun vs H1 s1 hs => ⟨by rw [dpA_len (hs H1 newIn_self)]; exact n, fun p np => q p vs _ (s1.trans (same_upd np)) upd_same (hs _ fun b o n e => same_upd np _ _ e)⟩
theorem a_consP {te : TE} {ta : TA} {H : Hp} {Q : List V → Hp → Prop} (Pr : V → Hp → Prop) (h : ∀ Q' : VK, (∀ v H', Pr v H' → Q' v H') → te σ H Q') (k : ∀ v H1, Pr v H1 → ta σ H1 fun vs H2 => Q (v :: vs) H2) : tCons te ta σ H Q := h _ k
/-- a list at t that grows: its items stand whatever is written at t -/
def Grows (K : PySem.W.Frag) (t : Addr) (ds : List PyData) (H : Hp) : Prop := ∃ xs, H t = some (.lst xs) ∧ ∀ G : Hp, (∀ b o, H b = some o → b ≠ t → G b = some o) → DpAll K G xs ds
theorem q_append {te : TE} {tz : TS} {D : Ends} {H : Hp} {t : Addr} {ds : List PyData} {d : PyData} {i : Nat} (at_ : σ[i]? = some (some (.ref t))) (g : Grows K t ds H) (hd : Dat K te σ d) (n : ds.length < sizeLine)
    (k : ∀ H', (∀ b o, H b = some o → b ≠ t → H' b = some o) → Grows K t (ds ++ [d]) H' → tz D σ H') : tSeq (tDrop (tBM K "list" rAppend (tVar i) (tCons te tNil))) tz D σ H := by
  obtain ⟨xs, et, hx⟩ := g
  refine ⟨.ref t, at_, .inl ⟨rfl, xs, .inl (.inl et)⟩, hd H _ fun v H1 s1 hv => ?_⟩
  refine ⟨t, xs, v, rfl, rfl, s1 _ _ et, by rw [dpA_len (hx H fun _ _ e _ => e)]; exact n, k _ (fun b o e nb => ?_) ⟨xs ++ [v], upd_same, fun G ag => ?_⟩⟩
  · rw [upd_ne nb]
    exact s1 _ _ e
  · refine dpA_app (hx G fun b o e nb => ag b o (by rw [upd_ne nb]; exact s1 _ _ e) nb) (.cons (hv G fun b o nn e => ?_) .nil)
    have nb : b ≠ t := fun q => by
      rw [q, et] at nn
      cases nn
    exact ag b o (by rw [upd_ne nb]; exact e) nb
end
/-! ### words for a law -/
theorem same_but {p : Addr} {H H1 H2 : Hp} (s : Same H H1) (n : H p = none) (h2 : But p H1 H2) : Same H H2 := fun b o e => h2 b o (s b o e) (ne_of_none e n)
theorem turns {L i : Nat} (h : i < (if (if (2 : Int) < (L : Int) then (2 : Int) else (L : Int)) > 1 then (if (2 : Int) < (L : Int) then (2 : Int) else (L : Int)) else 1).toNat) : i ≤ 1 ∧ (i < L ∨ L = 0) := by
  split at h <;> split at h <;> omega
theorem dpL {K : PySem.W.Frag} {H : Hp} {t : Addr} {xs : List V} {ds : List PyData} (n : H t = none) (h : DpAll K H xs ds) : Dp K (upd H t (.lst xs)) (.ref t) (.list ds) := .lst (.inl (.inl upd_same)) (dpA_same (same_upd n) h)
theorem range_bounds {L : Nat} : -(2 ^ 62) ≤ (if (if (2 : Int) < (L : Int) then (2 : Int) else (L : Int)) > 1 then (if (2 : Int) < (L : Int) then (2 : Int) else (L : Int)) else 1) ∧ (if (if (2 : Int) < (L : Int) then (2 : Int) else (L : Int)) > 1 then (if (2 : Int) < (L : Int) then (2 : Int) else (L : Int)) else 1) < 2 ^ 62 := by
  split <;> split <;> omega
theorem op_P {r : R2} {ta tb : TE} {σ : L2.St} {H : Hp} {Q : VK} (P1 : V → Hp → Prop) (P2 : V → Hp → V → Hp → Prop) (h1 : ∀ Q' : VK, (∀ v H', P1 v H' → Q' v H') → ta σ H Q')
    (h2 : ∀ v H1, P1 v H1 → ∀ Q' : VK, (∀ u H', P2 v H1 u H' → Q' u H') → tb σ H1 Q') (k : ∀ v H1 u H2, P1 v H1 → P2 v H1 u H2 → r v u H2 Q) : tOp r ta tb σ H Q :=
  h1 _ fun v H1 p1 => h2 v H1 p1 _ fun u H2 p2 => k v H1 u H2 p1 p2
theorem ifop_P {r : R2} {ta tb : TE} {t1 t2 : TS} {D : Ends} {σ : L2.St} {H : Hp} (P1 : V → Hp → Prop) (P2 : V → Hp → V → Hp → Prop) (h1 : ∀ Q' : VK, (∀ v H', P1 v H' → Q' v H') → ta σ H Q')
    (h2 : ∀ v H1, P1 v H1 → ∀ Q' : VK, (∀ u H', P2 v H1 u H' → Q' u H') → tb σ H1 Q') (k : ∀ v H1 u H2, P1 v H1 → P2 v H1 u H2 → r v u H2 fun x H' => ∃ b, x = .bl b ∧ if b = true then t1 D σ H' else t2 D σ H') : tIfS (tTest (tOp r ta tb)) t1 t2 D σ H :=
  op_P P1 P2 h1 h2 k
theorem ifor_P {r : R2} {ta tb : TE} {c2 : TT} {t1 t2 : TS} {D : Ends} {σ : L2.St} {H : Hp} (P1 : V → Hp → Prop) (P2 : V → Hp → V → Hp → Prop) (h1 : ∀ Q' : VK, (∀ v H', P1 v H' → Q' v H') → ta σ H Q')
    (h2 : ∀ v H1, P1 v H1 → ∀ Q' : VK, (∀ u H', P2 v H1 u H' → Q' u H') → tb σ H1 Q') (k : ∀ v H1 u H2, P1 v H1 → P2 v H1 u H2 → r v u H2 fun x H' => ∃ b, x = .bl b ∧ if b = true then (if true = true then t1 D σ H' else t2 D σ H') else tIfS c2 t1 t2 D σ H') : tIfS (tOr (tTest (tOp r ta tb)) c2) t1 t2 D σ H :=
  h1 _ fun v H1 p1 => h2 v H1 p1 _ fun u H2 p2 => k v H1 u H2 p1 p2
/-! ### Book.__init__ -/
/-- an argument that is a list or a tuple of items, or neither -/
inductive InD (α : Type) where
  | no
  | seq (p : Addr) (xs : List V) (l : List α)
def InAt {α : Type} (K : PySem.W.Frag) (R : Hp → V → α → Prop) (H : Hp) (v : V) : InD α → Prop
  | .no => NoSeq K H v
  | .seq p xs l => v = .ref p ∧ (SqL K H p xs ∨ SqT K H p xs) ∧ Items (R H) xs l ∧ l.length ≤ 20
def fN : FI → Str
  | .fn F => F.nm
  | .odd => ""
/-- names with what stands at them, the last one holds -/
def namesK (l : List (V × FI)) : List (Key × V) := l.foldl (fun acc p => putK acc (.inr (fN p.2) : Key) p.1) []
theorem namesK_snoc (l : List (V × FI)) (p : V × FI) : namesK (l ++ [p]) = putK (namesK l) (.inr (fN p.2) : Key) p.1 := by
  unfold namesK
  rw [List.foldl_append]
  rfl
theorem namesK_len : ∀ (l : List (V × FI)), (namesK l).length ≤ l.length := fun l => by
  have h : ∀ (l : List (V × FI)) (acc : List (Key × V)), (l.foldl (fun acc p => putK acc (.inr (fN p.2) : Key) p.1) acc).length ≤ acc.length + l.length := fun l => by
    induction l with
    | nil => exact fun acc => Nat.le_refl _
    | cons p l ih =>
      intro acc
      have h1 := ih (putK acc (.inr (fN p.2) : Key) p.1)
      have h2 := length_putK acc (.inr (fN p.2) : Key) p.1
      rw [List.foldl_cons, List.length_cons]
      omega
  exact Nat.le_trans (h l []) (by rw [List.length_nil, Nat.zero_add]; exact Nat.le_refl _)
theorem namesK_val (l : List (V × FI)) (z : Str) : ∀ acc : List (Key × V), valV (l.foldl (fun acc p => putK acc (.inr (fN p.2) : Key) p.1) acc) (.inr z : Key) = ((l.reverse.find? fun p => decide (fN p.2 = z)).map (·.1)).or (valV acc (.inr z : Key)) := by
  induction l with
  | nil => exact fun acc => rfl
  | cons p l ih =>
    intro acc
    rw [List.foldl_cons, ih, List.reverse_cons, List.find?_append, valV_put]
    cases h : l.reverse.find? fun p => decide (fN p.2 = z) with
    | some q => rfl
    | none =>
      rw [Option.none_or]
      by_cases e : fN p.2 = z
      · rw [if_pos (by rw [e]), List.find?_cons_of_pos (by exact decide_eq_true e)]
        rfl
      · rw [if_neg (fun q => e (Sum.inr.inj q).symm), List.find?_cons_of_neg (by simpa using e)]
        rfl
/-- how the Book stands when it is made -/
def BookLeft (K : PySem.W.Frag) (H : Hp) (CK a dx : Addr) (xs ys : List V) (js : List FI) : Prop := ∃ t1 t2 D, H a = some (.ins CK dx [("_cells", .ref t1), ("_functions", .ref t2), ("_by_name", .ref D)]) ∧ SqT K H t1 xs ∧ SqT K H t2 ys ∧ H D = some (.dK (namesK (ys.zip js)))
inductive BErr where
  | cell (i : Option Nat)
  | func (i : Option Nat)
  | many (n : Nat)
def idxV : Option Nat → V
  | none => .non
  | some i => .int (i : Nat)
def bookOut (c : InD CI) (f : InD FI) : Option BErr :=
  match c with
  | .no => some (.cell none)
  | .seq _ _ is =>
    match badC [] 0 is with
    | some i => some (.cell (some i))
    | none =>
      if 6 < is.length then some (.many 6) else
      match f with
      | .no => some (.func none)
      | .seq _ _ js =>
        if js.length = 0 then some (.func none) else
        match badF (kindsK is) [] 0 js with
        | some i => some (.func (some i))
        | none => if 8 < js.length then some (.many 8) else none
def BWish (H : Hp) (CC CN CO : Addr) (E : XK) (ok : Prop) : Option BErr → Prop
  | some (.cell i) => EWish H CC "index" (idxV i) E
  | some (.func i) => EWish H CN "index" (idxV i) E
  | some (.many n) => EWish H CO "limit" (.int (n : Nat)) E
  | none => ok
theorem EWish.back {H H1 : Hp} {C : Addr} {f : Str} {v : V} {E : XK} (h : EWish H C f v E) (s : Same H H1) : EWish H1 C f v E := fun H2 dd H' s2 l => h H2 dd H' (s.trans s2) l
abbrev sBook : Stmt := inClass (topS 60) 0
theorem scBook : FnScope ["self", "cells", "functions", "function"] ["self", "cells", "functions"] (defScope sBook) := ⟨rfl, rfl, rfl, by decide +kernel, rfl, by decide +kernel, by decide +kernel⟩
def spBook (K : PySem.W.Frag) (CK C CF CC CN CO : Addr) : Sp := fun vs H Q E => ∃ (a dx : Addr) (vc vf : V) (c : InD CI) (f : InD FI), vs = [.ref a, vc, vf] ∧ H a = some (.ins CK dx []) ∧ InAt K (fun H => CItem K H C) H vc c ∧ InAt K (fun H => FItem K H CF) H vf f ∧
  BWish H CC CN CO E (∀ H', But a H H' → (∀ p xs is r ys js, c = .seq p xs is → f = .seq r ys js → BookLeft K H' CK a dx xs ys js) → Q .non H') (bookOut c f)
structure BookC (K : PySem.W.Frag) (CK : Addr) : Prop where
  cl : Cls K CK
  n1 : NoAttr K CK "_cells"
  n2 : NoAttr K CK "_functions"
  n3 : NoAttr K CK "_by_name"
theorem good_fns {kvs : List (Key × V)} : ∀ {js : List FI} {avs : List (Key × V)} {i : Nat}, badF kvs avs i js = none → ∀ (j : Nat) c, js[j]? = some c → ∃ F, c = FI.fn F
  | [], _, _, _, _, _, e => by simp at e
  | .odd :: _, _, _, h, _, _, _ => by cases h
  | .fn F :: r, avs, i, h, j, c, e => by
    unfold badF at h
    split at h
    · cases j with
      | zero =>
        cases e
        exact ⟨F, rfl⟩
      | succ j => exact good_fns h j c e
    · cases h
theorem q_fldTup {K : PySem.W.Frag} {a C dx p : Addr} {fs : List (Str × V)} {f : Str} {i : Nat} {xs : List V} {tz : TS} {D : Ends} {σ : L2.St} {H : Hp} (at0 : σ[0]? = some (some (V.ref a))) (ati : σ[i]? = some (some (V.ref p))) (e : H a = some (.ins C dx fs)) (hs : SqL K H p xs ∨ SqT K H p xs) (cl : Cls K C) (no : NoAttr K C f) (few : fs.length < 1000)
    (k : ∀ G t, But a H G → G a = some (.ins C dx (putF f (.ref t) fs)) → SqT K G t xs → tz D σ G) : tSeq (sFld K (tVar 0) (tCB (fun xs H Q => ∃ p ys, xs = [V.ref p] ∧ ((SqL K H p ys ∧ ∀ l, H l = none → Q (V.ref l) (upd H l (.tup ys))) ∨ (SqT K H p ys ∧ Q (V.ref p) H))) (tCons (tVar i) tNil)) f) tz D σ H := by
  refine ⟨.ref p, ati, p, xs, rfl, ?_⟩
  rcases hs with hs | hs
  · refine .inl ⟨hs, fun l nl => ⟨.ref a, at0, a, C, dx, fs, rfl, same_upd nl _ _ e, cl, no, few, k _ _ (fun b o h n => ?_) upd_same (.inl (.inl ?_))⟩⟩
    · rw [upd_ne n]
      exact same_upd nl _ _ h
    · rw [upd_ne (ne_of_none e nl).symm]
      exact upd_same
  · exact .inr ⟨hs, .ref a, at0, a, C, dx, fs, rfl, e, cl, no, few, k _ _ But.upd upd_same (sqT_aside e (fun b o h n => But.upd b o h n) hs)⟩
section
variable {P : Program} {w : World} {K : PySem.W.Frag} {mg : Str → Option Value} {base : Heap}
theorem ok_book {CK C CF CC CN CO f fA fB : Addr} {fd dA dB : FuncData} (F : Fun K "__init__" "Book.__init__" sBook f fd) (M : Blt mg) (BC : BookC K CK) (FC : FldC K CF)
    (GA : FnOk P w K mg base (L2.CX P w) 3 fA dA ["cells"] (spCC K C CC CO)) (kA : PySem.W.keepIn K (.ref fA) = true) (bA : Binds K dA ["cells"] []) (gA : mg "_check_cells" = some (.ref fA))
    (GB : FnOk P w K mg base (L2.CX P w) 10 fB dB ["cells", "functions"] (spCFn K C CF CN CO)) (kB : PySem.W.keepIn K (.ref fB) = true) (bB : Binds K dB ["cells", "functions"] []) (gB : mg "_check_functions" = some (.ref fB)) :
    FnOk P w K mg base (L2.CX P w) 11 f fd ["self", "cells", "functions"] (spBook K CK C CF CC CN CO) := by
  refine F.okX scBook (fun vs H Q E h => ?_) (fun cdv A outer s H vs Q E hr h => ?_)
  · obtain ⟨a, dx, vc, vf, c, fi, rfl, _⟩ := h
    rfl
  · obtain ⟨a, dx, vc, vf, c, fi, rfl, ea, hc, hf, wish⟩ := h
    have hr3 : Room 3 (A.deeper (envOfC "Book.__init__" (defScope sBook) s.heap.objs.size f cdv)) := hr.mono (by decide)
    refine ⟨_, pss_cons (ps_expr (pe_call (E := E) GA hr3 (by rfl) gA kA bA .nil (passes_call (takes_of rfl rfl rfl rfl) (fun _ _ _ _ h => h)) (pa_cons (pv 1) pa_nil)))
      (pss_cons (ps_expr (pe_call (E := E) GB hr (by rfl) gB kB bB .nil (passes_call (takes_of rfl rfl rfl rfl) (fun _ _ _ _ h => h)) (pa_cons (pv 1) (pa_cons (pv 2) pa_nil))))
      (pss_cons (ps_fld (pv 0) (pe_callTy call_tuple_of (by rfl) M.tuple (by decide +kernel) (pa_cons (pv 1) pa_nil)) (by rfl))
      (pss_cons (ps_fld (pv 0) (pe_callTy call_tuple_of (by rfl) M.tuple (by decide +kernel) (pa_cons (pv 2) pa_nil)) (by rfl))
      (pss_one (ps_fld (pv 0) (pe_dc (own := [("function", 3)]) (g := gName 3) (wi := iSeqA K (tVar 2)) (tt := tYes) (tk := tFld K (tVar 3) "name") (tv := tVar 3) (by rfl) scBook.nd (pi_seqA (pv 2)) (blkOk_by (own := [("function", 3)]) (N := ["self", "cells", "functions", "function"]) (sc := defScope sBook) (by decide +kernel))
          (fun _ _ _ _ _ => pg_name (i := 3) scBook.nd rfl (Or.inl rfl)) (fun _ _ _ _ _ => pts_nil) (fun _ _ _ _ _ => pe_fld (pv 3) (by rfl)) (fun _ _ _ _ _ => pv 3)) (by rfl)))))), ?_⟩
    refine ⟨vc, rfl, vc, rfl, ?_⟩
    cases c with
    | no => exact .inl ⟨hc, wish⟩
    | seq p xs is =>
    obtain ⟨rfl, hA, hI, h20⟩ := hc
    refine .inr ⟨p, xs, is, rfl, hA, hI, h20, ?_⟩
    cases hb : badC [] 0 is with
    | some i =>
      have e : bookOut (.seq p xs is) fi = some (.cell (some i)) := by
        unfold bookOut
        dsimp only
        rw [hb]
      rw [e] at wish
      exact wish
    | none =>
    by_cases h6 : 6 < is.length
    · have e : bookOut (.seq p xs is) fi = some (.many 6) := by
        unfold bookOut
        dsimp only
        rw [hb]
        dsimp only
        rw [if_pos h6]
      rw [e] at wish
      unfold CWish8
      rw [decide_eq_true h6]
      exact wish
    · unfold CWish8
      rw [decide_eq_false h6]
      refine iteF fun H1 s1 => ?_
      have hI1 := hI.mono fun x c h => h.same s1
      have hA1 := sqA_same hA s1
      refine ⟨.ref p, rfl, vf, rfl, p, xs, is, vf, rfl, hA1, hI1, hb, by omega, ?_⟩
      cases fi with
      | no =>
        have e : bookOut (.seq p xs is) .no = some (.func none) := by
          unfold bookOut
          dsimp only
          rw [hb]
          dsimp only
          rw [if_neg h6]
        rw [e] at wish
        exact .inl ⟨NoSeq.same hf s1, EWish.back wish s1⟩
      | seq r ys js =>
      obtain ⟨rfl, hY, hJ, j20⟩ := hf
      refine .inr ⟨r, ys, js, rfl, sqA_same hY s1, hJ.mono fun x c h => h.same s1, j20, ?_⟩
      have e1 : bookOut (.seq p xs is) (.seq r ys js) = (if js.length = 0 then some (.func none) else
        match badF (kindsK is) [] 0 js with
        | some i => some (.func (some i))
        | none => if 8 < js.length then some (.many 8) else none) := by
        unfold bookOut
        dsimp only
        rw [hb]
        dsimp only
        rw [if_neg h6]
      unfold FWish8
      by_cases hz : js.length = 0
      · rw [if_pos hz] at e1
        rw [e1] at wish
        rw [decide_eq_true hz]
        exact iteT (EWish.back wish s1)
      · rw [if_neg hz] at e1
        rw [decide_eq_false hz]
        refine iteF ?_
        cases hbf : badF (kindsK is) [] 0 js with
        | some i =>
          rw [hbf] at e1
          rw [e1] at wish
          exact EWish.back wish s1
        | none =>
        rw [hbf] at e1
        dsimp only at e1
        by_cases h8 : 8 < js.length
        · rw [if_pos h8] at e1
          rw [e1] at wish
          rw [decide_eq_true h8]
          exact iteT (EWish.back wish s1)
        · rw [if_neg h8] at e1
          rw [e1] at wish
          rw [decide_eq_false h8]
          refine iteF fun H2 s2 => ?_
          have t2 := s1.trans s2
          have keepA : ∀ {b : Addr} {o : HO} {H' : Hp}, But a H H' → H b = some o → b ≠ a → H' b = some o := fun k e n => k _ _ e n
          have seqL : ∀ {H' : Hp}, But a H H' → ∀ {p : Addr} {xs : List V}, SqL K H p xs → SqL K H' p xs := fun k _ _ h => sqL_aside ea (fun b o e n => k b o e n) h
          have seqT : ∀ {H' : Hp}, But a H H' → ∀ {p : Addr} {xs : List V}, SqT K H p xs → SqT K H' p xs := fun k _ _ h => sqT_aside ea (fun b o e n => k b o e n) h
          have nA : ∀ {b : Addr} {o : HO} {H' : Hp}, Same H H' → H' b = none → a ≠ b := fun s n => ne_of_none (s _ _ ea) n
          refine q_fldTup (i := 1) rfl rfl (t2 _ _ ea) (sqA_same hA t2) BC.cl BC.n1 (by show 0 < 1000; decide) fun H3 t1 b3 e3 q3 => ?_
          have k3 : But a H H3 := (But.of t2).trans b3
          refine q_fldTup (i := 2) rfl rfl e3 (hY.imp (fun h => seqL k3 h) (fun h => seqT k3 h)) BC.cl BC.n2 (by show 1 < 1000; decide) fun H4 t2 b4 e4 q4 => ?_
          have k4 := k3.trans b4
          have q3 : SqT K H4 t1 xs := sqT_aside e3 (fun b o e n => b4 b o e n) q3
          obtain ⟨Pc, hPc⟩ : ∃ Pc : Addr → Nat → Hp → Prop, Pc = fun D i H' => But a H H' ∧ H' a = some (.ins CK dx [("_cells", .ref t1), ("_functions", .ref t2)]) ∧ SqT K H' t1 xs ∧ SqT K H' t2 ys ∧ H' D = some (.dK (namesK ((ys.zip js).take i))) := ⟨_, rfl⟩
          have hc0 : ∀ D, H4 D = none → Pc D 0 (upd H4 D (.dK [])) := fun D hD => by
            subst hPc
            have nD := ne_of_none e4 hD
            exact ⟨fun b o e n => same_upd hD _ _ (k4 _ _ e n), by rw [upd_ne nD]; exact e4, same_sqT (same_upd hD) q3, same_sqT (same_upd hD) q4, by rw [List.take_zero]; exact upd_same⟩
          refine ⟨.ref r, rfl, r, rfl, ?_⟩
          rcases hY with hY | hY
          case' inl => refine .inl ⟨⟨_, seqL k4 hY⟩, fun D hD => ?_⟩; refine walk_gen (walk_list (K := K) (a := r) (xs := ys)) (Pc D) (hc0 D hD) (fun i H' _ pr => by subst hPc; exact seqL pr.1 hY) (fun i x G1 G2 hi pr y => ?_) (fun G1 pr => ?_)
          case' inr => refine .inr ⟨⟨_, seqT k4 hY⟩, fun D hD => ?_⟩; refine walk_gen (walk_tup (K := K) (a := r) (xs := ys)) (Pc D) (hc0 D hD) (fun i H' _ pr => by subst hPc; exact seqT pr.1 hY) (fun i x G1 G2 hi pr y => ?_) (fun G1 pr => ?_)
          all_goals subst hPc
          case' inl.refine_1 | inr.refine_1 =>
            obtain ⟨k5, e5, u3, u4, eD⟩ := pr
            obtain ⟨rfl, hx⟩ := y
            obtain ⟨c, hc, hx1⟩ := hJ.at hx
            obtain ⟨G, rfl⟩ := good_fns hbf _ _ hc
            have hz : (ys.zip js)[i]? = some (x, .fn G) := List.getElem?_zip_eq_some.mpr ⟨hx, hc⟩
            obtain ⟨b, rfl, ok, dy, gs, vr, wa, eb, l1, _⟩ := hx1
            have nb : b ≠ a := fun q => by
              rw [q, ea] at eb
              cases eb
              cases l1
            have eb5 := k5 _ _ eb nb
            refine And.intro rfl ?_
            unfold tYes
            refine iteT ?_
            have jl := (List.getElem?_eq_some_iff.mp hc).1
            refine ⟨.ref b, rfl, b, CF, dy, gs, _, rfl, eb5, FC.cl, FC.n1, l1, .ref b, rfl, _, .inr G.nm, rfl, eD, Nat.lt_of_le_of_lt (show _ ≤ 20 from Nat.le_trans (namesK_len _) (by rw [List.length_take, List.length_zip]; omega)) (by decide), ?_⟩
            have nD : a ≠ D := ne_of_none e4 hD
            refine ⟨fun b o e n => ?_, by rw [upd_ne nD]; exact e5, sqT_dk eD But.upd u3, sqT_dk eD But.upd u4, ?_⟩
            · have := k4 _ _ e n
              rw [upd_ne (ne_of_none this hD)]
              exact k5 _ _ e n
            · rw [take_snoc hz, namesK_snoc]
              exact upd_same
          all_goals
            obtain ⟨k5, e5, u3, u4, eD⟩ := pr
            have full : (ys.zip js).take ys.length = ys.zip js := List.take_of_length_le (by rw [List.length_zip]; omega)
            rw [full] at eD
            have ad : a ≠ D := ne_of e5 eD (fun z => nomatch z)
            refine ⟨.ref a, rfl, a, CK, dx, _, rfl, e5, BC.cl, BC.n3, (by show 2 < 1000; decide), wish _ (k5.trans But.upd) fun p' xs' is' r' ys' js' ec ef => ?_⟩
            cases ec
            cases ef
            exact ⟨t1, t2, D, upd_same, sqT_aside e5 (fun b o e n => But.upd b o e n) u3, sqT_aside e5 (fun b o e n => But.upd b o e n) u4, by rw [upd_ne ad.symm]; exact eD⟩
end
/-! ### own in, not in, len, [] -/
/-- an own method by which an operation goes -/
structure Op1 (P : Program) (w : World) (K : PySem.W.Frag) (mg : Str → Option Value) (base : Heap) (CX : CXT) (n : Nat) (C : Addr) (name : String) (g : Addr) (fd : FuncData) (ps : List Str) (sp : Sp) : Prop where
  at_ : PySem.W.findIn K (.ref C) name = some (some (.ref g))
  fn : PySem.W.isFn K (.ref g) = true
  fi : PySem.W.fnIn K g = true
  ok : FnOk P w K mg base CX n g fd ps sp
  b : Binds K fd ps []
section
variable {X : Cx} {CX : CXT} {n : Nat} {C g : Addr} {fd : FuncData} {ps : List Str} {sp : Sp} {E : XK}
/-- y in x, by x's own __contains__ -/
def rOwnIn (C : Addr) (sp : Sp) (E : XK) (neg : Bool) : R2 := fun y x H Q => ∃ a dx fs, x = .ref a ∧ H a = some (.ins C dx fs) ∧ sp [x, y] H (fun v H' => ∃ k, v = .bl k ∧ Q (.bl (if neg = true then !k else k)) H') E
theorem op_ownIn (O : Op1 X.prog X.w X.K X.mg X.base CX n C "__contains__" g fd ps sp) (hr : Room n X.A) (hx : Passes CX X E) : OpR X (compareOp .In) (rOwnIn C sp E false) := by
  intro pins s σ H y x u v Q I ry rx h
  obtain ⟨a, dx, fs, rfl, ea, q⟩ := h
  cases (show v = Value.ref a from rx)
  obtain ⟨mA, J, _⟩ := ins_get I.hok ea
  obtain ⟨od, J, _⟩ := J.look
  obtain ⟨m, hF⟩ := I.fr
  refine PySem.W.in_K hF I.ok.mod.kin J O.at_ O.fn (wpAny_mono (wpAny_call (SlX.run_at (us := [.ref a, u]) (ws := [.ref a, y]) (O.ok.raw O.b .nil) hr I.env0 hx I (.cons rfl (.cons ry .nil)) q)) (fun w' s' z => ?_) fun _ _ z => z)
  obtain ⟨z', H', I', rz, k, ez, qz⟩ := z
  subst ez
  cases rz
  exact wpAny_truthy_bool ⟨.bl k, H', I', rfl, qz⟩
theorem op_ownNotIn (O : Op1 X.prog X.w X.K X.mg X.base CX n C "__contains__" g fd ps sp) (hr : Room n X.A) (hx : Passes CX X E) : OpR X (compareOp .NotIn) (rOwnIn C sp E true) := by
  intro pins s σ H y x u v Q I ry rx h
  obtain ⟨a, dx, fs, rfl, ea, q⟩ := h
  cases (show v = Value.ref a from rx)
  obtain ⟨mA, J, _⟩ := ins_get I.hok ea
  obtain ⟨od, J, _⟩ := J.look
  obtain ⟨m, hF⟩ := I.fr
  refine PySem.W.notIn_K hF I.ok.mod.kin J O.at_ O.fn (wpAny_mono (wpAny_call (SlX.run_at (us := [.ref a, u]) (ws := [.ref a, y]) (O.ok.raw O.b .nil) hr I.env0 hx I (.cons rfl (.cons ry .nil)) q)) (fun w' s' z => ?_) fun _ _ z => z)
  obtain ⟨z', H', I', rz, k, ez, qz⟩ := z
  subst ez
  cases rz
  exact wpAny_truthy_bool ⟨.bl (!k), H', I', rfl, qz⟩
/-- len(x), by x's own __len__ -/
def rOwnLen (C : Addr) (sp : Sp) (E : XK) : List V → Hp → VK → Prop := fun xs H Q => ∃ a dx fs, xs = [V.ref a] ∧ H a = some (.ins C dx fs) ∧ sp [.ref a] H (fun v H' => ∃ k : Nat, v = .int (k : Nat) ∧ k < 2 ^ 63 ∧ Q v H') E
theorem call_ownLen (O : Op1 X.prog X.w X.K X.mg X.base CX n C "__len__" g fd ps sp) (hr : Room (n + 1) X.A) (hx : Passes CX X E) : CallR X (.builtin "len") (rOwnLen C sp E) := by
  intro pins s σ H xs us Q I r h
  obtain ⟨a, dx, fs, rfl, ea, q⟩ := h
  obtain ⟨u, rfl, rx⟩ := vals1 r
  cases (show u = Value.ref a from rx)
  obtain ⟨mA, J, _⟩ := ins_get I.hok ea
  obtain ⟨od, J, _⟩ := J.look
  obtain ⟨m, hF⟩ := I.fr
  refine PySem.W.len_K hF I.ok.mod.kin J O.at_ O.fn (wpAny_mono (wpAny_call (SlX.run_at (us := [.ref a]) (ws := [.ref a]) (O.ok.raw O.b .nil) hr.in1 I.env0.in1 hx I (.cons rfl .nil) q)) (fun w' s' z => ?_) fun _ _ z => z)
  obtain ⟨z', H', I', rz, k, ez, hk, qz⟩ := z
  subst ez
  obtain ⟨t, rfl⟩ := rz
  refine ⟨⟨Int.natCast_nonneg k, by omega⟩, .int (k : Nat), H', I'.tok _, ⟨_, rfl⟩, qz⟩
/-- x[y], by x's own __getitem__ -/
def tOwnSub (C : Addr) (sp : Sp) (E : XK) (td ty : TE) : TE := fun σ H Q => td σ H fun x H1 => ty σ H1 fun y H2 => ∃ a dx fs, x = .ref a ∧ H2 a = some (.ins C dx fs) ∧ sp [x, y] H2 Q E
theorem pe_ownSub {o i : Expr} {pos : Pos} {td ty : TE} (O : Op1 X.prog X.w X.K X.mg X.base CX n C "__getitem__" g fd ps sp) (hr : Room (n + 1) X.A) (hx : Passes CX X E) (ho : PE X o td) (hi : PE X i ty)
    (hsl : ∀ (a : Addr) (v : Value), subscripted i true (.ref a) v = runValue (.builtin "lifetime.subscript" ⟨[.ref a, v], []⟩)) : PE X (.Subscript o i pos) (tOwnSub C sp E td ty) := by
  refine ⟨fun pins s σ H Q I h => ?_⟩
  refine Subscript_ (thn (ho.run pins s σ H _ I h) fun u s1 ⟨x, H1, I1, rx, q1⟩ => thn (hi.run pins s1 σ H1 _ I1 q1) fun iv s2 ⟨y, H2, I2, ry, a, dx, fs, ex, ea, q2⟩ => ?_)
  subst ex
  obtain rfl : u = Value.ref a := rx
  obtain ⟨mA, J, _⟩ := ins_get I2.hok ea
  obtain ⟨od, J, _⟩ := J.look
  obtain ⟨m, hF⟩ := I2.fr
  exact PySem.W.sub_K hF I2.ok.mod.kin J O.at_ O.fi O.fn (wpAny_call (SlX.run_at (us := [.ref a, iv]) (ws := [.ref a, y]) (O.ok.raw O.b .nil) hr.in1 I2.env0.in1 hx I2 (.cons rfl (.cons ry .nil)) q2)) (hsl a iv)
end
/-! ### errors of KeyError -/
def famK : Fam := ⟨"LookupError", "LookupError.__new__", "KeyError", "KeyError.__init__", [.type "KeyError", .type "LookupError", .type "Exception", .type "BaseException", .type "object"]⟩
theorem ini_key : ExG.Ini "KeyError" "KeyError.__init__" := ⟨PyProof.Rows.excClass_KeyError.init, PyProof.Rows.excClass_KeyError.initEntry, PyProof.Rows.excClass_KeyError.initKind, PyProof.Rows.excClass_KeyError.initSplit, PyProof.Rows.excClass_KeyError.initSig, PyProof.Rows.excClass_KeyError.notStar⟩
theorem famK_ok : FamOk famK where
  new := ⟨_, _, PySem.F.excBase_LookupError⟩
  cha := ⟨by decide +kernel, by decide +kernel, by decide +kernel⟩
  ini := ini_key
  has := by decide +kernel
  pas := fun self => by kernel_rfl
  obj := by decide +kernel
/-! ### a whole Book, by its data -/
def CRow (H : Hp) (C : Addr) (v : V) (c : Str × Str) : Prop := ∃ b, v = .ref b ∧ CellAt H C b c.1 c.2
def FRow (K : PySem.W.Frag) (H : Hp) (CF CL : Addr) (v : V) (F : FX) : Prop := ∃ b, v = .ref b ∧ FunFull K H CF CL b F
def byN (ys : List V) (fs : List FX) : List (Key × V) := namesK (ys.zip (fs.map fun F => FI.fn F.d))
def BookAt (K : PySem.W.Frag) (H : Hp) (CK C CF CL a : Addr) (cells : List (Str × Str)) (fs : List FX) : Prop := ∃ dx t1 t2 D xs ys, H a = some (.ins CK dx [("_cells", .ref t1), ("_functions", .ref t2), ("_by_name", .ref D)]) ∧ SqT K H t1 xs ∧ Rows (CRow H C) xs cells ∧ SqT K H t2 ys ∧ Rows (FRow K H CF CL) ys fs ∧ H D = some (.dK (byN ys fs)) ∧ cells.length ≤ 6 ∧ fs.length ≤ 8
theorem BookAt.same {K : PySem.W.Frag} {H H' : Hp} {CK C CF CL a : Addr} {cells : List (Str × Str)} {fs : List FX} (h : BookAt K H CK C CF CL a cells fs) (s : Same H H') : BookAt K H' CK C CF CL a cells fs := by
  obtain ⟨dx, t1, t2, D, xs, ys, e, h1, r1, h2, r2, h3, l⟩ := h
  refine ⟨dx, t1, t2, D, xs, ys, s _ _ e, same_sqT s h1, r1.mono fun v c h => ?_, same_sqT s h2, r2.mono fun v F h => ?_, s _ _ h3, l⟩
  · obtain ⟨b, e, h⟩ := h
    exact ⟨b, e, h.same s⟩
  · obtain ⟨b, e, h⟩ := h
    exact ⟨b, e, h.same s⟩
def atName (fs : List FX) (z : Str) : Option FX := fs.reverse.find? fun F => decide (F.d.nm = z)
def nameIn (fs : List FX) : PyData → Option FX
  | .str z => atName fs z
  | _ => none
theorem atName_snoc (fs : List FX) (F : FX) (z : Str) : atName (fs ++ [F]) z = if F.d.nm = z then some F else atName fs z := by
  unfold atName
  rw [List.reverse_append]
  show List.find? _ (F :: fs.reverse) = _
  by_cases e : F.d.nm = z
  · rw [if_pos e, List.find?_cons_of_pos (by exact decide_eq_true e)]
  · rw [if_neg e, List.find?_cons_of_neg (by simpa using e)]
theorem atName_nm {fs : List FX} {z : Str} {F : FX} (h : atName fs z = some F) : F.d.nm = z ∧ F ∈ fs := by
  unfold atName at h
  exact ⟨of_decide_eq_true (List.find?_some (p := fun F : FX => decide (F.d.nm = z)) h), List.mem_reverse.mp (List.mem_of_find?_eq_some h)⟩
theorem names_at {R : V → FX → Prop} {ys : List V} {fs : List FX} (r : Rows R ys fs) (z : Str) : ∀ n, n ≤ ys.length →
    (∃ F g, atName (fs.take n) z = some F ∧ valV (namesK ((ys.zip (fs.map fun F => FI.fn F.d)).take n)) (.inr z : Key) = some g ∧ R g F) ∨ (atName (fs.take n) z = none ∧ valV (namesK ((ys.zip (fs.map fun F => FI.fn F.d)).take n)) (.inr z : Key) = none) := by
  intro n
  induction n with
  | zero => exact fun _ => .inr ⟨rfl, rfl⟩
  | succ n ih =>
    intro hn
    obtain ⟨y, hy⟩ : ∃ y, ys[n]? = some y := ⟨_, List.getElem?_eq_getElem (show n < ys.length by omega)⟩
    obtain ⟨F, hf⟩ : ∃ F, fs[n]? = some F := ⟨_, List.getElem?_eq_getElem (show n < fs.length by rw [← r.1]; omega)⟩
    have hz : (ys.zip (fs.map fun F => FI.fn F.d))[n]? = some (y, FI.fn F.d) := List.getElem?_zip_eq_some.mpr ⟨hy, by rw [List.getElem?_map, hf]; rfl⟩
    rw [take_snoc hf, take_snoc hz, atName_snoc, namesK_snoc, valV_put]
    show (∃ G g, (if F.d.nm = z then some F else atName (fs.take n) z) = some G ∧ (if (Sum.inr z : Key) = .inr F.d.nm then some y else valV (namesK ((ys.zip (fs.map fun F => FI.fn F.d)).take n)) (.inr z : Key)) = some g ∧ R g G) ∨ ((if F.d.nm = z then some F else atName (fs.take n) z) = none ∧ (if (Sum.inr z : Key) = .inr F.d.nm then some y else valV (namesK ((ys.zip (fs.map fun F => FI.fn F.d)).take n)) (.inr z : Key)) = none)
    by_cases e : F.d.nm = z
    · rw [if_pos e, if_pos (by rw [e])]
      exact .inl ⟨_, _, rfl, rfl, r.2 n _ _ hy hf⟩
    · rw [if_neg e, if_neg (fun q => e (Sum.inr.inj q).symm)]
      exact ih (by omega)
theorem byN_at {R : V → FX → Prop} {ys : List V} {fs : List FX} (r : Rows R ys fs) (z : Str) : (∃ F g, atName fs z = some F ∧ valV (byN ys fs) (.inr z : Key) = some g ∧ R g F) ∨ (atName fs z = none ∧ valV (byN ys fs) (.inr z : Key) = none) := by
  have h := names_at r z ys.length (Nat.le_refl _)
  rw [List.take_of_length_le (show fs.length ≤ ys.length by rw [r.1]; exact Nat.le_refl _), List.take_of_length_le (by rw [List.length_zip]; omega)] at h
  exact h
/-- the attributes and methods of a Book -/
structure BookK (K : PySem.W.Frag) (CK C CF : Addr) : Prop where
  cl : Cls K CK
  n1 : NoAttr K CK "_cells"
  n2 : NoAttr K CK "_functions"
  n3 : NoAttr K CK "_by_name"
  fc : FldC K CF
  cc : Cls K C
  cn : NoAttr K C "name"
abbrev sGet : Stmt := inClass (topS 60) 4
theorem scGet : FnScope ["self", "at"] ["self", "at"] (defScope sGet) := ⟨rfl, rfl, rfl, by decide +kernel, rfl, by decide +kernel, by decide +kernel⟩
abbrev sHasN : Stmt := inClass (topS 60) 3
theorem scHasN : FnScope ["self", "x"] ["self", "x"] (defScope sHasN) := ⟨rfl, rfl, rfl, by decide +kernel, rfl, by decide +kernel, by decide +kernel⟩
abbrev sBLen : Stmt := inClass (topS 60) 2
theorem scBLen : FnScope ["self"] ["self"] (defScope sBLen) := ⟨rfl, rfl, rfl, by decide +kernel, rfl, by decide +kernel, by decide +kernel⟩
abbrev sAllC : Stmt := inClass (topS 60) 6
theorem scAllC : FnScope ["self"] ["self"] (defScope sAllC) := ⟨rfl, rfl, rfl, by decide +kernel, rfl, by decide +kernel, by decide +kernel⟩
abbrev sBNames : Stmt := inClass (topS 60) 7
theorem scBNames : FnScope ["self", "function"] ["self"] (defScope sBNames) := ⟨rfl, rfl, rfl, by decide +kernel, rfl, by decide +kernel, by decide +kernel⟩
abbrev sBCell : Stmt := inClass (topS 60) 8
theorem scBCell : FnScope ["self", "name", "cell"] ["self", "name"] (defScope sBCell) := ⟨rfl, rfl, rfl, by decide +kernel, rfl, by decide +kernel, by decide +kernel⟩
def GetW (K : PySem.W.Frag) (H : Hp) (CF CL CU : Addr) (v : V) (Q : VK) (E : XK) : Option FX → Prop
  | some F => ∀ g, FunFull K H CF CL g F → Q (.ref g) H
  | none => EWish H CU "name" v E
def spGet (K : PySem.W.Frag) (CK C CF CL CU : Addr) : Sp := fun vs H Q E => ∃ (a : Addr) (v : V) (d : PyData) (cells : List (Str × Str)) (fs : List FX), vs = [.ref a, v] ∧ BookAt K H CK C CF CL a cells fs ∧ Dp K H v d ∧ GetW K H CF CL CU v Q E (nameIn fs d)
def spHasN (K : PySem.W.Frag) (CK C CF CL : Addr) : Sp := fun vs H Q _ => ∃ (a : Addr) (v : V) (d : PyData) (cells : List (Str × Str)) (fs : List FX), vs = [.ref a, v] ∧ BookAt K H CK C CF CL a cells fs ∧ Dp K H v d ∧ Q (.bl (nameIn fs d).isSome) H
def spBLen (K : PySem.W.Frag) (CK C CF CL : Addr) : Sp := fun vs H Q _ => ∃ (a : Addr) (cells : List (Str × Str)) (fs : List FX), vs = [.ref a] ∧ BookAt K H CK C CF CL a cells fs ∧ Q (.int (fs.length : Nat)) H
def spAllC (K : PySem.W.Frag) (CK C CF CL : Addr) : Sp := fun vs H Q _ => ∃ (a : Addr) (cells : List (Str × Str)) (fs : List FX), vs = [.ref a] ∧ BookAt K H CK C CF CL a cells fs ∧ ∀ l xs H', Same H H' → H l = none → H' l = some (.lst xs) → Rows (CRow H' C) xs cells → Q (.ref l) H'
def spBNames (K : PySem.W.Frag) (CK C CF CL : Addr) : Sp := fun vs H Q _ => ∃ (a : Addr) (cells : List (Str × Str)) (fs : List FX), vs = [.ref a] ∧ BookAt K H CK C CF CL a cells fs ∧ ∀ l H', Same H H' → H l = none → H' l = some (.lst ((fs.map fun F => F.d.nm).map V.str)) → Q (.ref l) H'
def cellIn (cells : List (Str × Str)) : PyData → Option (Str × Str)
  | .str z => cells.find? fun c => decide (c.1 = z)
  | _ => none
def CellW (H : Hp) (C CU : Addr) (v : V) (Q : VK) (E : XK) : Option (Str × Str) → Prop
  | some c => ∀ b H', Same H H' → CellAt H' C b c.1 c.2 → Q (.ref b) H'
  | none => EWish H CU "name" v E
def spBCell (K : PySem.W.Frag) (CK C CF CL CU : Addr) : Sp := fun vs H Q E => ∃ (a : Addr) (v : V) (d : PyData) (cells : List (Str × Str)) (fs : List FX), vs = [.ref a, v] ∧ BookAt K H CK C CF CL a cells fs ∧ Dp K H v d ∧ CellW H C CU v Q E (cellIn cells d)
theorem ps_raiseK : True := True.intro
section
variable {P : Program} {w : World} {K : PySem.W.Frag} {mg : Str → Option Value} {base : Heap}
theorem ok_bget {CK C CF CL CU f fU : Addr} {fd dU : FuncData} (F : Fun K "__getitem__" "Book.__getitem__" sGet f fd) (M : Blt mg) (BK : BookK K CK C CF) (TU : ErrO K mg famK "UnknownName" "name" CU fU) (GU : FnOk P w K mg base CX0 1 fU dU ["self", "name"] (spErr CU "name")) (bU : Binds K dU ["self", "name"] []) :
    FnOk P w K mg base (L2.CX P w) 3 f fd ["self", "at"] (spGet K CK C CF CL CU) := by
  refine F.okX scGet (fun vs H Q E h => ?_) (fun cdv A outer s H vs Q E hr h => ?_)
  · obtain ⟨a, v, d, cells, fs, rfl, _⟩ := h
    rfl
  · obtain ⟨a, v, d, cells, fs, rfl, ⟨dx, t1, t2, D, xs, ys, ea, h1, r1, h2, r2, h3, l6, l8⟩, hv, wish⟩ := h
    have one : (1 : Nat) ≤ 1000 := by decide
    refine ⟨_, pss_cons (ps_if (PW.pt (pw_or (pt_not (pt_val (pe_callB call_isi (by rfl) M.isinstance (by decide +kernel) (pa_cons (pv 1) (pa_cons (pe_bltn (v := .ty "str") (by rfl) M.str (by decide +kernel) rfl) pa_nil)))))
          (pw_or1 (pt_cmp (pc_dnotin (hu_of hr) (pv 1) (pe_fld (pv 0) (by rfl)))))))
          (pss_one (ps_raise rfl (takes_of rfl rfl rfl rfl) (pmk_fam (k := 1) (ps := ["self", "name"]) (sp := spErr CU "name") famK_ok TU GU (hr.mono (by decide)) bU pass0 (by rfl) (pa_cons (pv 1) pa_nil)))) pss_nil)
      (pss_one (ps_ret (pe_dget (hu_of hr) (pe_fld (pv 0) (by rfl)) (pv 1) (fun _ _ => rfl)))), ?_⟩
    refine ⟨v, rfl, v, _, _, _, _, rfl, .ty "str", dp_ty hv, kit_str K d, _, rfl, ?_⟩
    have bad : nameIn fs d = none → ∀ dd H', Left H dd ("name" : Str) v H' → E (.ref CU) (some dd) H' := fun e dd H' l => by
      rw [e] at wish
      exact wish _ dd H' (Same.refl H) l
    cases d with
    | str z =>
      cases hv
      refine iteF ⟨_, rfl, .ref a, rfl, a, CK, dx, _, .ref D, rfl, ea, BK.cl, BK.n3, rfl, D, _, rfl, .inl ⟨_, .inr z, .inl h3, rfl, rfl⟩, _, rfl, ?_⟩
      rcases byN_at r2 z with ⟨G, g, eG, eg, b, rfl, hF⟩ | ⟨eG, eg⟩
      · rw [eg]
        rw [show nameIn fs (.str z) = some G from eG] at wish
        exact iteF ⟨.ref a, rfl, a, CK, dx, _, .ref D, rfl, ea, BK.cl, BK.n3, rfl, .str z, rfl, D, .ref b, rfl, .inl ⟨_, .inr z, .inl h3, rfl, eg.symm⟩, wish b hF⟩
      · rw [eg]
        exact iteT ⟨.str z, rfl, one, mk_left fun dd H' l => bad eG dd H' l⟩
    | none => exact iteT (iteT ⟨v, rfl, one, mk_left fun dd H' l => bad rfl dd H' l⟩)
    | bool b => exact iteT (iteT ⟨v, rfl, one, mk_left fun dd H' l => bad rfl dd H' l⟩)
    | int b => exact iteT (iteT ⟨v, rfl, one, mk_left fun dd H' l => bad rfl dd H' l⟩)
    | list b => exact iteT (iteT ⟨v, rfl, one, mk_left fun dd H' l => bad rfl dd H' l⟩)
    | tuple b => exact iteT (iteT ⟨v, rfl, one, mk_left fun dd H' l => bad rfl dd H' l⟩)
    | dict b => exact iteT (iteT ⟨v, rfl, one, mk_left fun dd H' l => bad rfl dd H' l⟩)
theorem ok_bhas {CK C CF CL f : Addr} {fd : FuncData} (F : Fun K "__contains__" "Book.__contains__" sHasN f fd) (M : Blt mg) (BK : BookK K CK C CF) : FnOk P w K mg base CX0 1 f fd ["self", "x"] (spHasN K CK C CF CL) := by
  refine F.ok scHasN (fun vs H Q E h => ?_) (fun cdv A outer s H vs Q E hr h => ?_)
  · obtain ⟨a, v, d, cells, fs, rfl, _⟩ := h
    rfl
  · obtain ⟨a, v, d, cells, fs, rfl, ⟨dx, t1, t2, D, xs, ys, ea, h1, r1, h2, r2, h3, l6, l8⟩, hv, q⟩ := h
    refine ⟨_, pss_one (ps_ret (pe_and (pe_callB call_isi (by rfl) M.isinstance (by decide +kernel) (pa_cons (pv 1) (pa_cons (pe_bltn (v := .ty "str") (by rfl) M.str (by decide +kernel) rfl) pa_nil))) (pe_one (pe_cmp (pc_din (hu_of hr) (pv 1) (pe_fld (pv 0) (by rfl))))))), ?_⟩
    refine ⟨v, rfl, v, _, _, _, _, rfl, .ty "str", dp_ty hv, kit_str K d, _, rfl, ?_⟩
    cases d with
    | str z =>
      cases hv
      refine iteT ⟨_, rfl, .ref a, rfl, a, CK, dx, _, .ref D, rfl, ea, BK.cl, BK.n3, rfl, D, _, rfl, .inl ⟨_, .inr z, .inl h3, rfl, rfl⟩, ?_⟩
      rcases byN_at r2 z with ⟨G, g, eG, eg, b, rfl, hF⟩ | ⟨eG, eg⟩
      · rw [eg]
        rw [show nameIn fs (.str z) = some G from eG] at q
        exact q
      · rw [eg]
        rw [show nameIn fs (.str z) = none from eG] at q
        exact q
    | none => exact iteF q
    | bool b => exact iteF q
    | int b => exact iteF q
    | list b => exact iteF q
    | tuple b => exact iteF q
    | dict b => exact iteF q
theorem ok_blen {CK C CF CL f : Addr} {fd : FuncData} (F : Fun K "__len__" "Book.__len__" sBLen f fd) (M : Blt mg) (BK : BookK K CK C CF) : FnOk P w K mg base CX0 1 f fd ["self"] (spBLen K CK C CF CL) := by
  refine F.ok scBLen (fun vs H Q E h => ?_) (fun cdv A outer s H vs Q E hr h => ?_)
  · obtain ⟨a, cells, fs, rfl, _⟩ := h
    rfl
  · obtain ⟨a, cells, fs, rfl, ⟨dx, t1, t2, D, xs, ys, ea, h1, r1, h2, r2, h3, l6, l8⟩, q⟩ := h
    refine ⟨_, pss_one (ps_ret (pe_callB call_len_seq (by rfl) M.len PySem.boot_len (pa_cons (pe_fld (pv 0) (by rfl)) pa_nil))), ?_⟩
    refine ⟨.ref a, rfl, a, CK, dx, _, .ref t2, rfl, ea, BK.cl, BK.n2, rfl, t2, ys, rfl, .inr h2, ?_⟩
    rw [r2.1]
    exact q
theorem ok_bnames {CK C CF CL f : Addr} {fd : FuncData} (F : Fun K "names" "Book.names" sBNames f fd) (M : Blt mg) (BK : BookK K CK C CF) : FnOk P w K mg base CX0 1 f fd ["self"] (spBNames K CK C CF CL) := by
  refine F.ok scBNames (fun vs H Q E h => ?_) (fun cdv A outer s H vs Q E hr h => ?_)
  · obtain ⟨a, cells, fs, rfl, _⟩ := h
    rfl
  · obtain ⟨a, cells, fs, rfl, ⟨dx, t1, t2, D, xs, ys, ea, h1, r1, h2, r2, h3, l6, l8⟩, q⟩ := h
    refine ⟨_, pss_one (ps_ret (pe_lc (own := [("function", 1)]) (g := gName 1) (wi := iTup K (tFld K (tVar 0) "_functions")) (tt := tYes) (te := tFld K (tVar 1) "name") (by rfl) scBNames.nd (pi_tup (pe_fld (pv 0) (by rfl)))
        (blkOk_by (own := [("function", 1)]) (N := ["self", "function"]) (sc := defScope sBNames) (by decide +kernel)) (fun _ _ _ _ _ => pg_name (i := 1) scBNames.nd rfl (Or.inl rfl)) (fun _ _ _ _ _ => pts_nil) (fun _ _ _ _ _ => pe_fld (pv 1) (by rfl)))), ?_⟩
    refine ⟨.ref a, rfl, a, CK, dx, _, .ref t2, rfl, ea, BK.cl, BK.n2, rfl, t2, rfl, ⟨_, h2⟩, fun D2 hD => ?_⟩
    obtain ⟨ns, hns⟩ : ∃ ns, ns = (fs.map fun F => F.d.nm).map V.str := ⟨_, rfl⟩
    have len : ys.length = ns.length := by rw [hns, List.length_map, List.length_map, r2.1]
    refine lc_vals (walk_tup (K := K) (a := t2) (xs := ys)) (fun i => (ns[i]?).getD .non) (by rw [r2.1]; exact Nat.le_trans l8 (by decide)) hD (fun x => rfl) (fun H' s => same_sqT s h2) (fun i x H2 H3 hi s2 y => ?_) (fun H2 s2 e2 => ?_)
    · obtain ⟨rfl, hx⟩ := y
      obtain ⟨F, hf⟩ : ∃ F, fs[i]? = some F := ⟨_, List.getElem?_eq_getElem (show i < fs.length by rw [← r2.1]; exact hi)⟩
      obtain ⟨b, rfl, hF⟩ := r2.2 i x _ hx hf
      obtain ⟨_, dy, gs, vr, wa, la, eb, n1, _⟩ := hF.same s2
      refine ⟨Same.refl _, fun Q' hq => ⟨.ref b, rfl, b, CF, dy, gs, _, rfl, eb, BK.fc.cl, BK.fc.n1, n1, ?_⟩⟩
      have e : (ns[i]?).getD V.non = V.str F.d.nm := by
        rw [hns, List.getElem?_map, List.getElem?_map, hf]
        rfl
      have := hq _ (Same.refl _)
      rw [e] at this
      exact this
    · refine q _ _ s2 hD ?_
      rw [e2, len, range_get ns (fun i => (ns[i]?).getD .non) (fun i x e => by rw [e]; rfl), hns]
theorem ok_bcell {CK C CF CL CU f fU : Addr} {fd dU : FuncData} (F : Fun K "cell" "Book.cell" sBCell f fd) (M : Blt mg) (BK : BookK K CK C CF) (TU : ErrO K mg famK "UnknownName" "name" CU fU) (GU : FnOk P w K mg base CX0 1 fU dU ["self", "name"] (spErr CU "name")) (bU : Binds K dU ["self", "name"] []) :
    FnOk P w K mg base (L2.CX P w) 3 f fd ["self", "name"] (spBCell K CK C CF CL CU) := by
  refine F.okX scBCell (fun vs H Q E h => ?_) (fun cdv A outer s H vs Q E hr h => ?_)
  · obtain ⟨a, v, d, cells, fs, rfl, _⟩ := h
    rfl
  · obtain ⟨a, v, d, cells, fs, rfl, ⟨dx, t1, t2, D, xs, ys, ea, h1, r1, h2, r2, h3, l6, l8⟩, hv, wish⟩ := h
    have one : (1 : Nat) ≤ 1000 := by decide
    refine ⟨_, pss_cons (ps_for (passes_of rfl) rfl (pi_tup (pe_fld (pv 0) (by rfl))) (pg_name (i := 2) scBCell.nd rfl (.inl rfl))
        (pss_one (ps_if (PW.pt (pw_and (pt_val (pe_callB call_isi (by rfl) M.isinstance (by decide +kernel) (pa_cons (pv 1) (pa_cons (pe_bltn (v := .ty "str") (by rfl) M.str (by decide +kernel) rfl) pa_nil)))) (pw_and1 (pt_cmpR op_eq (pe_fld (pv 2) (by rfl)) (pv 1) (nomark _)))))
          (pss_one (ps_ret (pv 2))) pss_nil)))
      (pss_one (ps_raise rfl (takes_of rfl rfl rfl rfl) (pmk_fam (k := 1) (ps := ["self", "name"]) (sp := spErr CU "name") famK_ok TU GU (hr.mono (by decide)) bU pass0 (by rfl) (pa_cons (pv 1) pa_nil)))), ?_⟩
    refine ⟨.ref a, rfl, a, CK, dx, _, .ref t1, rfl, ea, BK.cl, BK.n1, rfl, t1, rfl, ⟨_, h1⟩, ?_⟩
    refine for_tup (K := K) (a := t1) (xs := xs) (fun j σ H' => ∃ z, σ = [some (.ref a), some v, z] ∧ H' = H ∧ cellIn (cells.take j) d = none) ⟨_, rfl, rfl, by cases d <;> rfl⟩ (fun j σ H2 _ pr => ?_) (fun j x σ H2 hx pr => ?_) (fun σ H2 pr => ?_)
    · obtain ⟨_, _, rfl, _⟩ := pr
      exact h1
    · obtain ⟨z, rfl, rfl, no⟩ := pr
      obtain ⟨c, hc⟩ : ∃ c, cells[j]? = some c := ⟨_, List.getElem?_eq_getElem (show j < cells.length by rw [← r1.1]; exact (List.getElem?_eq_some_iff.mp hx).1)⟩
      obtain ⟨b, rfl, hC⟩ := r1.2 j x _ hx hc
      obtain ⟨dy, gs, eb, n1, n2⟩ := id hC
      refine ⟨v, rfl, v, _, _, _, _, rfl, .ty "str", dp_ty hv, kit_str K d, _, rfl, ?_⟩
      have go : cellIn (cells.take (j + 1)) d = none → ∃ z, ([some (.ref a), some v, some (.ref b)] : L2.St) = [some (.ref a), some v, z] ∧ H2 = H2 ∧ cellIn (cells.take (j + 1)) d = none := fun e => ⟨_, rfl, rfl, e⟩
      cases d with
      | str y =>
        cases hv
        refine iteT ⟨.ref b, rfl, b, C, dy, gs, _, rfl, eb, BK.cc, BK.cn, n1, .str y, rfl, rfl, _, rfl, ?_⟩
        rw [dstr]
        have st : cellIn (cells.take (j + 1)) (.str y) = if c.1 = y then some c else none := by
          show List.find? _ (cells.take (j + 1)) = _
          rw [take_snoc hc, List.find?_append, show List.find? _ (cells.take j) = none from no, Option.none_or]
          by_cases e : c.1 = y
          · rw [if_pos e, List.find?_cons_of_pos (by exact decide_eq_true e)]
          · rw [if_neg e, List.find?_cons_of_neg (by simpa using e)]
            rfl
        by_cases e : c.1 = y
        · rw [decide_eq_true e]
          rw [if_pos e] at st
          have full : cellIn cells (.str y) = some c := by
            show List.find? _ cells = _
            rw [← List.take_append_drop (j + 1) cells, List.find?_append, show List.find? _ (cells.take (j + 1)) = some c from st]
            rfl
          rw [full] at wish
          exact iteT ⟨.ref b, rfl, wish b _ (Same.refl _) hC⟩
        · rw [decide_eq_false e]
          rw [if_neg e] at st
          exact iteF (go st)
      | none => exact iteF (iteF (go rfl))
      | bool b => exact iteF (iteF (go rfl))
      | int b => exact iteF (iteF (go rfl))
      | list b => exact iteF (iteF (go rfl))
      | tuple b => exact iteF (iteF (go rfl))
      | dict b => exact iteF (iteF (go rfl))
    · obtain ⟨z, rfl, rfl, no⟩ := pr
      rw [List.take_of_length_le (by rw [r1.1]; exact Nat.le_refl _)] at no
      rw [no] at wish
      exact ⟨v, rfl, one, mk_left fun dd H' l => wish _ dd H' (Same.refl _) l⟩
end
/-! ### Functions made, labelled, changed -/
def LabGiven (H : Hp) (CL : Addr) (vl : V) (lab : Option PyData) (i : Nat) : Prop := (∃ a, vl = .ref a ∧ lab = none ∧ LabAt H CL a i) ∨ ∃ z, lab = some (.str z) ∧ vl = .str z ∧ labRow[i]? = some z
theorem LabGiven.same {H H' : Hp} {CL : Addr} {vl : V} {lab : Option PyData} {i : Nat} (h : LabGiven H CL vl lab i) (s : Same H H') : LabGiven H' CL vl lab i := by
  rcases h with ⟨a, e, el, l⟩ | h
  · exact .inl ⟨a, e, el, l.ext s⟩
  · exact .inr h
theorem LabGiven.in {K : PySem.W.Frag} {H : Hp} {CL : Addr} {vl : V} {lab : Option PyData} {i : Nat} (h : LabGiven H CL vl lab i) : LabIn K H CL vl lab := by
  rcases h with ⟨a, rfl, rfl, l⟩ | ⟨z, rfl, rfl, _⟩
  · exact .inl ⟨a, i, rfl, rfl, l⟩
  · exact .inr ⟨.str z, rfl, .str z⟩
theorem LabGiven.ok {H : Hp} {CL : Addr} {vl : V} {lab : Option PyData} {i : Nat} (h : LabGiven H CL vl lab i) : lab.filter noLab = none := by
  rcases h with ⟨a, rfl, rfl, l⟩ | ⟨z, rfl, rfl, hi⟩
  · rfl
  · have hz : z ∈ labRow := List.mem_of_getElem? hi
    have : noLab (.str z) = false := decide_eq_false (fun n => n hz)
    exact Option.filter_some_neg (by rw [this])
theorem labRow_inj {i j : Nat} {z : Str} (hi : labRow[i]? = some z) (hj : labRow[j]? = some z) : i = j := by
  rcases row_str hi with ⟨e, e'⟩ | ⟨e, e'⟩ | ⟨e, e'⟩ | ⟨e, e'⟩ <;> rcases row_str hj with ⟨g, g'⟩ | ⟨g, g'⟩ | ⟨g, g'⟩ | ⟨g, g'⟩ <;> subst e g <;> first | rfl | (rw [e'] at g'; exact absurd g' (by decide))
theorem LabGiven.no {H H' : Hp} {CL : Addr} {vl : V} {lab : Option PyData} {i j : Nat} (h : LabGiven H CL vl lab i) (s : Same H H') (n : LabNo H' CL vl lab j) : j = i := by
  rcases h with ⟨a, rfl, rfl, l⟩ | ⟨z, rfl, rfl, hi⟩
  · rcases n with ⟨b, eb, _, l2⟩ | ⟨z, e, _⟩
    · cases eb
      obtain ⟨dx, fs, z, e1, hi, h1, _⟩ := l.ext s
      obtain ⟨dy, gs, y, e2, hj, h2, _⟩ := l2
      rw [e1] at e2
      cases e2
      rw [h1] at h2
      have := V.int.inj (Option.some.inj h2)
      omega
    · cases e
  · rcases n with ⟨b, eb, _, l2⟩ | ⟨y, e, hj⟩
    · cases eb
    · cases e
      exact labRow_inj hj hi
theorem fx_out {F : FX} (k : FXOk F) {lab : Option PyData} (hl : lab.filter noLab = none) {dw : PyData} (he : entries dw = F.d.ws) (hw : areWrites dw = true) : funOut (.str F.d.nm) (.int F.d.ar) F.d.res lab dw (.int F.cost) = none := by
  unfold funOut
  rw [k.fd.nm, k.ar, hl]
  show (if !isTerm F.d.ar F.d.res then some (FErr.term F.d.res) else if !areWrites dw then some (.part "writes") else match badTerm F.d.ar (entries dw) with | some t => some (.term t) | none => if !countOk 99 (.int F.cost) then some (FErr.part "cost") else none) = none
  rw [k.fd.res, hw, he, k.fd.bt]
  show (if !countOk 99 (.int F.cost) then some (FErr.part "cost") else none) = none
  rw [k.co]
  rfl
theorem fun_full {K : PySem.W.Frag} {CF CL CB CP CT : Addr} {H : Hp} {x dx : Addr} {vn va vr vl vw vc : V} {F : FX} {lab : Option PyData} {dw : PyData} {Q : VK} {E : XK} (k : FXOk F) (nx : H x = none) (nd : H dx = none) (hn : Dp K H vn (.str F.d.nm)) (ha : Dp K H va (.int F.d.ar)) (hr : Dp K H vr F.d.res) (hw : Dp K H vw dw) (hc : Dp K H vc (.int F.cost)) (hi : LabGiven H CL vl lab F.lab) (he : entries dw = F.d.ws) (haw : areWrites dw = true) (zw : szD dw = true)
    (q : ∀ H', Same H H' → FunFull K H' CF CL x F → Q (.ref x) H') : spFun K CF CL CB CP CT [.ref x, vn, va, vr, vl, vw, vc] (upd (upd H dx (.own x)) x (.ins CF dx [])) (fun v H2 => v = .non ∧ Q (.ref x) H2) E := by
  have ms := made_same (C := CF) nx nd
  have zn : szD (.str F.d.nm) = true := name_sz k.fd.nm
  refine ⟨x, dx, vn, va, vr, vl, vw, vc, .str F.d.nm, .int F.d.ar, F.d.res, dw, .int F.cost, lab, rfl, upd_same, dp_same ms hn, dp_same ms ha, dp_same ms hr, dp_same ms hw, dp_same ms hc, (hi.same ms).in, zn, rfl, k.fd.zr, zw, rfl, ?_⟩
  rw [fx_out k hi.ok he haw]
  intro fs H' keep e T
  have s1 : Same H H' := fun b o e => keep b o (ms b o e) (ne_of_none e nx)
  obtain ⟨la, i, e5, l5, no⟩ := T.lab
  obtain ⟨wa, e6, h6⟩ := T.wr
  have ei := hi.no ms no
  subst ei
  cases hn
  cases ha
  cases hc
  rw [he] at h6
  exact ⟨rfl, q H' s1 ⟨k, dx, fs, vr, wa, la, e, T.name, T.args, T.res, dp_same s1 hr, e6, h6, e5, l5, T.cost, T.no1, T.no2, T.no3⟩⟩
theorem tup_writes {F : FX} (k : FXOk F) : areWrites (.tuple F.d.ws) = true := by
  show (decide (F.d.ws.length ≤ 3) && writesGo [] F.d.ws) = true
  rw [decide_eq_true k.fd.few, k.fd.ws]
  rfl
theorem tup_sz {F : FX} (k : FXOk F) : szD (.tuple F.d.ws) = true := by
  show (decide (F.d.ws.length ≤ 1000) && szDs F.d.ws) = true
  have := k.fd.few
  rw [decide_eq_true (by omega), k.fd.zw]
  rfl
structure FunM (P : Program) (w : World) (K : PySem.W.Frag) (mg : Str → Option Value) (base : Heap) (CF CL CB CP CT f : Addr) (fd : FuncData) : Prop where
  make : Mk K CF f
  ok : FnOk P w K mg base (L2.CX P w) 6 f fd ["self", "name", "arguments", "result", "label", "writes", "cost"] (spFun K CF CL CB CP CT)
  gC : mg "Function" = some (.ref CF)
  b3 : KBn K fd ["self", "name", "arguments", "result", "label", "writes", "cost"] 4 ["label", "writes", "cost"] (fun us ws => us ++ ws) (fun vs zs => vs ++ zs)
/-! ### a drawn book fits -/
theorem gdl_inner {L : LB} {n : Int} {f : Nat} {d : PyData} (h : GdL L n (f + 1) d) : ∀ t ∈ inner d, GdL L n f t := by
  cases h with
  | val _ _ => exact fun t ht => (by cases ht)
  | arg _ _ => exact fun t ht => (by cases ht)
  | cell _ => exact fun t ht => (by cases ht)
  | tick => exact fun t ht => (by cases ht)
  | call _ ht => exact ht
  | op hz ht =>
    rw [op_inner (op_word hz)]
    exact ht
theorem gdl_flat {L : LB} {n : Int} : ∀ (f : Nat) (lv : List PyData), (∀ d ∈ lv, ∃ k, GdL L n k d) → ∀ p ∈ flatGo f lv, ∃ k, GdL L n k p
  | 0, _, _, p, hp => by cases hp
  | f + 1, lv, h, p, hp => by
    rcases List.mem_append.mp (show p ∈ lv ++ flatGo f (lv.flatMap inner) from hp) with hp | hp
    · exact h p hp
    · refine gdl_flat f _ (fun d hd => ?_) p hp
      obtain ⟨e, he, hd⟩ := List.mem_flatMap.mp hd
      obtain ⟨k, hk⟩ := h e he
      cases k with
      | zero => exact nomatch hk
      | succ k => exact ⟨k, gdl_inner hk d hd⟩
theorem gdl_parts {L : LB} {n : Int} {f : Nat} {d : PyData} (h : GdL L n f d) : ∀ p ∈ partsD d, ∃ k, GdL L n k p := gdl_flat 9 [d] fun e he => ⟨f, by rw [List.mem_singleton.mp he]; exact h⟩
theorem head_of {z y : Str} {r : List PyData} (h : isW z (.tuple (.str y :: r)) = true) : y = z := of_decide_eq_true (Bool.and_eq_true_iff.mp (show (!isValue (.tuple (.str y :: r)) && decide (y = z)) = true from h)).2
theorem gdl_cell {L : LB} {n : Int} {k : Nat} {p : PyData} (h : GdL L n k p) (w : isW "cell" p = true) : ∃ x kk, (x, kk) ∈ L.cells ∧ p = .tuple [.str "cell", .str x] := by
  cases h with
  | val a b => simp [isW, headIs] at w
  | arg _ _ => exact absurd (head_of w) (by decide +kernel)
  | cell hx => exact ⟨_, _, hx, rfl⟩
  | tick => exact absurd (head_of w) (by decide +kernel)
  | call _ _ => exact absurd (head_of w) (by decide +kernel)
  | op hz _ =>
    have e := head_of w
    rcases op_word hz with q | q | q | q <;> (rw [q] at e; exact absurd e (by decide +kernel))
theorem gdl_call {L : LB} {n : Int} {k : Nat} {p : PyData} (h : GdL L n k p) (w : isW "call" p = true) : ∃ x ts, (x, ts.length) ∈ L.fns ∧ p = .tuple [.str "call", .str x, .tuple ts] := by
  cases h with
  | val a b => simp [isW, headIs] at w
  | arg _ _ => exact absurd (head_of w) (by decide +kernel)
  | cell hx => exact absurd (head_of w) (by decide +kernel)
  | tick => exact absurd (head_of w) (by decide +kernel)
  | call hx _ => exact ⟨_, _, hx, rfl⟩
  | op hz _ =>
    have e := head_of w
    rcases op_word hz with q | q | q | q <;> (rw [q] at e; exact absurd e (by decide +kernel))
theorem gdl_names {L : LB} {n : Int} {f : Nat} {d : PyData} (h : GdL L n f d) : (∀ x ∈ namesD "cell" d, ∃ k, (x, k) ∈ L.cells) ∧ ∀ x ∈ namesD "call" d, ∃ m, (x, m) ∈ L.fns := by
  refine ⟨fun x hx => ?_, fun x hx => ?_⟩
  · obtain ⟨p, hp, rfl⟩ := List.mem_map.mp hx
    obtain ⟨h1, h2⟩ := List.mem_filter.mp hp
    obtain ⟨k, hk⟩ := gdl_parts h p h1
    obtain ⟨y, kk, hy, rfl⟩ := gdl_cell hk h2
    exact ⟨kk, hy⟩
  · obtain ⟨p, hp, rfl⟩ := List.mem_map.mp hx
    obtain ⟨h1, h2⟩ := List.mem_filter.mp hp
    obtain ⟨k, hk⟩ := gdl_parts h p h1
    obtain ⟨y, ts, hy, rfl⟩ := gdl_call hk h2
    exact ⟨_, hy⟩
theorem part_fits {L : LB} {n : Int} {f : Nat} {d : PyData} (h : GdL L n f d) {kvs avs : List (Key × V)} (hc : ∀ x k, (x, k) ∈ L.cells → has kvs x = true) (hf : ∀ x (m : Nat), (x, m) ∈ L.fns → valV avs (.inr x : Key) = some (.int m)) : partFits kvs avs d = true := by
  refine Bool.and_eq_true_iff.mpr ⟨List.all_eq_true.mpr fun x hx => ?_, List.all_eq_true.mpr fun p hp => ?_⟩
  · obtain ⟨k, hk⟩ := (gdl_names h).1 x hx
    exact hc x k hk
  · obtain ⟨h1, h2⟩ := List.mem_filter.mp hp
    obtain ⟨k, hk⟩ := gdl_parts h p h1
    obtain ⟨y, ts, hy, rfl⟩ := gdl_call hk h2
    exact decide_eq_true (hf y _ hy)
/-! names of their own -/
theorem nd_inj {l : List Str} (n : l.Nodup) {i j : Nat} {z : Str} (hi : l[i]? = some z) (hj : l[j]? = some z) : i = j := by
  have h1 := (List.getElem?_eq_some_iff.mp hi).1
  exact (List.getElem?_inj h1 n).mp (by rw [hi, hj])
theorem badC_none : ∀ (l : List (Str × Str)) (seen : List Str) (i : Nat), (∀ c ∈ l, c.1 ∉ seen) → (l.map (·.1)).Nodup → badC seen i (l.map fun c => CI.cell c.1 c.2) = none
  | [], _, _, _, _ => rfl
  | c :: l, seen, i, h, n => by
    rw [List.map_cons, List.nodup_cons] at n
    show (if c.1 ∈ seen then some i else badC (seen ++ [c.1]) (i + 1) (l.map fun c => CI.cell c.1 c.2)) = none
    rw [if_neg (h c List.mem_cons_self)]
    refine badC_none l _ _ (fun e he q => ?_) n.2
    rcases List.mem_append.mp q with q | q
    · exact h e (List.mem_cons_of_mem _ he) q
    · exact n.1 (List.mem_map.mpr ⟨e, he, List.mem_singleton.mp q⟩)
theorem kinds_val {cells : List (Str × Str)} (n : (cells.map (·.1)).Nodup) {x k : Str} (h : (x, k) ∈ cells) : valV (kindsK (cells.map fun c => CI.cell c.1 c.2)) (.inr x : Key) = some (.str k) := by
  induction cells with
  | nil => cases h
  | cons c l ih =>
    rw [List.map_cons, List.nodup_cons] at n
    show valV (((.inr c.1 : Key), V.str c.2) :: kindsK (l.map fun c => CI.cell c.1 c.2)) _ = _
    rcases List.mem_cons.mp h with e | h
    · subst e
      exact valV_pos rfl
    · rw [valV_neg (fun q => n.1 (List.mem_map.mpr ⟨_, h, (Sum.inr.inj q).symm⟩))]
      exact ih n.2 h
theorem kinds_no {cells : List (Str × Str)} {x : Str} (h : x ∉ cells.map (·.1)) : has (kindsK (cells.map fun c => CI.cell c.1 c.2)) x = false := by
  induction cells with
  | nil => rfl
  | cons c l ih =>
    rw [List.map_cons, List.mem_cons] at h
    show (valV (((.inr c.1 : Key), V.str c.2) :: kindsK (l.map fun c => CI.cell c.1 c.2)) _).isSome = _
    rw [valV_neg (fun q => h (.inl (Sum.inr.inj q).symm))]
    exact ih fun q => h (.inr q)
theorem snoc_ind {α : Type} {P : List α → Prop} (h0 : P []) (hs : ∀ l x, P l → P (l ++ [x])) (l : List α) : P l := by
  have h : ∀ r : List α, P r.reverse := by
    intro r
    induction r with
    | nil => exact h0
    | cons x r ih =>
      rw [List.reverse_cons]
      exact hs _ _ ih
  have := h l.reverse
  rw [List.reverse_reverse] at this
  exact this
def avsOf (fs : List FDr) : List (Key × V) := fs.foldl (fun acc F => putK acc (.inr F.nm : Key) (.int (F.many : Nat))) []
theorem avs_snoc (fs : List FDr) (F : FDr) : avsOf (fs ++ [F]) = putK (avsOf fs) (.inr F.nm : Key) (.int (F.many : Nat)) := by
  unfold avsOf
  rw [List.foldl_append]
  rfl
theorem avs_at : ∀ (fs : List FDr), (fs.map (·.nm)).Nodup → (∀ F ∈ fs, valV (avsOf fs) (.inr F.nm : Key) = some (.int (F.many : Nat))) ∧ ∀ z, z ∉ fs.map (·.nm) → has (avsOf fs) z = false := by
  refine snoc_ind ?_ fun fs G ih => ?_
  · exact fun _ => ⟨fun F hF => (by cases hF), fun z _ => rfl⟩
  · intro n
    rw [List.map_append, List.nodup_append] at n
    obtain ⟨n1, n2, n3⟩ := n
    obtain ⟨i1, i2⟩ := ih n1
    rw [avs_snoc]
    refine ⟨fun F hF => ?_, fun z hz => ?_⟩
    · rw [valV_put]
      rcases List.mem_append.mp hF with hF | hF
      · rw [if_neg (fun q => n3 _ (List.mem_map.mpr ⟨F, hF, rfl⟩) _ (List.mem_singleton.mpr rfl) (Sum.inr.inj q))]
        exact i1 F hF
      · rw [List.mem_singleton.mp hF, if_pos rfl]
    · unfold has
      rw [List.map_append] at hz
      rw [valV_put, if_neg (fun q => hz (List.mem_append.mpr (.inr (List.mem_singleton.mpr (Sum.inr.inj q)))))]
      exact i2 z fun q => hz (List.mem_append.mpr (.inl q))
/-! a drawn function as a whole one -/
def fxOf (F : FDr) : FX := ⟨⟨F.nm, F.many, F.res, entries F.ws⟩, labRow.idxOf F.label, F.cost⟩
theorem lab_idx {z : Str} (h : z ∈ labRow) : labRow[labRow.idxOf z]? = some z := by
  have h1 : ∀ y ∈ labRow, labRow[labRow.idxOf y]? = some y := by decide +kernel
  exact h1 z h
theorem gd_geo {n : Int} : ∀ (f k : Nat) (d : PyData) (m : Nat), Gd n f d → 2 * m + 1 = 3 ^ f → szF k d ≤ m
  | 0, _, _, _, h, _ => nomatch h
  | f + 1, 0, d, m, h, e => by
    show 0 ≤ m
    omega
  | f + 1, k + 1, d, m, h, e => by
    obtain ⟨ht, hl⟩ := gd_inner h
    obtain ⟨r, hr⟩ : ∃ r, 2 * r + 1 = 3 ^ f := by
      have : 3 ^ f % 2 = 1 := by
        clear ht hl h e
        induction f with
        | zero => rfl
        | succ f ih => rw [Nat.pow_succ]; omega
      exact ⟨3 ^ f / 2, by omega⟩
    have each : ∀ x ∈ (inner d).map (szF k), x ≤ r := fun x hx => by
      obtain ⟨t, htm, rfl⟩ := List.mem_map.mp hx
      exact gd_geo f k t r (ht t htm) hr
    have sum_le : ∀ l : List Nat, (∀ x ∈ l, x ≤ r) → l.sum ≤ l.length * r := by
      intro l
      induction l with
      | nil => intro _; exact Nat.zero_le _
      | cons a l ih =>
        intro h
        rw [List.sum_cons, List.length_cons, Nat.succ_mul]
        have := h a List.mem_cons_self
        have := ih fun x hx => h x (List.mem_cons_of_mem _ hx)
        omega
    have h2 := sum_le _ each
    rw [List.length_map] at h2
    have h3 : (inner d).length * r ≤ 3 * r := Nat.mul_le_mul_right r hl
    rw [Nat.pow_succ] at e
    show 1 + ((inner d).map (szF k)).sum ≤ m
    omega
theorem gdm {n : Int} : ∀ (f f' : Nat) (d : PyData), Gd n f d → f ≤ f' → Gd n f' d
  | 0, _, _, h, _ => nomatch h
  | f + 1, 0, _, _, h => absurd h (Nat.not_succ_le_zero f)
  | f + 1, f' + 1, d, h, hf => by
    cases h with
    | val a b => exact .val a b
    | arg a b => exact .arg a b
    | cell a => exact .cell a
    | tick => exact .tick
    | call a b c => exact .call a b fun t ht => gdm f f' t (c t ht) (by omega)
    | op a c => exact .op a fun t ht => gdm f f' t (c t ht) (by omega)
theorem gd_term {n : Int} {f : Nat} {d : PyData} (h : Gd n f d) (hf : f ≤ 3) : isTerm n d = true := by
  rw [gd_isTerm h (by omega)]
  have h13 : sz9 d ≤ 13 := by
    have h3 : Gd n 3 d := gdm f 3 d h hf
    exact gd_geo 3 9 d 13 h3 rfl
  exact decide_eq_true (by omega)
theorem fok_mono {cells : List (Str × Str)} {prev : List FDr} {F : FDr} {deep : Nat} (h : FOk deep cells prev F) (hd : deep ≤ 2) : FOk 2 cells prev F := ⟨h.nm, h.many, gdl_mono _ _ _ h.res (by omega), h.ws, h.c0, h.c9, h.lab⟩
theorem ws_of {L : LB} (o : LOk L) {n : Int} {d : PyData} (h : WrD L n d) : d = .tuple (entries d) ∧ writesGo [] (entries d) = true ∧ badTerm n (entries d) = none ∧ szDs (entries d) = true ∧ (entries d).length ≤ 1 ∧ PyData.canLayAll0 (entries d) = true ∧ PyData.depthAll (entries d) ≤ 20 ∧ ∀ e ∈ entries d, ∃ z t, e = .tuple [.str z, t] ∧ (z, ("table" : Str)) ∈ L.cells ∧ GdL L n 2 t := by
  rcases h with rfl | ⟨z, t, rfl, hz, gt⟩
  · exact ⟨rfl, rfl, rfl, rfl, Nat.zero_le _, by simp [entries, PyData.canLayAll0], by simp [entries, PyData.depthAll], fun e he => by cases he⟩
  · have hn := (o.c _ hz).1
    have g2 := gdl_gd o _ _ gt
    have l2 := gd_lay 2 _ g2
    refine ⟨rfl, ?_, ?_, ?_, Nat.le_refl _, ?_, ?_, fun e he => ⟨z, t, List.mem_singleton.mp he, hz, gt⟩⟩
    · have e1 : entryOk [] (.tuple [.str z, t]) = some z := by
        show (if (isName (.str z) && !decide (z ∈ ([] : List Str))) = true then some z else none) = some z
        rw [hn]
        rfl
      show writesGo [] [.tuple [.str z, t]] = true
      unfold writesGo
      rw [e1]
      rfl
    · show (if isTerm n t then none else some t) = none
      rw [gd_term g2 (by decide)]
      rfl
    · show ((true && (szD (.str z) && (szD t && true))) && true) = true
      rw [name_sz hn, gd_sz 2 t g2]
      rfl
    · have : PyData.canLayAll0 [.tuple [.str z, t]] = true := canLay_of fun d hd => by
        rw [List.mem_singleton.mp hd]
        show (PyData.strOk z && (t.canLay0 && true)) = true
        rw [name_ok hn, l2.1]
        rfl
      exact this
    · show PyData.depthAll [.tuple [.str z, t]] ≤ 20
      refine depth_of fun d hd => ?_
      rw [List.mem_singleton.mp hd]
      show max 0 (max t.depth 0) + 1 ≤ 20
      have := l2.2
      omega
theorem fxOf_ok {cells : List (Str × Str)} {prev : List FDr} {F : FDr} (o : LOk (lbOf cells prev)) (h : FOk 2 cells prev F) : FXOk (fxOf F) := by
  have gd := gdl_gd o _ _ h.res
  obtain ⟨w0, w1, w2, w3, w4, w5, w6, _⟩ := ws_of o h.ws
  have mo : F.many = 0 ∨ F.many = 1 ∨ F.many = 2 := by have := h.many; omega
  have shw : SeqAt.shaped (.tuple (entries F.ws)) = true := Bool.and_eq_true_iff.mpr ⟨w5, decide_eq_true (by show PyData.depthAll (entries F.ws) + 1 ≤ 64; omega)⟩
  exact ⟨⟨h.nm, gd_term gd (by decide), gd_sz _ _ gd, w1, w2, w3, Nat.le_trans w4 (by decide)⟩, gd_shaped gd (by decide), shw, by unfold fxOf; rcases mo with e | e | e <;> rw [e] <;> rfl, by
    show (decide (0 ≤ F.cost) && decide (F.cost ≤ 99)) = true
    rw [decide_eq_true h.c0, decide_eq_true (by have := h.c9; omega)]
    rfl⟩
theorem lok_take {cells : List (Str × Str)} {fs : List FDr} (o : LOk (lbOf cells fs)) (i : Nat) : LOk (lbOf cells (fs.take i)) where
  c := o.c
  f := fun x hx => by
    obtain ⟨F, hF, rfl⟩ := List.mem_map.mp hx
    exact o.f _ (List.mem_map.mpr ⟨F, List.mem_of_mem_take hF, rfl⟩)
  lc := o.lc
  lf := by
    have h := o.lf
    show ((fs.take i).map _).length ≤ 8
    rw [List.length_map, List.length_take]
    have h2 : (fs.map fun F => (F.nm, F.many)).length ≤ 8 := h
    rw [List.length_map] at h2
    omega
/-! the whole book fits -/
/-- a drawn book, whose names are its own, perhaps with one more cell -/
structure Fit (cells : List (Str × Str)) (fs : List FDr) : Prop where
  lc : cells.length ≤ 6
  lf : fs.length ≤ 8
  l1 : 1 ≤ fs.length
  ok : LOk (lbOf cells fs)
  nc : (cells.map (·.1)).Nodup
  nf : (fs.map (·.nm)).Nodup
  dj : ∀ x ∈ fs.map (·.nm), x ∉ cells.map (·.1)
  fn : ∀ (i : Nat) F, fs[i]? = some F → FOk 2 cells (fs.take i) F
theorem Fit.noBad {cells : List (Str × Str)} {fs : List FDr} (h : Fit cells fs) : ∀ (rest prev : List FDr) (i : Nat), prev ++ rest = fs → badF (kindsK (cells.map fun c => CI.cell c.1 c.2)) (avsOf prev) i (rest.map fun F => FI.fn (fxOf F).d) = none
  | [], _, _, _ => rfl
  | F :: rest, prev, i, e => by
    have hF : fs[prev.length]? = some F := by
      rw [← e, List.getElem?_append_right (Nat.le_refl _), Nat.sub_self]
      rfl
    have hp : fs.take prev.length = prev := by
      rw [← e, List.take_left']
      rfl
    have ok := h.fn _ F hF
    rw [hp] at ok
    have nd : (prev.map (·.nm)).Nodup ∧ F.nm ∉ prev.map (·.nm) := by
      have n := h.nf
      rw [← e, List.map_append, List.nodup_append] at n
      exact ⟨n.1, fun q => n.2.2 _ q _ (List.mem_map.mpr ⟨F, List.mem_cons_self, rfl⟩) rfl⟩
    obtain ⟨a1, a2⟩ := avs_at prev nd.1
    have oP : LOk (lbOf cells prev) := by
      have := lok_take h.ok prev.length
      rw [hp] at this
      exact this
    have hc : ∀ x k, (x, k) ∈ (lbOf cells prev).cells → has (kindsK (cells.map fun c => CI.cell c.1 c.2)) x = true := fun x k hx => by
      unfold has
      rw [kinds_val h.nc hx]
      rfl
    have hf : ∀ x (m : Nat), (x, m) ∈ (lbOf cells prev).fns → valV (avsOf prev) (.inr x : Key) = some (.int m) := fun x m hx => by
      obtain ⟨G, hG, q⟩ := List.mem_map.mp hx
      cases q
      exact a1 G hG
    obtain ⟨w0, w1, w2, w3, w4, w5, w6, w7⟩ := ws_of oP ok.ws
    have fit : fitsB (kindsK (cells.map fun c => CI.cell c.1 c.2)) (avsOf prev) (fxOf F).d = true := by
      unfold fitsB
      rw [show has (kindsK (cells.map fun c => CI.cell c.1 c.2)) (fxOf F).d.nm = false from kinds_no (h.dj _ (List.mem_map.mpr ⟨F, List.mem_of_getElem? hF, rfl⟩)), show has (avsOf prev) (fxOf F).d.nm = false from a2 _ nd.2]
      refine Bool.and_eq_true_iff.mpr ⟨Bool.and_eq_true_iff.mpr ⟨rfl, List.all_eq_true.mpr fun d hd => ?_⟩, List.all_eq_true.mpr fun d hd => ?_⟩
      · obtain ⟨z, t, rfl, hz, _⟩ := w7 d hd
        show decide (valV _ (.inr z : Key) = some (.str "table")) = true
        exact decide_eq_true (kinds_val h.nc hz)
      · rcases List.mem_cons.mp (show d ∈ F.res :: (entries F.ws).map sndD from hd) with rfl | hd
        · exact part_fits ok.res hc hf
        · obtain ⟨d', hd', rfl⟩ := List.mem_map.mp hd
          obtain ⟨z, t, rfl, hz, gt⟩ := w7 d' hd'
          exact part_fits gt hc hf
    show (if fitsB (kindsK (cells.map fun c => CI.cell c.1 c.2)) (avsOf prev) (fxOf F).d = true then badF _ (putK (avsOf prev) (.inr (fxOf F).d.nm : Key) (.int (fxOf F).d.ar)) (i + 1) (rest.map fun F => FI.fn (fxOf F).d) else some i) = none
    rw [if_pos fit]
    have := Fit.noBad h rest (prev ++ [F]) (i + 1) (by rw [List.append_assoc]; exact e)
    rw [avs_snoc] at this
    exact this
theorem Fit.out {cells : List (Str × Str)} {fs : List FDr} (h : Fit cells fs) (p r : Addr) (xs ys : List V) : bookOut (.seq p xs (cells.map fun c => CI.cell c.1 c.2)) (.seq r ys (fs.map fun F => FI.fn (fxOf F).d)) = none := by
  unfold bookOut
  dsimp only
  rw [badC_none cells [] 0 (fun c _ => List.not_mem_nil) h.nc]
  dsimp only
  rw [List.length_map, List.length_map, if_neg (by have := h.lc; omega), if_neg (by have := h.l1; omega), show badF _ [] 0 _ = none from h.noBad fs [] 0 rfl]
  dsimp only
  rw [if_neg (by have := h.lf; omega)]
theorem DOk.fit {deep : Nat} {words : List Str} {cells : List (Str × Str)} {fs : List FDr} (h : DOk deep words cells fs) (hd : deep ≤ 2) (wn : ∀ z ∈ words, isName (.str z) = true) (wd : words.Nodup) (l1 : 1 ≤ fs.length) : Fit cells fs where
  lc := Nat.le_trans h.lc (by decide)
  lf := Nat.le_trans h.lf (by decide)
  l1 := l1
  ok := h.lok wn
  nc := by
    refine List.pairwise_iff_getElem.mpr fun i j hi hj lt e => ?_
    rw [List.length_map] at hi hj
    rw [List.getElem_map, List.getElem_map] at e
    have q1 := (h.cn i _ (List.getElem?_eq_getElem hi)).1
    have q2 := (h.cn j _ (List.getElem?_eq_getElem hj)).1
    rw [e] at q1
    exact absurd (nd_inj wd q1 q2) (by omega)
  nf := by
    refine List.pairwise_iff_getElem.mpr fun i j hi hj lt e => ?_
    rw [List.length_map] at hi hj
    rw [List.getElem_map, List.getElem_map] at e
    have q1 := (h.fn i _ (List.getElem?_eq_getElem hi)).1
    have q2 := (h.fn j _ (List.getElem?_eq_getElem hj)).1
    rw [e] at q1
    exact absurd (nd_inj wd q1 q2) (by omega)
  dj := fun x hx q => by
    obtain ⟨F, hF, rfl⟩ := List.mem_map.mp hx
    obtain ⟨c, hc, e⟩ := List.mem_map.mp q
    obtain ⟨i, hi⟩ := List.getElem?_of_mem hF
    obtain ⟨j, hj⟩ := List.getElem?_of_mem hc
    have q1 := (h.fn i _ hi).1
    have q2 := (h.cn j _ hj).1
    rw [e] at q2
    have := nd_inj wd q1 q2
    have := (List.getElem?_eq_some_iff.mp hj).1
    have := h.lc
    omega
  fn := fun i F e => fok_mono (h.fn i F e).2 hd
/-! ### the law's book, made -/
abbrev sMade : Stmt := topS 73
theorem scMade : FnScope ["_law_b", "_law_rows", "_law_f", "_law_one", "_law_name", "_law_kind"] ["_law_b"] (defScope sMade) := ⟨rfl, rfl, rfl, by decide +kernel, rfl, by decide +kernel, by decide +kernel⟩
structure BookMk (P : Program) (w : World) (K : PySem.W.Frag) (mg : Str → Option Value) (base : Heap) (CK C CF CC CN CO f : Addr) (fd : FuncData) : Prop where
  make : Mk K CK f
  ok : FnOk P w K mg base (L2.CX P w) 11 f fd ["self", "cells", "functions"] (spBook K CK C CF CC CN CO)
  gC : mg "Book" = some (.ref CK)
  bi : Binds K fd ["self", "cells", "functions"] []
structure CellMk (P : Program) (w : World) (K : PySem.W.Frag) (mg : Str → Option Value) (base : Heap) (C CB f : Addr) (fd : FuncData) : Prop where
  make : Mk K C f
  ok : FnOk P w K mg base (L2.CX P w) 3 f fd ["self", "name", "kind"] (spCell K C CB)
  gC : mg "Cell" = some (.ref C)
  bi : Binds K fd ["self", "name", "kind"] []
theorem cell_made {K : PySem.W.Frag} {C CB : Addr} {H : Hp} {x dx : Addr} {n k : Str} {Q : VK} {E : XK} (hn : isName (.str n) = true) (hk : k ∈ (["frozen", "setting", "table"] : List Str)) (nx : H x = none) (nd : H dx = none) (q : ∀ H', Same H H' → CellAt H' C x n k → Q (.ref x) H') :
    spCell K C CB [.ref x, .str n, .str k] (upd (upd H dx (.own x)) x (.ins C dx [])) (fun v H2 => v = .non ∧ Q (.ref x) H2) E := by
  have ms := made_same (C := C) nx nd
  refine ⟨x, dx, .str n, .str k, .str n, .str k, rfl, upd_same, .str n, .str k, name_sz hn, .inr ⟨n, k, rfl, rfl, ?_, fun H1 fs s1 l1 l2 => ⟨rfl, q _ (fun b o e => ?_) ⟨dx, fs, upd_same, l1, l2⟩⟩⟩⟩
  · unfold cellOut
    rw [hn]
    have : isKind (.str k) = true := by
      simp only [List.mem_cons, List.not_mem_nil, or_false] at hk
      rcases hk with e | e | e <;> rw [e] <;> decide +kernel
    rw [this]
    rfl
  · rw [upd_ne (ne_of_none e nx)]
    exact s1 _ _ (ms b o e)
/-- the cells of a drawn book, as Cells -/
theorem FDrAt.same {K : PySem.W.Frag} {H H' : Hp} {v : V} {F : FDr} (h : FDrAt K H v F) (s : Same H H') : FDrAt K H' v F := by
  obtain ⟨g, vr, vw, e, eg, d1, d2, n1, n2⟩ := h
  exact ⟨g, vr, vw, e, s _ _ eg, dp_same s d1, dp_same s d2, n1, n2⟩
theorem BkAt.same {K : PySem.W.Frag} {H H' : Hp} {cells : List (Str × Str)} {fs : List FDr} {b : Addr} (h : BkAt K cells fs H b) (s : Same H H') : BkAt K cells fs H' b := by
  obtain ⟨c, f, ts, gs, e0, e1, e2, r1, r2⟩ := h
  exact ⟨c, f, ts, gs, s _ _ e0, s _ _ e1, s _ _ e2, r1.mono fun v c h => cellT_of (fun _ _ => same_sqT s) h, r2.mono fun v F h => h.same s⟩
def spMade (K : PySem.W.Frag) (CK C CF CL : Addr) : Sp := fun vs H Q _ => ∃ (b : Addr) (cells : List (Str × Str)) (fs : List FDr), vs = [.ref b] ∧ BkAt K cells fs H b ∧ Fit cells fs ∧ ∀ x H', Same H H' → H x = none → BookAt K H' CK C CF CL x cells (fs.map fxOf) → Q (.ref x) H'
theorem cells_row {K : PySem.W.Frag} {H : Hp} {C : Addr} {xs : List V} {cells : List (Str × Str)} (h : Rows (CRow H C) xs cells) : Items (CItem K H C) xs (cells.map fun c => CI.cell c.1 c.2) := ⟨by rw [h.1, List.length_map], fun i x c e1 e2 => by
  rw [List.getElem?_map] at e2
  obtain ⟨c', hc, rfl⟩ := Option.map_eq_some_iff.mp e2
  exact h.2 i x c' e1 hc⟩
theorem fns_row {K : PySem.W.Frag} {H : Hp} {CF CL : Addr} {ys : List V} {fs : List FX} (h : Rows (FRow K H CF CL) ys fs) : Items (FItem K H CF) ys (fs.map fun F => FI.fn F.d) := ⟨by rw [h.1, List.length_map], fun i x c e1 e2 => by
  rw [List.getElem?_map] at e2
  obtain ⟨F, hF, rfl⟩ := Option.map_eq_some_iff.mp e2
  obtain ⟨b, e, hb⟩ := h.2 i x F e1 hF
  exact ⟨b, e, hb.of⟩⟩
/-! terms hold no lists -/
theorem nl_term {n : Int} : ∀ (f : Nat) (d : PyData), fmF n f d = true → dpF f d < f → noL d = true
  | 0, _, _, h => absurd h (Nat.not_lt_zero _)
  | f + 1, d, h, hd => by
    have h1 := Bool.and_eq_true_iff.mp (show (hasForm n d && (inner d).all (fmF n f)) = true from h)
    have each : ∀ t ∈ inner d, noL t = true := fun t ht => by
      have mx : ∀ l : List PyData, t ∈ l → dpF f t ≤ (l.map (dpF f)).foldr max 0 := fun l => by
        induction l with
        | nil => intro q; cases q
        | cons a l ih =>
          intro q
          show _ ≤ max (dpF f a) _
          rcases List.mem_cons.mp q with q | q
          · rw [q]
            exact Nat.le_max_left _ _
          · exact Nat.le_trans (ih q) (Nat.le_max_right _ _)
      have : 1 + ((inner d).map (dpF f)).foldr max 0 < f + 1 := hd
      have := mx _ ht
      exact nl_term f t (List.all_eq_true.mp h1.2 t ht) (by omega)
    cases hv : isValue d with
    | true =>
      cases d with
      | int i => rfl
      | _ => simp [isValue] at hv
    | false =>
      obtain ⟨z, rest, rfl, hf⟩ := form_str h1.1 hv
      show (true && noLs rest) = true
      rw [Bool.true_and]
      unfold formOf at hf
      by_cases z1 : z = "arg"
      · rw [if_pos z1] at hf
        match rest, hf with
        | [x], hf =>
          cases x with
          | int i => rfl
          | _ => simp [on1, below] at hf
      rw [if_neg z1] at hf
      by_cases z2 : z = "cell"
      · rw [if_pos z2] at hf
        match rest, hf with
        | [x], hf =>
          obtain ⟨y, rfl⟩ := isName_str (show isName x = true from hf)
          rfl
      rw [if_neg z2] at hf
      by_cases z3 : z = "call"
      · rw [if_pos z3] at hf
        match rest, hf with
        | [x, y], hf =>
          have h2 := Bool.and_eq_true_iff.mp (show (isName x && callForm y) = true from hf)
          obtain ⟨y', rfl⟩ := isName_str h2.1
          match y, h2.2 with
          | .tuple ts, _ =>
            have e : inner (.tuple (.str z :: [.str y', .tuple ts])) = ts := by
              show (if z = "arg" ∨ z = "cell" then [] else if z = "call" then second [.str y', .tuple ts] else _) = ts
              rw [if_neg (fun q => q.elim z1 z2), if_pos z3]
              rfl
            rw [e] at each
            show (true && (noLs ts && true)) = true
            rw [noLs_of each]
            rfl
      have e : inner (.tuple (.str z :: rest)) = rest := by
        show (if z = "arg" ∨ z = "cell" then [] else if z = "call" then second rest else rest) = rest
        rw [if_neg (fun q => q.elim z1 z2), if_neg z3]
      rw [e] at each
      exact noLs_of each
theorem term_nl {n : Int} {d : PyData} (h : isTerm n d = true) : noL d = true := by
  rw [isTerm_is] at h
  have h1 := Bool.and_eq_true_iff.mp h
  have h2 := of_decide_eq_true (Bool.and_eq_true_iff.mp h1.2).2
  exact nl_term 9 d h1.1 (by omega)
theorem fd_nl {F : FD} (k : FdOk F) : noL F.res = true ∧ noLs F.ws = true := ⟨term_nl k.res, noLs_of fun d hd => by
  obtain ⟨i, hi⟩ := List.getElem?_of_mem hd
  obtain ⟨z, t, rfl⟩ := writes_at k.ws hi
  have ht : isTerm F.ar t = true := by
    have : (partsF F)[i + 1]? = some t := by
      show (F.ws.map sndD)[i]? = _
      rw [List.getElem?_map, hi]
      rfl
    exact (parts_ok k this).1
  show (true && (noL t && true)) = true
  rw [term_nl ht]
  rfl⟩
theorem FunFull.but {K : PySem.W.Frag} {H H' : Hp} {CF CL a l : Addr} {F : FX} {xs : List V} (h : FunFull K H CF CL a F) (e : H l = some (.lst xs)) (b : But l H H') : FunFull K H' CF CL a F := by
  obtain ⟨k, dx, fs, vr, wa, la, ea, l1, l2, l3, d1, l4, d2, l5, la1, l6, n⟩ := h
  obtain ⟨n1, n2⟩ := fd_nl k.fd
  obtain ⟨dy, gs, z, e2, r2⟩ := la1
  exact ⟨k, dx, fs, vr, wa, la, b _ _ ea (ne_of ea e (fun z => nomatch z)), l1, l2, l3, dp_tups (fun _ _ => but_sqT e b) _ _ n1 d1, l4, dp_tups (fun _ _ => but_sqT e b) _ _ n2 d2, l5, ⟨dy, gs, z, b _ _ e2 (ne_of e2 e (fun z => nomatch z)), r2⟩, l6, n⟩
/-- what stays while a new instance is written -/
theorem but_new_same {H H1 H2 : Hp} {x : Addr} (s : Same H H1) (nx : H x = none) (b : But x H1 H2) : Same H H2 := fun a o e => b a o (s a o e) (ne_of_none e nx)
theorem book_made {K : PySem.W.Frag} {CK C CF CL CC CN CO : Addr} {H : Hp} {x dx p r : Addr} {xs ys : List V} {cells : List (Str × Str)} {fs : List FX} {Q : VK} {E : XK} (nx : H x = none) (nd : H dx = none) (hp : SqL K H p xs ∨ SqT K H p xs) (hr : SqL K H r ys ∨ SqT K H r ys) (rc : Rows (CRow H C) xs cells) (rf : Rows (FRow K H CF CL) ys fs)
    (out : bookOut (.seq p xs (cells.map fun c => CI.cell c.1 c.2)) (.seq r ys (fs.map fun F => FI.fn F.d)) = none) (lc : cells.length ≤ 6) (lf : fs.length ≤ 8)
    (q : ∀ H', Same H H' → BookAt K H' CK C CF CL x cells fs → Q (.ref x) H') : spBook K CK C CF CC CN CO [.ref x, .ref p, .ref r] (upd (upd H dx (.own x)) x (.ins CK dx [])) (fun v H2 => v = .non ∧ Q (.ref x) H2) E := by
  have ms := made_same (C := CK) nx nd
  have rc1 : Rows (CRow (upd (upd H dx (.own x)) x (.ins CK dx [])) C) xs cells := rc.mono fun v c ⟨b, e, h⟩ => ⟨b, e, h.same ms⟩
  have rf1 : Rows (FRow K (upd (upd H dx (.own x)) x (.ins CK dx [])) CF CL) ys fs := rf.mono fun v c ⟨b, e, h⟩ => ⟨b, e, h.same ms⟩
  refine ⟨x, dx, .ref p, .ref r, .seq p xs (cells.map fun c => CI.cell c.1 c.2), .seq r ys (fs.map fun F => FI.fn F.d), rfl, upd_same, ⟨rfl, sqA_same hp ms, cells_row rc1, by rw [List.length_map]; omega⟩, ⟨rfl, sqA_same hr ms, fns_row rf1, by rw [List.length_map]; omega⟩, ?_⟩
  rw [out]
  intro H' bt left
  have s1 : Same H H' := but_new_same ms nx bt
  obtain ⟨t1, t2, D, e, h1, h2, h3⟩ := left _ _ _ _ _ _ rfl rfl
  exact ⟨rfl, q H' s1 ⟨dx, t1, t2, D, xs, ys, e, h1, rc.mono fun v c ⟨b, e, h⟩ => ⟨b, e, h.same s1⟩, h2, rf.mono fun v c ⟨b, e, h⟩ => ⟨b, e, h.same s1⟩, h3, lc, lf⟩⟩
section
variable {P : Program} {w : World} {K : PySem.W.Frag} {mg : Str → Option Value} {base : Heap}
theorem ok_made {CK C CF CL CB CP CT CC CN CO CQ f fF fB fC : Addr} {fd fdF fdB fdC : FuncData} (F : Fun K "_law_made_book" "_law_made_book" sMade f fd) (M : FunM P w K mg base CF CL CB CP CT fF fdF) (BM : BookMk P w K mg base CK C CF CC CN CO fB fdB) (CM : CellMk P w K mg base C CQ fC fdC) :
    FnOk P w K mg base CX0 13 f fd ["_law_b"] (spMade K CK C CF CL) := by
  refine F.ok scMade (fun vs H Q E h => ?_) (fun cdv A outer s H vs Q E hr h => ?_)
  · obtain ⟨b, cells, fs, rfl, _⟩ := h
    rfl
  · obtain ⟨b, cells, fs, rfl, hb, fit, q⟩ := h
    have hu := hu_of hr
    refine ⟨_, pss_cons (ps_set (i := 1) scMade.nd rfl (.inl rfl) (pe_lst pa_nil))
      (pss_cons (ps_for PassesOwn.never rfl (pi_list (pe_dget hu (pv 0) pe_str (fun _ _ => rfl))) (pg_name (i := 2) scMade.nd rfl (.inl rfl))
        (pss_cons (ps_set (i := 3) scMade.nd rfl (.inl rfl) (pe_makeK M.make M.ok (hr.mono (by decide)) (by rfl) M.gC M.b3 pass00 (pa_cons (pe_dget hu (pv 2) pe_str (fun _ _ => rfl)) (pa_cons (pe_dget hu (pv 2) pe_str (fun _ _ => rfl)) (pa_cons (pe_dget hu (pv 2) pe_str (fun _ _ => rfl)) pa_nil)))
          (pk_cons (pe_dget hu (pv 2) pe_str (fun _ _ => rfl)) (pk_cons (pe_dget hu (pv 2) pe_str (fun _ _ => rfl)) (pk_cons (pe_dget hu (pv 2) pe_str (fun _ _ => rfl)) pk_nil)))))
        (pss_one (ps_expr (pe_bm PySem.F.plainAttrs_list PySem.F.slot_list_append PySem.F.type_list_append mt_append (pv 1) (pa_cons (pv 3) pa_nil))))))
      (pss_one (ps_ret (pe_make (dvs := []) BM.make BM.ok (hr.mono (by decide)) (by rfl) BM.gC BM.bi .nil pass00 (pa_cons
        (pe_lc (own := [("_law_name", 4), ("_law_kind", 5)]) (g := gTup K 2 (gCons (gName 4) (gCons (gName 5) gNil))) (wi := iList K (tDGet (tVar 0) (tC (.str "cells")))) (tt := tYes) (te := tMake C (spCell K C CQ) [] E0 (tCons (tVar 4) (tCons (tVar 5) tNil))) (by rfl) scMade.nd (pi_list (pe_dget hu (pv 0) pe_str (fun _ _ => rfl)))
          (blkOk_by (own := [("_law_name", 4), ("_law_kind", 5)]) (N := ["_law_b", "_law_rows", "_law_f", "_law_one", "_law_name", "_law_kind"]) (sc := defScope sMade) (by decide +kernel)) (fun _ _ _ _ _ => pg_tup (by rfl) (pgs_cons (pg_name (i := 4) scMade.nd rfl (Or.inl rfl)) (pgs_cons (pg_name (i := 5) scMade.nd rfl (Or.inl rfl)) pgs_nil))) (fun _ _ _ _ _ => pts_nil)
          (fun _ _ _ _ _ => pe_make (dvs := []) CM.make CM.ok (hr.mono (by decide)) (by rfl) CM.gC CM.bi .nil pass00 (pa_cons (pv 4) (pa_cons (pv 5) pa_nil)))) (pa_cons (pv 1) pa_nil)))))), ?_⟩
    refine ⟨by show 0 ≤ sizeLine; decide, fun l nl => ?_⟩
    have sl := same_upd (o := HO.lst []) nl
    have el : (upd H l (.lst [])) l = some (.lst []) := upd_same
    generalize upd H l (.lst []) = H1 at sl el
    obtain ⟨c, ff, ts, gs, e0, e1, e2, r1, r2⟩ := id hb
    refine ⟨.ref b, rfl, b, .ref ff, rfl, dg (sl _ _ e0) "functions" rfl, ff, rfl, ⟨_, .inl (.inl (sl _ _ e2))⟩, ?_⟩
    refine for_list (K := K) (a := ff) (xs := gs) (fun j σ H' => ∃ z2 z3, σ = [some (.ref b), some (.ref l), z2, z3, none, none] ∧ Same H H' ∧ ∃ ys, H' l = some (.lst ys) ∧ Rows (FRow K H' CF CL) ys ((fs.take j).map fxOf))
      ⟨_, _, rfl, sl, [], el, rows_nil⟩ (fun j σ H2 _ pr => ?_) (fun j x σ H2 hx pr => ?_) (fun σ H2 pr => ?_)
    · obtain ⟨_, _, _, s2, _⟩ := pr
      exact .inl (.inl (s2 _ _ e2))
    · obtain ⟨z2, z3, rfl, s2, ys, eL, rY⟩ := pr
      obtain ⟨F, hF⟩ : ∃ F, fs[j]? = some F := ⟨_, List.getElem?_eq_getElem (by rw [← r2.1]; exact (List.getElem?_eq_some_iff.mp hx).1)⟩
      obtain ⟨g, vr, vw, rfl, eg, d1, d2, n1, n2⟩ := (r2.2 j x F hx hF).same s2
      have ok := fit.fn j F hF
      have kF : FXOk (fxOf F) := fxOf_ok (lok_take fit.ok j) ok
      obtain ⟨w0, w1, w2, w3, w4, w5, w6, w7⟩ := ws_of (lok_take fit.ok j) ok.ws
      have D : ∀ {y : Str} {v : V}, valV [((.inr "name" : Key), V.str F.nm), (.inr "many", .int (F.many : Nat)), (.inr "result", vr), (.inr "writes", vw), (.inr "cost", .int F.cost), (.inr "label", .str F.label)] (.inr y : Key) = some v → DGet H2 g (.str y) (some v) := fun {y v} h => .inl ⟨_, .inr y, .inl eg, rfl, h.symm⟩
      dsimp only [gName, List.set]
      refine q_asgP (Pr := fun v H3 => ∃ x, v = .ref x ∧ H2 x = none ∧ Same H2 H3 ∧ FunFull K H3 CF CL x (fxOf F)) (fun Q' hq => ?_) (fun v H3 hv => ?_)
      · refine ⟨.ref g, rfl, g, _, rfl, D rfl, .ref g, rfl, g, _, rfl, D rfl, .ref g, rfl, g, _, rfl, D rfl, .ref g, rfl, g, _, rfl, D rfl, .ref g, rfl, g, _, rfl, D rfl, .ref g, rfl, g, _, rfl, D rfl, rfl, rfl, fun x dx nx nd ne => ?_⟩
        exact fun_full (F := fxOf F) (Q := Q') kF nx nd (.str _) (.int _) d1 d2 (.int _) (.inr ⟨F.label, rfl, rfl, lab_idx ok.lab⟩) rfl (by rw [w0]; exact tup_writes kF) (by rw [w0]; exact tup_sz kF) fun H3 s3 hX => hq _ _ ⟨x, rfl, nx, s3, hX⟩
      obtain ⟨x, rfl, nx, s3, hX⟩ := hv
      have nxl : x ≠ l := (ne_of_none eL nx).symm
      dsimp only [gName, List.set]
      refine ⟨.ref l, rfl, .inl ⟨rfl, _, .inl (.inl (s3 _ _ eL))⟩, .ref x, rfl, l, ys, .ref x, rfl, rfl, s3 _ _ eL, ?_, ?_⟩
      · have := rY.1
        rw [List.length_map, List.length_take] at this
        have := fit.lf
        exact Nat.lt_of_le_of_lt (show ys.length ≤ 8 by omega) (by decide)
      have nlH : H l = none := nl
      have s4 : Same H (upd H3 l (.lst (ys ++ [V.ref x]))) := but_new_same (s2.trans s3) nlH But.upd
      have up : ∀ {v : V} {G : FX}, FRow K H3 CF CL v G → FRow K (upd H3 l (.lst (ys ++ [V.ref x]))) CF CL v G := by
        intro v G ⟨q, e, h⟩
        exact ⟨q, e, h.but (s3 _ _ eL) But.upd⟩
      refine ⟨_, _, rfl, s4, _, upd_same, ?_⟩
      rw [take_snoc hF, List.map_append]
      exact rows_snoc (rY.mono fun v G ⟨q, e, h⟩ => up ⟨q, e, h.same s3⟩) (up ⟨x, rfl, hX⟩)
    · obtain ⟨z2, z3, rfl, s2, ys, eL, rY⟩ := pr
      rw [List.take_of_length_le (by rw [r2.1]; exact Nat.le_refl _)] at rY
      refine ⟨.ref b, rfl, b, .ref c, rfl, dg (s2 _ _ e0) "cells" rfl, c, rfl, ⟨_, .inl (.inl (s2 _ _ e1))⟩, fun D2 hD2 => ?_⟩
      refine walk_gen (walk_list (K := K) (a := c) (xs := ts)) (fun i H' => Same H2 H' ∧ ∃ xs, H' D2 = some (.lst xs) ∧ Rows (CRow H' C) xs (cells.take i)) ⟨same_upd hD2, [], upd_same, rows_nil⟩ (fun i H' _ p => .inl (.inl (p.1 _ _ (s2 _ _ e1)))) (fun i x H3 H4 hi p y => ?_) (fun H3 p => ?_)
      · obtain ⟨s3, xs, eD, rX⟩ := p
        obtain ⟨rfl, hx⟩ := y
        obtain ⟨cc, hcc⟩ : ∃ cc, cells[i]? = some cc := ⟨_, List.getElem?_eq_getElem (by rw [← r1.1]; exact hi)⟩
        obtain ⟨t, rfl, ht⟩ := r1.2 i x cc hx hcc
        have mem := fit.ok.c cc (List.mem_of_getElem? hcc)
        refine ⟨t, _, rfl, same_sqT (s2.trans s3) ht, rfl, _, _, rfl, _, _, rfl, rfl, rfl, ?_⟩
        unfold tYes
        refine iteT ⟨.str cc.1, rfl, .str cc.2, rfl, fun x dx nx nd ne => ?_⟩
        refine cell_made (Q := fun v Hm => ∃ sofar, Hm D2 = some (.lst sofar) ∧ sofar.length < sizeLine ∧ (Same H2 (upd Hm D2 (.lst (sofar ++ [v]))) ∧ ∃ xs, (upd Hm D2 (.lst (sofar ++ [v]))) D2 = some (.lst xs) ∧ Rows (CRow (upd Hm D2 (.lst (sofar ++ [v]))) C) xs (cells.take (i + 1)))) mem.1 mem.2 nx nd fun H5 s5 hC => ⟨xs, s5 _ _ eD, ?_, but_new_same (s3.trans s5) hD2 But.upd, _, upd_same, ?_⟩
        · have := rX.1
          rw [List.length_take] at this
          have := fit.lc
          exact Nat.lt_of_le_of_lt (show xs.length ≤ 6 by omega) (by decide)
        · have up : ∀ {v : V} {c : Str × Str}, CRow H5 C v c → CRow (upd H5 D2 (.lst (xs ++ [V.ref x]))) C v c := fun ⟨q', e', dy, gy, h1', h2'⟩ => ⟨q', e', dy, gy, by rw [upd_ne (ne_of h1' (s5 _ _ eD) (fun z => nomatch z))]; exact h1', h2'⟩
          rw [take_snoc hcc]
          exact rows_snoc (rX.mono fun v c ⟨q', e', h'⟩ => up ⟨q', e', h'.same s5⟩) (up ⟨x, rfl, hC⟩)
      · obtain ⟨s3, xs, eD, rc⟩ := p
        rw [List.take_of_length_le (by rw [r1.1]; exact Nat.le_refl _)] at rc
        refine ⟨.ref l, rfl, fun x dx nx nd ne => ?_⟩
        have s23 := s2.trans s3
        have rf : Rows (FRow K H3 CF CL) ys (fs.map fxOf) := rY.mono fun v G ⟨q, e, h⟩ => ⟨q, e, h.same s3⟩
        refine book_made (Q := Q) nx nd (.inl (.inl (.inl eD))) (.inl (.inl (.inl (s3 _ _ eL)))) rc rf ?_ fit.lc (by rw [List.length_map]; exact fit.lf) fun H' s' hB => q x H' (s23.trans s') (s23.free nx) hB
        rw [List.map_map]
        exact fit.out _ _ _ _
end
/-! ### columns, calls -/
theorem ps_dead {X : Cx} {st : Stmt} : PS X st (fun _ _ _ => False) := ⟨fun _ _ _ _ _ _ h => h.elim⟩
theorem iteT' {c : Bool} {A B : Prop} (hc : c = true) (h : A) : if c = true then A else B := by
  rw [if_pos hc]
  exact h
theorem iteF' {c : Bool} {A B : Prop} (hc : c = false) (h : B) : if c = true then A else B := by
  rw [if_neg (by rw [hc]; decide)]
  exact h
abbrev sIsCol : Stmt := topS 41
theorem scIsCol : FnScope ["value"] ["value"] (defScope sIsCol) := ⟨rfl, rfl, rfl, by decide +kernel, rfl, by decide +kernel, by decide +kernel⟩
abbrev sIsCall : Stmt := topS 40
theorem scIsCall : FnScope ["value", "given"] ["value"] (defScope sIsCall) := ⟨rfl, rfl, rfl, by decide +kernel, rfl, by decide +kernel, by decide +kernel⟩
def isCol : PyData → Bool
  | .str z => decide (z = "x" ∨ z = "y")
  | _ => false
def givenB (d : PyData) : Bool := isValue d || isCol d
def callB : PyData → Bool
  | .tuple [n, .tuple as] => isName n && (decide (as.length ≤ 2) && as.all givenB)
  | _ => false
def constB : PyData → Bool
  | .tuple [_, .tuple as] => as.all fun d => !isCol d
  | _ => false
/-- the value of the argument d in the row -/
def inRow (r0 r1 : Int) : PyData → Int
  | .int i => i
  | .str z => if z = "x" then r0 else r1
  | _ => 0
/-- a row of values stands at a -/
def RowAt (K : PySem.W.Frag) (H : Hp) (a : Addr) (r0 r1 : Int) : Prop := SqT K H a [.int r0, .int r1]
def rowVals (r0 r1 : Int) : PyData → List Int
  | .tuple [_, .tuple as] => as.map (inRow r0 r1)
  | _ => []
/-- the names of the columns, and such -/
structure StTxt (K : PySem.W.Frag) (mg : Str → Option Value) : Prop where
  cols : ∃ a o, mg "COLUMNS" = some (.ref a) ∧ K.lookup a = some o ∧ o.cls = .type "tuple" ∧ o.dict = none ∧ ∀ H : Hp, SqT K H a [.str "x", .str "y"]
  args : ∃ t, mg "MOST_ARGUMENTS" = some (.int 2 t)
theorem szDs_item {ds : List PyData} {i : Nat} {d : PyData} (h : szDs ds = true) (e : ds[i]? = some d) : szD d = true := szDs_get h e
theorem szDs_len {ds : List PyData} (h : szDs ds = true) : True := True.intro
theorem sz_len {ds : List PyData} (h : szD (.tuple ds) = true) : ds.length ≤ 1000 := by
  unfold szD at h
  have := (Bool.and_eq_true_iff.mp h).1
  simp only [decide_eq_true_eq] at this
  omega
/-- [f(d) for d in t], by truths -/
theorem all_bls {ds : List PyData} {g : PyData → Bool} {n : Nat} (e : n = ds.length) : ((List.range n).map fun i => V.bl (g (ds.getD i .none))) = (ds.map g).map V.bl := by
  subst e
  apply List.ext_getElem?
  intro i
  rw [List.getElem?_map, List.getElem?_map, List.getElem?_map]
  by_cases h : i < ds.length
  · rw [List.getElem?_range h, List.getElem?_eq_getElem h, Option.map_some, Option.map_some, Option.map_some, List.getD_eq_getElem?_getD, List.getElem?_eq_getElem h]
    rfl
  · rw [List.getElem?_eq_none (by rw [List.length_range]; omega), List.getElem?_eq_none (by omega)]
    rfl
theorem getD_some {ds : List PyData} {i : Nat} {d : PyData} (h : ds[i]? = some d) : ds.getD i .none = d := by
  rw [List.getD_eq_getElem?_getD, h]
  rfl
theorem in_cols (z : Str) : inV (V.str z) [.str "x", .str "y"] = decide (z = "x" ∨ z = "y") := in_two z "x" "y"
section
variable {P : Program} {w : World} {K : PySem.W.Frag} {mg : Str → Option Value} {base : Heap}
theorem ok_isCol {f : Addr} {fd : FuncData} (F : Fun K "_is_column" "_is_column" sIsCol f fd) (M : Blt mg) (T : StTxt K mg) : FnOk P w K mg base CX0 1 f fd ["value"] (spB K isCol) := by
  obtain ⟨aC, oC, gC, lC, cC, dC', hC⟩ := T.cols
  refine F.ok scIsCol (fun vs H Q E h => ?_) (fun cdv A outer s H vs Q E hr h => ?_)
  · obtain ⟨v, d, rfl, _⟩ := h
    rfl
  · obtain ⟨v, d, rfl, hv, hz, q⟩ := h
    refine ⟨_, pss_one (ps_ret (pe_and (pe_callB call_isi (by rfl) M.isinstance (by decide +kernel) (pa_cons (pv 0) (pa_cons (pe_bltn (v := .ty "str") (by rfl) M.str (by decide +kernel) rfl) pa_nil))) (pe_one (pe_cmpR op_in_seq (pv 0) (pe_glob (v := .ref aC) (by rfl) gC rfl) (by rfl))))), ?_⟩
    refine ⟨v, rfl, v, _, _, _, _, rfl, .ty "str", dp_ty hv, kit_str K d, _, rfl, ?_⟩
    cases hv with
    | str z =>
      refine iteT ⟨.str z, rfl, aC, _, rfl, .inr (hC H), rfl, by decide, ?_⟩
      rw [in_cols]
      exact q H (Same.refl H)
    | _ => exact iteF (q H (Same.refl H))
theorem ok_isCall {f fW fV fN fC : Addr} {fd dW dV dN dC : FuncData} (F : Fun K "is_call" "is_call" sIsCall f fd) (M : Blt mg) (TC : CellsTxt K mg) (T : StTxt K mg) (G : CellFns K mg fW fV fN dW dV dN)
    (FC : Fun K "_is_column" "_is_column" sIsCol fC dC) (bC : Binds K dC ["value"] []) (gC : mg "_is_column" = some (.ref fC)) : FnOk P w K mg base CX0 3 f fd ["value"] (spB K callB) := by
  have GV : FnOk P w K mg base CX0 2 fV dV ["value"] (spB K isValue) := ok_value G.V M TC G.W G.bW G.gW
  have GN : FnOk P w K mg base CX0 1 fN dN ["value"] (spB K isName) := ok_name G.N M TC
  have GC : FnOk P w K mg base CX0 1 fC dC ["value"] (spB K isCol) := ok_isCol FC M T
  obtain ⟨t2, g2⟩ := T.args
  refine F.ok scIsCall (fun vs H Q E h => ?_) (fun cdv A outer s H vs Q E hr h => ?_)
  · obtain ⟨v, d, rfl, _⟩ := h
    rfl
  · obtain ⟨v, d, rfl, hv, hz, q⟩ := h
    have hr1 : Room 1 _ := hr.mono (by decide)
    refine ⟨_, pss_cons (ps_if (PW.pt (pw_or (pt_not (pt_val (pe_callB call_isi (by rfl) M.isinstance (by decide +kernel) (pa_cons (pv 0) (pa_cons (pe_bltn (v := .ty "tuple") (by rfl) M.tuple (by decide +kernel) rfl) pa_nil)))))
        (pw_or (pt_cmpR op_ne (pe_callB call_len_seq (by rfl) M.len PySem.boot_len (pa_cons (pv 0) pa_nil)) pe_int (nomark _))
          (pw_or1 (pt_not (pt_val (pe_call GN hr1 (by rfl) G.gN G.N.kp G.bN .nil pass0 (pa_cons (pe_ix ix_tup (pv 0) pe_int (fun _ _ => rfl)) pa_nil))))))))
        (pss_one (ps_ret pe_bl)) pss_nil)
      (pss_cons (ps_if (PW.pt (pw_or (pt_not (pt_val (pe_callB call_isi (by rfl) M.isinstance (by decide +kernel) (pa_cons (pe_ix ix_tup (pv 0) pe_int (fun _ _ => rfl)) (pa_cons (pe_bltn (v := .ty "tuple") (by rfl) M.tuple (by decide +kernel) rfl) pa_nil)))))
          (pw_or1 (pt_cmpR op_gt (pe_callB call_len_seq (by rfl) M.len PySem.boot_len (pa_cons (pe_ix ix_tup (pv 0) pe_int (fun _ _ => rfl)) pa_nil)) (pe_glob (v := .int 2) (by rfl) g2 ⟨_, rfl⟩) (nomark _)))))
        (pss_one (ps_ret pe_bl)) pss_nil)
      (pss_one (ps_ret (pe_callB (cr_all rfl) (by rfl) M.all (by decide +kernel) (pa_cons
        (pe_lc (own := [("given", 1)]) (g := gName 1) (wi := iTup K (tOp (rIxT K) (tVar 0) (tC (.int 1)))) (tt := tYes) (te := tOrV (tCall (spB K isValue) [] E0 (tCons (tVar 1) tNil)) (tCall (spB K isCol) [] E0 (tCons (tVar 1) tNil))) (by rfl) scIsCall.nd (pi_tup (pe_ix ix_tup (pv 0) pe_int (fun _ _ => rfl))) (blkOk_by (own := [("given", 1)]) (N := ["value", "given"]) (sc := defScope sIsCall) (by decide +kernel))
          (fun _ _ _ _ _ => pg_name (i := 1) scIsCall.nd rfl (Or.inl rfl)) (fun _ _ _ _ _ => pts_nil) (fun _ _ _ _ _ => pe_or (pe_call GV hr (by rfl) G.gV G.V.kp G.bV .nil pass0 (pa_cons (pv 1) pa_nil)) (pe_one (pe_call GC hr1 (by rfl) gC FC.kp bC .nil pass0 (pa_cons (pv 1) pa_nil))))) pa_nil))))), ?_⟩
    have fin : ∀ (b : Bool) H2, Same H H2 → callB d = b → Q (.bl b) H2 := fun b H2 s2 e => by
      have q1 := q H2 s2
      rw [e] at q1
      exact q1
    refine ⟨v, rfl, v, _, _, _, _, rfl, .ty "tuple", dp_ty hv, kit_tup K d, _, rfl, ?_⟩
    cases hv with
    | @tup a xs ts hs ha =>
      have el : xs.length = ts.length := dpA_len ha
      refine iteF ⟨_, rfl, a, xs, rfl, .inr hs, rfl, _, rfl, ?_⟩
      by_cases h2 : ts.length = 2
      · obtain ⟨d0, d1, rfl⟩ := len2 h2
        obtain ⟨x0, x1, rfl, h0, h1⟩ := dp_pair ha
        refine iteF' (by rw [el]; rfl) ⟨_, rfl, a, _, 0, x0, rfl, rfl, hs, rfl, x0, d0, rfl, h0, szDs_get (szD_tup hz) (i := 0) rfl, fun H1 s1 => ⟨_, rfl, ?_⟩⟩
        have z1 : szD d1 = true := szDs_get (szD_tup hz) (i := 1) rfl
        cases hn : isName d0 with
        | false =>
          refine iteT (fin false H1 s1 ?_)
          unfold callB
          split
          · rename_i n as e
            injection e with e
            injection e with e0 e1
            rw [← e0, hn]
            rfl
          · rfl
        | true =>
          refine iteF ⟨_, rfl, a, _, 1, x1, rfl, rfl, same_sqT s1 hs, rfl, x1, _, _, _, _, rfl, .ty "tuple", dp_ty (dp_same s1 h1), kit_tup K d1, _, rfl, ?_⟩
          have h1' := dp_same s1 h1
          cases h1' with
          | @tup c us as hs1 ha1 =>
            have eu : us.length = as.length := dpA_len ha1
            refine iteF ⟨_, rfl, a, _, 1, .ref c, rfl, rfl, same_sqT s1 hs, rfl, c, us, rfl, .inr hs1, _, _, rfl, rfl, _, rfl, ?_⟩
            have cb : callB (.tuple [d0, .tuple as]) = (decide (as.length ≤ 2) && as.all givenB) := by
              show (isName d0 && _) = _
              rw [hn, Bool.true_and]
            by_cases l2 : as.length ≤ 2
            · refine iteF' (decide_eq_false (by omega)) ?_
              refine ⟨_, rfl, a, _, 1, .ref c, rfl, rfl, same_sqT s1 hs, rfl, c, rfl, ⟨_, hs1⟩, fun D hD => ?_⟩
              refine lc_vals (walk_tup (K := K) (a := c) (xs := us)) (fun i => .bl (givenB (as.getD i .none))) (by omega) hD (fun x => rfl) (fun H' s => same_sqT s hs1) (fun i x H2 H3 hi s2 y => ?_) (fun H2 s2 e2 => ?_)
              · obtain ⟨rfl, hx⟩ := y
                obtain ⟨e, he, hxe⟩ := dpA_at ha1 hx
                have ze : szD e = true := szDs_get (szD_tup z1) he
                refine ⟨Same.refl _, fun Q' q' => ⟨x, rfl, x, e, rfl, dp_same s2 hxe, ze, fun H4 s4 => ⟨_, rfl, ?_⟩⟩⟩
                have eg : givenB (as.getD i .none) = (isValue e || isCol e) := by rw [getD_some he]; rfl
                cases hv2 : isValue e with
                | true =>
                  rw [eg, hv2] at q'
                  exact iteT (q' H4 s4)
                | false =>
                  rw [eg, hv2] at q'
                  exact iteF ⟨x, rfl, x, e, rfl, dp_same (s2.trans s4) hxe, ze, fun H5 s5 => q' H5 (s4.trans s5)⟩
              · rw [all_bls eu] at e2
                refine ⟨D, as.map givenB, rfl, .inl (.inl e2), ?_⟩
                have e3 : (as.map givenB).all id = callB (.tuple [d0, .tuple as]) := by
                  rw [cb, decide_eq_true l2, Bool.true_and, List.all_map]
                  rfl
                rw [e3]
                exact q H2 (s1.trans s2)
            · refine iteT' (decide_eq_true (by omega)) (fin false H1 s1 ?_)
              rw [cb, decide_eq_false l2]
              rfl
          | _ => exact iteT (fin false H1 s1 rfl)
      · refine iteT' (by rw [el, decide_eq_false (show ¬ (V.int ((ts.length : Nat) : Int) = V.int 2) from fun e => h2 (Int.ofNat.inj (V.int.inj e)))]; rfl) (fin false H (Same.refl H) ?_)
        unfold callB
        split
        · rename_i n as e
          injection e with e
          rw [e] at h2
          exact absurd rfl h2
        · rfl
    | _ => exact iteT (fin false H (Same.refl H) rfl)
theorem call_shape {d : PyData} (h : callB d = true) : ∃ n as, d = .tuple [n, .tuple as] ∧ isName n = true ∧ as.length ≤ 2 ∧ ∀ e ∈ as, givenB e = true := by
  unfold callB at h
  split at h
  · rename_i n as
    simp only [Bool.and_eq_true, decide_eq_true_eq, List.all_eq_true] at h
    exact ⟨n, as, rfl, h.1, h.2.1, h.2.2⟩
  · cases h
end
/-! ### trees -/
abbrev sIsTr : Stmt := topS 43
theorem scIsTr : FnScope ["value", "deep", "word", "part"] ["value", "deep"] (defScope sIsTr) := ⟨rfl, rfl, rfl, by decide +kernel, rfl, by decide +kernel, by decide +kernel⟩
abbrev sTree : Stmt := topS 42
theorem scTree : FnScope ["value"] ["value"] (defScope sTree) := ⟨rfl, rfl, rfl, by decide +kernel, rfl, by decide +kernel, by decide +kernel⟩
abbrev sBr : Stmt := topS 44
theorem scBr : FnScope ["tree"] ["tree"] (defScope sBr) := ⟨rfl, rfl, rfl, by decide +kernel, rfl, by decide +kernel, by decide +kernel⟩
def isForm : List PyData → Bool
  | [c, v] => callB c && isValue v
  | _ => false
def oneT (f : PyData → Bool) : List PyData → Bool
  | [t] => f t
  | _ => false
def rowT (f : PyData → Bool) : List PyData → Bool
  | [.tuple ts] => decide (1 ≤ ts.length) && (decide (ts.length ≤ 8) && ts.all f)
  | _ => false
/-- a tree at most so deep -/
def treeB : Nat → PyData → Bool
  | 0, _ => false
  | f + 1, .tuple (.str w :: rest) => if w = "is" then isForm rest else if w = "not" then oneT (treeB f) rest else if w = "and" ∨ w = "or" then rowT (treeB f) rest else false
  | _ + 1, _ => false
theorem isForm_bad : ∀ {l : List PyData}, l.length ≠ 2 → isForm l = false
  | [], _ => rfl
  | [_], _ => rfl
  | [_, _], h => absurd rfl h
  | _ :: _ :: _ :: _, _ => rfl
theorem oneT_bad {f : PyData → Bool} : ∀ {l : List PyData}, l.length ≠ 1 → oneT f l = false
  | [], _ => rfl
  | [_], h => absurd rfl h
  | _ :: _ :: _, _ => rfl
theorem rowT_bad {f : PyData → Bool} : ∀ {l : List PyData}, l.length ≠ 1 → rowT f l = false
  | [], _ => rfl
  | [_], h => absurd rfl h
  | .none :: _ :: _, _ => rfl
  | .bool _ :: _ :: _, _ => rfl
  | .int _ :: _ :: _, _ => rfl
  | .str _ :: _ :: _, _ => rfl
  | .list _ :: _ :: _, _ => rfl
  | .tuple _ :: _ :: _, _ => rfl
  | .dict _ :: _ :: _, _ => rfl
theorem treeB_eq (f : Nat) (w : Str) (rest : List PyData) : treeB (f + 1) (.tuple (.str w :: rest)) = if w = "is" then isForm rest else if w = "not" then oneT (treeB f) rest else if w = "and" ∨ w = "or" then rowT (treeB f) rest else false := rfl
theorem treeB_flat {f : Nat} {d : PyData} (h : ∀ w rest, d ≠ .tuple (.str w :: rest)) : treeB f d = false := by
  cases f with
  | zero => rfl
  | succ f =>
    cases d with
    | tuple ts =>
      cases ts with
      | nil => rfl
      | cons x r =>
        cases x with
        | str w => exact absurd rfl (h w r)
        | _ => rfl
    | _ => rfl
theorem in_three (z a b c : Str) : inV (.str z) [.str a, .str b, .str c] = decide (z = a ∨ z = b ∨ z = c) := by
  show ((a == z) || ((b == z) || ((c == z) || false))) = _
  rw [Bool.eq_iff_iff]
  simp only [Bool.or_eq_true, beq_iff_eq, Bool.or_false, decide_eq_true_eq]
  constructor
  · rintro (h | h | h)
    · exact .inl h.symm
    · exact .inr (.inl h.symm)
    · exact .inr (.inr h.symm)
  · rintro (h | h | h)
    · exact .inl h.symm
    · exact .inr (.inl h.symm)
    · exact .inr (.inr h.symm)
def spTr (K : PySem.W.Frag) (n : Nat) : Sp := fun vs H Q _ => ∃ (v : V) (d : PyData) (m : Nat), vs = [v, .int m] ∧ m ≤ n ∧ Dp K H v d ∧ szD d = true ∧ ∀ H', Same H H' → Q (.bl (treeB m d)) H'
structure TrTxt (K : PySem.W.Frag) (mg : Str → Option Value) : Prop where
  br : ∃ t, mg "MOST_BRANCHES" = some (.int 8 t)
  dp : ∃ t, mg "DEEPEST_TREE" = some (.int 8 t)
section
variable {P : Program} {w : World} {K : PySem.W.Frag} {mg : Str → Option Value} {base : Heap}
/-- the body of _is_tree, by what it says one less deep -/
theorem isTr_body {f fC fV fT : Addr} {fd dC dV : FuncData} {dT : FuncData} {n : Nat} (F : Fun K "_is_tree" "_is_tree" sIsTr f fd) (M : Blt mg) (T : TrTxt K mg)
    (GC : FnOk P w K mg base CX0 3 fC dC ["value"] (spB K callB)) (kC : PySem.W.keepIn K (.ref fC) = true) (bC : Binds K dC ["value"] []) (gC : mg "is_call" = some (.ref fC))
    (GV : FnOk P w K mg base CX0 2 fV dV ["value"] (spB K isValue)) (kV : PySem.W.keepIn K (.ref fV) = true) (bV : Binds K dV ["value"] []) (gV : mg "is_value" = some (.ref fV))
    (GT : FnOk P w K mg base CX0 (4 + n) f fd ["value", "deep"] (spTr K n)) (bT : Binds K fd ["value", "deep"] []) (gT : mg "_is_tree" = some (.ref f)) : FnOk P w K mg base CX0 (4 + (n + 1)) f fd ["value", "deep"] (spTr K (n + 1)) := by
  obtain ⟨t8, g8⟩ := T.br
  refine F.ok scIsTr (fun vs H Q E h => ?_) (fun cdv A outer s H vs Q E hr h => ?_)
  · obtain ⟨v, d, m, rfl, _⟩ := h
    rfl
  · obtain ⟨v, d, m, rfl, hm, hv, hz, q⟩ := h
    have hr3 : Room 3 (A.deeper (envOfC "_is_tree" (defScope sIsTr) s.heap.objs.size f cdv)) := hr.mono (show 3 ≤ 4 + n by omega)
    have hr2 : Room 2 (A.deeper (envOfC "_is_tree" (defScope sIsTr) s.heap.objs.size f cdv)) := hr.mono (show 2 ≤ 4 + n by omega)
    refine ⟨_, pss_cons (ps_if (PW.pt (pw_or (pt_cmpR op_eq (pv 1) pe_int (nomark _)) (pw_or (pt_not (pt_val (pe_callB call_isi (by rfl) M.isinstance (by decide +kernel) (pa_cons (pv 0) (pa_cons (pe_bltn (v := .ty "tuple") (by rfl) M.tuple (by decide +kernel) rfl) pa_nil)))))
          (pw_or (pt_cmpR op_lt (pe_callB call_len_seq (by rfl) M.len PySem.boot_len (pa_cons (pv 0) pa_nil)) pe_int (nomark _))
            (pw_or1 (pt_not (pt_val (pe_callB call_isi (by rfl) M.isinstance (by decide +kernel) (pa_cons (pe_ix ix_tup (pv 0) pe_int (fun _ _ => rfl)) (pa_cons (pe_bltn (v := .ty "str") (by rfl) M.str (by decide +kernel) rfl) pa_nil))))))))))
        (pss_one (ps_ret pe_bl)) pss_nil)
      (pss_cons (ps_set (i := 2) scIsTr.nd rfl (.inl rfl) (pe_ix ix_tup (pv 0) pe_int (fun _ _ => rfl)))
      (pss_cons (ps_if (pt_cmpR op_eq (pv 2) pe_str (nomark _)) (pss_one (ps_ret (pe_and (pe_cmpR op_eq (pe_callB call_len_seq (by rfl) M.len PySem.boot_len (pa_cons (pv 0) pa_nil)) pe_int (nomark _))
          (pe_and (pe_call GC hr3 (by rfl) gC kC bC .nil pass0 (pa_cons (pe_ix ix_tup (pv 0) pe_int (fun _ _ => rfl)) pa_nil)) (pe_one (pe_call GV hr2 (by rfl) gV kV bV .nil pass0 (pa_cons (pe_ix ix_tup (pv 0) pe_int (fun _ _ => rfl)) pa_nil))))))) pss_nil)
      (pss_cons (ps_if (PW.pt (pw_or (pt_cmpR op_notIn_seq (pv 2) (pe_tup (pa_cons pe_str (pa_cons pe_str (pa_cons pe_str pa_nil)))) (by rfl)) (pw_or1 (pt_cmpR op_ne (pe_callB call_len_seq (by rfl) M.len PySem.boot_len (pa_cons (pv 0) pa_nil)) pe_int (nomark _))))) (pss_one (ps_ret pe_bl)) pss_nil)
      (pss_cons (ps_if (pt_cmpR op_eq (pv 2) pe_str (nomark _)) (pss_one (ps_ret (pe_call GT hr (by rfl) gT F.kp bT .nil pass0 (pa_cons (pe_ix ix_tup (pv 0) pe_int (fun _ _ => rfl)) (pa_cons (pe_op op_sub (pv 1) pe_int) pa_nil))))) pss_nil)
      (pss_cons (ps_if (PW.pt (pw_or (pt_not (pt_val (pe_callB call_isi (by rfl) M.isinstance (by decide +kernel) (pa_cons (pe_ix ix_tup (pv 0) pe_int (fun _ _ => rfl)) (pa_cons (pe_bltn (v := .ty "tuple") (by rfl) M.tuple (by decide +kernel) rfl) pa_nil)))))
          (pw_or1 (pt_not (pt_chain op_le op_le pe_int (pe_callB call_len_seq (by rfl) M.len PySem.boot_len (pa_cons (pe_ix ix_tup (pv 0) pe_int (fun _ _ => rfl)) pa_nil)) (pe_glob (v := .int 8) (by rfl) g8 ⟨_, rfl⟩)))))) (pss_one (ps_ret pe_bl)) pss_nil)
      (pss_cons (ps_for PassesOwn.never rfl (pi_tup (pe_ix ix_tup (pv 0) pe_int (fun _ _ => rfl))) (pg_name (i := 3) scIsTr.nd rfl (.inl rfl))
        (pss_one (ps_if (pt_not (pt_val (pe_call GT hr (by rfl) gT F.kp bT .nil pass0 (pa_cons (pv 3) (pa_cons (pe_op op_sub (pv 1) pe_int) pa_nil))))) (pss_one (ps_ret pe_bl)) pss_nil)))
      (pss_one (ps_ret pe_bl)))))))), ?_⟩
    have fin : ∀ (b : Bool) H2, Same H H2 → treeB m d = b → Q (.bl b) H2 := fun b H2 s2 e => by
      have q1 := q H2 s2
      rw [e] at q1
      exact q1
    refine ⟨_, rfl, rfl, _, rfl, ?_⟩
    cases m with
    | zero => exact iteT' (decide_eq_true rfl) (fin false H (Same.refl H) rfl)
    | succ m =>
      refine iteF' (decide_eq_false (fun e => by have := V.int.inj e; omega)) ⟨v, rfl, v, _, _, _, _, rfl, .ty "tuple", dp_ty hv, kit_tup K d, _, rfl, ?_⟩
      cases hv with
      | @tup a xs ts hs ha =>
        have el : xs.length = ts.length := dpA_len ha
        refine iteF ⟨_, rfl, a, xs, rfl, .inr hs, _, _, rfl, rfl, _, rfl, ?_⟩
        by_cases l2 : ts.length < 2
        · refine iteT' (decide_eq_true (by omega)) (fin false H (Same.refl H) ?_)
          match ts, l2 with
          | [], _ => exact treeB_flat fun w rest e => by cases e
          | [x], _ =>
            cases x with
            | str w =>
              rw [treeB_eq, isForm_bad (l := []) (by decide), oneT_bad (l := []) (by decide), rowT_bad (l := []) (by decide)]
              split
              · rfl
              · split
                · rfl
                · split <;> rfl
            | _ => exact treeB_flat fun w rest e => by cases e
        · refine iteF' (decide_eq_false (by omega)) ?_
          match ts, l2, ha with
          | d0 :: rest, l2, ha =>
          cases ha with
          | @cons x0 xr _ _ h0 hr0 =>
          have at0 : atI (x0 :: xr) (0 : Int) = some x0 := atI_nat (j := 0) rfl
          refine ⟨_, rfl, a, _, 0, x0, rfl, rfl, hs, at0, x0, _, _, _, _, rfl, .ty "str", dp_ty h0, kit_str K d0, _, rfl, ?_⟩
          cases h0 with
          | str w =>
            refine iteF ?_
            dsimp only [tNext]
            refine ⟨_, rfl, a, _, 0, .str w, rfl, rfl, hs, at0, ?_⟩
            dsimp only [gName, List.set]
            have elr : xr.length = rest.length := dpA_len hr0
            have zr : szDs rest = true := by
              have := szD_tup hz
              have h2 : (szD (.str w) && szDs rest) = true := by
                unfold szDs at this
                exact this
              exact (Bool.and_eq_true_iff.mp h2).2
            refine ⟨_, rfl, rfl, _, rfl, ?_⟩
            rw [dstr]
            by_cases hi : w = "is"
            · subst hi
              refine iteT' (decide_eq_true rfl) ⟨_, rfl, a, _, rfl, .inr hs, rfl, _, rfl, ?_⟩
              by_cases h3 : rest.length = 2
              · obtain ⟨c, u, rfl⟩ := len2 h3
                obtain ⟨y0, y1, rfl, g0, g1⟩ := dp_pair hr0
                have et : treeB (m + 1) (.tuple [.str "is", c, u]) = (callB c && isValue u) := rfl
                refine iteT' (by rfl) ⟨_, rfl, a, _, 1, y0, rfl, rfl, hs, rfl, y0, c, rfl, g0, szDs_get zr (i := 0) rfl, fun H1 s1 => ⟨_, rfl, ?_⟩⟩
                cases hc : callB c with
                | false => exact iteF (fin false H1 s1 (by rw [et, hc]; rfl))
                | true => exact iteT ⟨_, rfl, a, _, 2, y1, rfl, rfl, same_sqT s1 hs, rfl, y1, u, rfl, dp_same s1 g1, szDs_get zr (i := 1) rfl, fun H2 s2 => fin _ H2 (s1.trans s2) (by rw [et, hc]; rfl)⟩
              · refine iteF' (decide_eq_false (fun e => h3 ?_)) (fin false H (Same.refl H) ?_)
                · have e2 : ((xr.length + 1 : Nat) : Int) = 3 := V.int.inj e
                  omega
                · rw [treeB_eq, if_pos rfl, isForm_bad h3]
            · refine iteF' (decide_eq_false hi) ?_
              dsimp only [tNext]
              refine ⟨_, rfl, (by show 3 ≤ sizeLine; decide), fun tp np => ?_⟩
              have s1 := same_upd (o := HO.tup [.str "not", .str "and", .str "or"]) np
              have etp : SqT K (upd H tp (.tup [.str "not", .str "and", .str "or"])) tp [.str "not", .str "and", .str "or"] := .inl (.inl upd_same)
              generalize upd H tp (.tup [.str "not", .str "and", .str "or"]) = H1 at s1 etp ⊢
              have hs1 := same_sqT s1 hs
              refine ⟨tp, _, rfl, .inr etp, rfl, by decide, _, rfl, ?_⟩
              rw [in_three]
              by_cases hw : w = "not" ∨ w = "and" ∨ w = "or"
              · refine iteF' (by rw [decide_eq_true hw]; rfl) ⟨_, rfl, a, _, rfl, .inr hs1, rfl, _, rfl, ?_⟩
                by_cases h1 : rest.length = 1
                · obtain ⟨t, rfl⟩ := List.length_eq_one_iff.mp h1
                  cases hr0 with
                  | @cons y0 yr _ _ g0 gr =>
                  cases gr
                  have zt : szD t = true := szDs_get zr (i := 0) rfl
                  refine iteF' (by rfl) ?_
                  dsimp only [tNext]
                  refine ⟨_, rfl, rfl, _, rfl, ?_⟩
                  rw [dstr]
                  by_cases hn : w = "not"
                  · subst hn
                    refine iteT' (decide_eq_true rfl) ⟨_, rfl, a, _, 1, y0, rfl, rfl, hs1, rfl, _, rfl, _, _, rfl, rfl, y0, t, m, by show [y0, V.int (((m + 1 : Nat) : Int) - 1)] = _; rw [show ((m + 1 : Nat) : Int) - 1 = (m : Nat) by omega], by omega, dp_same s1 g0, zt, fun H2 s2 => fin _ H2 (s1.trans s2) rfl⟩
                  · refine iteF' (decide_eq_false hn) ?_
                    dsimp only [tNext]
                    have hao : w = "and" ∨ w = "or" := hw.resolve_left hn
                    have et : ∀ x, treeB (m + 1) (.tuple [.str w, x]) = rowT (treeB m) [x] := fun x => by rw [treeB_eq, if_neg hi, if_neg hn, if_pos hao]
                    refine ⟨_, rfl, a, _, 1, y0, rfl, rfl, hs1, rfl, y0, _, _, _, _, rfl, .ty "tuple", dp_ty (dp_same s1 g0), kit_tup K t, _, rfl, ?_⟩
                    have g1 := dp_same s1 g0
                    cases g1 with
                    | @tup c us ts2 hs2 ha2 =>
                      have eu : us.length = ts2.length := dpA_len ha2
                      refine iteF ⟨_, rfl, a, _, 1, .ref c, rfl, rfl, hs1, rfl, c, us, rfl, .inr hs2, ?_⟩
                      have er : treeB (m + 1) (.tuple [.str w, .tuple ts2]) = (decide (1 ≤ ts2.length) && (decide (ts2.length ≤ 8) && ts2.all (treeB m))) := et _
                      by_cases hb : 1 ≤ ts2.length ∧ ts2.length ≤ 8
                      · refine ⟨_, _, rfl, rfl, _, rfl, iteT' (decide_eq_true (by omega)) ⟨_, _, rfl, rfl, _, rfl, iteF' (by rw [decide_eq_true (show ((us.length : Nat) : Int) ≤ 8 by omega)]; rfl) ?_⟩⟩
                        dsimp only [tNext]
                        refine ⟨_, rfl, a, _, 1, .ref c, rfl, rfl, hs1, rfl, c, rfl, ⟨_, hs2⟩, ?_⟩
                        have zts : szDs ts2 = true := szD_tup zt
                        refine for_tup (K := K) (a := c) (xs := us) (fun j σ H' => ∃ z3, σ = [some (.ref a), some (.int ((m + 1 : Nat) : Int)), some (.str w), z3] ∧ Same H1 H' ∧ ∀ i e, i < j → ts2[i]? = some e → treeB m e = true) ⟨_, rfl, Same.refl H1, fun i e h => absurd h (Nat.not_lt_zero _)⟩ (fun j σ H' _ pr => ?_) (fun j x σ H' hx pr => ?_) (fun σ H' pr => ?_)
                        · obtain ⟨_, _, s2, _⟩ := pr
                          exact same_sqT s2 hs2
                        · obtain ⟨z3, rfl, s2, was⟩ := pr
                          obtain ⟨e, he, hxe⟩ := dpA_at ha2 hx
                          dsimp only [gName, List.set]
                          refine ⟨x, rfl, _, rfl, _, _, rfl, rfl, x, e, m, by show [x, V.int (((m + 1 : Nat) : Int) - 1)] = _; rw [show ((m + 1 : Nat) : Int) - 1 = (m : Nat) by omega], by omega, dp_same s2 hxe, szDs_get zts he, fun H2 s3 => ⟨_, rfl, ?_⟩⟩
                          cases hte : treeB m e with
                          | false =>
                            refine iteT (fin false H2 (s1.trans (s2.trans s3)) ?_)
                            rw [er]
                            have : ts2.all (treeB m) = false := by
                              rw [List.all_eq_false]
                              exact ⟨e, List.mem_of_getElem? he, by rw [hte]; decide⟩
                            rw [this, Bool.and_false, Bool.and_false]
                          | true =>
                            refine iteF ⟨_, rfl, s2.trans s3, fun i e' hi' he' => ?_⟩
                            by_cases ij : i = j
                            · subst ij
                              rw [he] at he'
                              exact Option.some.inj he' ▸ hte
                            · exact was i e' (by omega) he'
                        · obtain ⟨z3, rfl, s2, was⟩ := pr
                          refine fin true H' (s1.trans s2) ?_
                          rw [er, decide_eq_true hb.1, decide_eq_true hb.2, Bool.true_and, Bool.true_and, List.all_eq_true]
                          intro e he
                          obtain ⟨i, hi'⟩ := List.getElem?_of_mem he
                          exact was i e (by rw [eu]; exact (List.getElem?_eq_some_iff.mp hi').1) hi'
                      · have ef : treeB (m + 1) (.tuple [.str w, .tuple ts2]) = false := by
                          rw [er]
                          by_cases h1' : 1 ≤ ts2.length
                          · rw [decide_eq_false (show ¬ ts2.length ≤ 8 from fun h => hb ⟨h1', h⟩)]
                            simp
                          · rw [decide_eq_false h1']
                            rfl
                        refine ⟨_, _, rfl, rfl, _, rfl, ?_⟩
                        cases h1' : decide ((1 : Int) ≤ ((us.length : Nat) : Int)) with
                        | false => exact iteF ⟨_, rfl, iteT (fin false H1 s1 ef)⟩
                        | true =>
                          refine iteT ⟨_, _, rfl, rfl, _, rfl, iteT' ?_ (fin false H1 s1 ef)⟩
                          rw [decide_eq_false (show ¬ ((us.length : Nat) : Int) ≤ 8 from fun h => hb ⟨by have := of_decide_eq_true h1'; omega, by omega⟩)]
                          rfl
                    | _ => exact iteT (fin false H1 s1 (by rw [et] <;> rfl))
                · refine iteT' ?_ (fin false H1 s1 ?_)
                  · rw [decide_eq_false (show ¬ (V.int (((V.str w :: xr).length : Nat) : Int) = V.int 2) from fun e => h1 (by have e2 : ((xr.length + 1 : Nat) : Int) = 2 := V.int.inj e; omega))]
                    rfl
                  · rw [treeB_eq, if_neg hi, oneT_bad h1, rowT_bad h1]
                    split
                    · rfl
                    · split <;> rfl
              · refine iteT' (by rw [decide_eq_false hw]; rfl) (fin false H1 s1 ?_)
                rw [treeB_eq, if_neg hi, if_neg fun e => hw (.inl e), if_neg fun e => hw (.inr e)]
          | _ => exact iteT (fin false H (Same.refl H) (treeB_flat fun w rest e => by cases e))
      | _ => exact iteT (fin false H (Same.refl H) (treeB_flat fun w rest e => by cases e))
end
/-! ### trees: what they hold -/
theorem fm_congr {α β : Type} {f g : α → List β} : ∀ {l : List α}, (∀ t ∈ l, f t = g t) → l.flatMap f = l.flatMap g
  | [], _ => rfl
  | a :: l, h => by rw [List.flatMap_cons, List.flatMap_cons, h a List.mem_cons_self, fm_congr fun t m => h t (List.mem_cons_of_mem _ m)]
theorem all_bool {α : Type} {p : α → Bool} {l : List α} (h : l.all p = true) : ∀ x ∈ l, p x = true := fun x hx => List.all_eq_true.mp h x hx
theorem tree_shape {f : Nat} {d : PyData} (h : treeB f d = true) : ∃ g, f = g + 1 ∧ ((∃ c v, d = .tuple [.str "is", c, v] ∧ callB c = true ∧ isValue v = true) ∨ (∃ t, d = .tuple [.str "not", t] ∧ treeB g t = true) ∨
    (∃ w ts, d = .tuple [.str w, .tuple ts] ∧ (w = "and" ∨ w = "or") ∧ 1 ≤ ts.length ∧ ts.length ≤ 8 ∧ ∀ t ∈ ts, treeB g t = true)) := by
  cases f with
  | zero => cases h
  | succ g =>
    refine ⟨g, rfl, ?_⟩
    by_cases e : ∃ w rest, d = .tuple (.str w :: rest)
    · obtain ⟨w, rest, rfl⟩ := e
      rw [treeB_eq] at h
      by_cases hi : w = "is"
      · rw [if_pos hi] at h
        by_cases l : rest.length = 2
        · obtain ⟨c, v, rfl⟩ := len2 l
          have h2 : (callB c && isValue v) = true := h
          rw [Bool.and_eq_true] at h2
          exact .inl ⟨c, v, by rw [hi], h2.1, h2.2⟩
        · rw [isForm_bad l] at h
          cases h
      · rw [if_neg hi] at h
        by_cases hn : w = "not"
        · rw [if_pos hn] at h
          by_cases l : rest.length = 1
          · obtain ⟨t, rfl⟩ := List.length_eq_one_iff.mp l
            exact .inr (.inl ⟨t, by rw [hn], h⟩)
          · rw [oneT_bad l] at h
            cases h
        · rw [if_neg hn] at h
          by_cases ha : w = "and" ∨ w = "or"
          · rw [if_pos ha] at h
            by_cases l : rest.length = 1
            · obtain ⟨t, rfl⟩ := List.length_eq_one_iff.mp l
              cases t with
              | tuple ts =>
                have h2 : (decide (1 ≤ ts.length) && (decide (ts.length ≤ 8) && ts.all (treeB g))) = true := h
                simp only [Bool.and_eq_true, decide_eq_true_eq] at h2
                exact .inr (.inr ⟨w, ts, rfl, ha, h2.1, h2.2.1, all_bool h2.2.2⟩)
              | _ => cases h
            · rw [rowT_bad l] at h
              cases h
          · rw [if_neg ha] at h
            cases h
    · rw [treeB_flat fun w rest q => e ⟨w, rest, q⟩] at h
      cases h
theorem not_w {w : Str} (h : w = "and" ∨ w = "or") : w ≠ "is" ∧ w ≠ "not" := by rcases h with rfl | rfl <;> exact ⟨by decide, by decide⟩
theorem treeB_mono : ∀ (f : Nat) {d : PyData}, treeB f d = true → treeB (f + 1) d = true
  | f, d, h => by
    obtain ⟨g, rfl, ⟨c, v, rfl, hc, hv⟩ | ⟨t, rfl, ht⟩ | ⟨w, ts, rfl, hw, l1, l8, hts⟩⟩ := tree_shape h
    · show (callB c && isValue v) = true
      rw [hc, hv]
      rfl
    · exact treeB_mono g ht
    · rw [treeB_eq, if_neg (not_w hw).1, if_neg (not_w hw).2, if_pos hw]
      show (decide (1 ≤ ts.length) && (decide (ts.length ≤ 8) && ts.all (treeB (g + 1)))) = true
      rw [decide_eq_true l1, decide_eq_true l8, Bool.true_and, Bool.true_and, List.all_eq_true]
      exact fun t m => treeB_mono g (hts t m)
termination_by f => f
theorem treeB_le {f g : Nat} (h : f ≤ g) {d : PyData} (t : treeB f d = true) : treeB g d = true := by
  induction h with
  | refl => exact t
  | step _ ih => exact treeB_mono _ ih
def rowOf : PyData → List PyData
  | .tuple ts => ts
  | _ => []
def branchesD : PyData → List PyData
  | .tuple [.str w, x] => if w = "not" then [x] else rowOf x
  | _ => []
def callsF : Nat → PyData → List PyData
  | 0, _ => []
  | _ + 1, .tuple [.str _, c, _] => [c]
  | f + 1, d => (branchesD d).flatMap (callsF f)
/-- how many branches, where some stand -/
def headN : PyData → List Nat
  | .tuple [.str w, .tuple ts] => if w = "and" ∨ w = "or" then [ts.length] else []
  | _ => []
def nodesF : Nat → PyData → List Nat
  | 0, _ => []
  | f + 1, d => headN d ++ (branchesD d).flatMap (nodesF f)
def sizeF : Nat → PyData → Nat
  | 0, _ => 0
  | f + 1, d => 1 + ((branchesD d).map (sizeF f)).sum
theorem br_is (c v : PyData) : branchesD (.tuple [.str "is", c, v]) = [] := rfl
theorem br_not (t : PyData) : branchesD (.tuple [.str "not", t]) = [t] := rfl
theorem br_row {w : Str} (h : w = "and" ∨ w = "or") (ts : List PyData) : branchesD (.tuple [.str w, .tuple ts]) = ts := by
  show (if w = "not" then _ else _) = _
  rw [if_neg (not_w h).2]
  rfl
theorem branch_tree {f : Nat} {d : PyData} (h : treeB (f + 1) d = true) : (branchesD d).length ≤ 8 ∧ ∀ t ∈ branchesD d, treeB f t = true := by
  obtain ⟨g, e, ⟨c, v, rfl, hc, hv⟩ | ⟨t, rfl, ht⟩ | ⟨w, ts, rfl, hw, l1, l8, hts⟩⟩ := tree_shape h
  · exact ⟨Nat.zero_le _, fun t m => by cases m⟩
  · cases e
    exact ⟨by show 1 ≤ 8; decide, fun u m => by rw [br_not, List.mem_singleton] at m; exact m ▸ ht⟩
  · cases e
    rw [br_row hw]
    exact ⟨l8, hts⟩
theorem calls_fix : ∀ (f : Nat) {d : PyData}, treeB f d = true → callsF (f + 1) d = callsF f d
  | f, d, h => by
    obtain ⟨g, rfl, ⟨c, v, rfl, hc, hv⟩ | ⟨t, rfl, ht⟩ | ⟨w, ts, rfl, hw, l1, l8, hts⟩⟩ := tree_shape h
    · rfl
    · show List.flatMap (callsF (g + 1)) [t] = List.flatMap (callsF g) [t]
      rw [List.flatMap_singleton, List.flatMap_singleton]
      exact calls_fix g ht
    · show List.flatMap (callsF (g + 1)) (branchesD (.tuple [.str w, .tuple ts])) = List.flatMap (callsF g) (branchesD (.tuple [.str w, .tuple ts]))
      rw [br_row hw]
      exact fm_congr fun t m => calls_fix g (hts t m)
termination_by f => f
theorem nodes_fix : ∀ (f : Nat) {d : PyData}, treeB f d = true → nodesF (f + 1) d = nodesF f d
  | f, d, h => by
    obtain ⟨g, rfl, _⟩ := tree_shape h
    have hb := (branch_tree h).2
    show headN d ++ List.flatMap (nodesF (g + 1)) (branchesD d) = headN d ++ List.flatMap (nodesF g) (branchesD d)
    rw [fm_congr fun t m => nodes_fix g (hb t m)]
termination_by f => f
theorem size_fix : ∀ (f : Nat) {d : PyData}, treeB f d = true → sizeF (f + 1) d = sizeF f d
  | f, d, h => by
    obtain ⟨g, rfl, _⟩ := tree_shape h
    have hb := (branch_tree h).2
    show 1 + ((branchesD d).map (sizeF (g + 1))).sum = 1 + ((branchesD d).map (sizeF g)).sum
    rw [List.map_congr_left fun t m => size_fix g (hb t m)]
termination_by f => f
abbrev T8 (d : PyData) : Prop := treeB 8 d = true
theorem t8_br {d : PyData} (h : T8 d) : ∀ t ∈ branchesD d, T8 t := fun t m => treeB_mono 7 ((branch_tree (f := 7) h).2 t m)
theorem t8_calls {d : PyData} (h : T8 d) : (∃ c v, d = .tuple [.str "is", c, v] ∧ callB c = true ∧ callsF 8 d = [c] ∧ branchesD d = []) ∨ ((∀ c v, d ≠ .tuple [.str "is", c, v]) ∧ callsF 8 d = (branchesD d).flatMap (callsF 8)) := by
  have e := calls_fix 8 h
  obtain ⟨g, _, ⟨c, v, rfl, hc, hv⟩ | ⟨t, rfl, ht⟩ | ⟨w, ts, rfl, hw, l1, l8, hts⟩⟩ := tree_shape h
  · exact .inl ⟨c, v, rfl, hc, rfl, rfl⟩
  · exact .inr ⟨(fun c v q => by cases q), e.symm⟩
  · exact .inr ⟨(fun c v q => by cases q), e.symm⟩
theorem t8_nodes {d : PyData} (h : T8 d) : nodesF 8 d = headN d ++ (branchesD d).flatMap (nodesF 8) := (nodes_fix 8 h).symm
theorem t8_size {d : PyData} (h : T8 d) : sizeF 8 d = 1 + ((branchesD d).map (sizeF 8)).sum := (size_fix 8 h).symm
section
variable {P : Program} {w : World} {K : PySem.W.Frag} {mg : Str → Option Value} {base : Heap}
theorem isTr_zero {f fC fV : Addr} {fd dC dV : FuncData} (F : Fun K "_is_tree" "_is_tree" sIsTr f fd) (M : Blt mg) : FnOk P w K mg base CX0 (4 + 0) f fd ["value", "deep"] (spTr K 0) := by
  refine F.ok scIsTr (fun vs H Q E h => ?_) (fun cdv A outer s H vs Q E hr h => ?_)
  · obtain ⟨v, d, m, rfl, _⟩ := h
    rfl
  · obtain ⟨v, d, m, rfl, hm, hv, hz, q⟩ := h
    refine ⟨_, pss_cons (ps_if (PW.pt (pw_or (pt_cmpR op_eq (pv 1) pe_int (nomark _)) (pw_or (pt_not (pt_val (pe_callB call_isi (by rfl) M.isinstance (by decide +kernel) (pa_cons (pv 0) (pa_cons (pe_bltn (v := .ty "tuple") (by rfl) M.tuple (by decide +kernel) rfl) pa_nil)))))
          (pw_or (pt_cmpR op_lt (pe_callB call_len_seq (by rfl) M.len PySem.boot_len (pa_cons (pv 0) pa_nil)) pe_int (nomark _))
            (pw_or1 (pt_not (pt_val (pe_callB call_isi (by rfl) M.isinstance (by decide +kernel) (pa_cons (pe_ix ix_tup (pv 0) pe_int (fun _ _ => rfl)) (pa_cons (pe_bltn (v := .ty "str") (by rfl) M.str (by decide +kernel) rfl) pa_nil))))))))))
        (pss_one (ps_ret pe_bl)) pss_nil)
      (pss_cons ps_dead (pss_cons ps_dead (pss_cons ps_dead (pss_cons ps_dead (pss_cons ps_dead (pss_cons ps_dead (pss_one ps_dead))))))), ?_⟩
    have m0 : m = 0 := by omega
    subst m0
    exact ⟨_, rfl, rfl, _, rfl, iteT' (decide_eq_true rfl) (q H (Same.refl H))⟩
theorem ok_isTr {f fC fV : Addr} {fd dC dV : FuncData} (F : Fun K "_is_tree" "_is_tree" sIsTr f fd) (M : Blt mg) (T : TrTxt K mg)
    (GC : FnOk P w K mg base CX0 3 fC dC ["value"] (spB K callB)) (kC : PySem.W.keepIn K (.ref fC) = true) (bC : Binds K dC ["value"] []) (gC : mg "is_call" = some (.ref fC))
    (GV : FnOk P w K mg base CX0 2 fV dV ["value"] (spB K isValue)) (kV : PySem.W.keepIn K (.ref fV) = true) (bV : Binds K dV ["value"] []) (gV : mg "is_value" = some (.ref fV))
    (bT : Binds K fd ["value", "deep"] []) (gT : mg "_is_tree" = some (.ref f)) : ∀ n, FnOk P w K mg base CX0 (4 + n) f fd ["value", "deep"] (spTr K n)
  | 0 => isTr_zero (fC := fC) (fV := fV) (dC := dC) (dV := dV) F M
  | n + 1 => isTr_body (fT := f) (dT := fd) F M T GC kC bC gC GV kV bV gV (ok_isTr F M T GC kC bC gC GV kV bV gV bT gT n) bT gT
theorem ok_tree {f fT : Addr} {fd dT : FuncData} (F : Fun K "is_tree" "is_tree" sTree f fd) (T : TrTxt K mg) (GT : FnOk P w K mg base CX0 (4 + 8) fT dT ["value", "deep"] (spTr K 8)) (kT : PySem.W.keepIn K (.ref fT) = true) (bT : Binds K dT ["value", "deep"] []) (gT : mg "_is_tree" = some (.ref fT)) : FnOk P w K mg base CX0 13 f fd ["value"] (spB K (treeB 8)) := by
  obtain ⟨t8, g8⟩ := T.dp
  refine F.ok scTree (fun vs H Q E h => ?_) (fun cdv A outer s H vs Q E hr h => ?_)
  · obtain ⟨v, d, rfl, _⟩ := h
    rfl
  · obtain ⟨v, d, rfl, hv, hz, q⟩ := h
    refine ⟨_, pss_one (ps_ret (pe_call GT hr (by rfl) gT kT bT .nil pass0 (pa_cons (pv 0) (pa_cons (pe_glob (v := .int 8) (by rfl) g8 ⟨_, rfl⟩) pa_nil)))), ?_⟩
    exact ⟨v, rfl, v, d, 8, rfl, Nat.le_refl _, hv, hz, q⟩
/-- what branches off a tree -/
def spBr (K : PySem.W.Frag) : Sp := fun vs H Q _ => ∃ (v : V) (d : PyData) (H0 : Hp), vs = [v] ∧ Same H0 H ∧ Dp K H0 v d ∧ T8 d ∧ ∀ p xs H', Same H H' → H p = none → H' p = some (.lst xs) → DpAll K H0 xs (branchesD d) → Q (.ref p) H'
theorem ok_br {f : Addr} {fd : FuncData} (F : Fun K "_branches" "_branches" sBr f fd) (M : Blt mg) : FnOk P w K mg base CX0 1 f fd ["tree"] (spBr K) := by
  refine F.ok scBr (fun vs H Q E h => ?_) (fun cdv A outer s H vs Q E hr h => ?_)
  · obtain ⟨v, d, H0, rfl, _⟩ := h
    rfl
  · obtain ⟨v, d, H0, rfl, s0, hv, ht, q⟩ := h
    refine ⟨_, pss_cons (ps_if (pt_cmpR op_eq (pe_ix ix_tup (pv 0) pe_int (fun _ _ => rfl)) pe_str (nomark _)) (pss_one (ps_ret (pe_lst pa_nil))) pss_nil)
      (pss_one (ps_ret (pe_ifExp (pt_cmpR op_eq (pe_ix ix_tup (pv 0) pe_int (fun _ _ => rfl)) pe_str (nomark _)) (pe_lst (pa_cons (pe_ix ix_tup (pv 0) pe_int (fun _ _ => rfl)) pa_nil)) (pe_callTy call_list_of (by rfl) M.list (by decide +kernel) (pa_cons (pe_ix ix_tup (pv 0) pe_int (fun _ _ => rfl)) pa_nil))))), ?_⟩
    have hv1 := dp_same s0 hv
    obtain ⟨g, _, ⟨c, u, rfl, hc, hu⟩ | ⟨t, rfl, h7⟩ | ⟨w, ts, rfl, hw, l1, l8, hts⟩⟩ := tree_shape ht
    · cases hv1 with
      | @tup a xs _ hs ha =>
      cases ha with
      | @cons x0 xr _ _ h0 hr0 =>
      cases h0
      exact ⟨_, rfl, a, _, 0, .str "is", rfl, rfl, hs, atI_nat (j := 0) rfl, rfl, _, rfl, iteT' (by decide) ⟨Nat.zero_le _, fun p np => q p [] _ (same_upd np) np upd_same .nil⟩⟩
    · cases hv with
      | @tup a xs _ hs ha =>
      have hs1 := same_sqT s0 hs
      cases ha with
      | @cons x0 xr _ _ h0 hr0 =>
      cases h0
      cases hr0 with
      | @cons x1 xr2 _ _ h1 hr1 =>
      cases hr1
      exact ⟨_, rfl, a, _, 0, .str "not", rfl, rfl, hs1, rfl, rfl, _, rfl, iteF' (by decide) ⟨_, rfl, a, _, 0, .str "not", rfl, rfl, hs1, rfl, rfl, _, rfl, iteT' (by decide) ⟨_, rfl, a, _, 1, x1, rfl, rfl, hs1, rfl, (by show 1 ≤ sizeLine; decide), fun p np => q p [x1] _ (same_upd np) np upd_same (.cons h1 .nil)⟩⟩⟩
    · cases hv with
      | @tup a xs _ hs ha =>
      have hs1 := same_sqT s0 hs
      cases ha with
      | @cons x0 xr _ _ h0 hr0 =>
      cases h0
      cases hr0 with
      | @cons x1 xr2 _ _ h1 hr1 =>
      cases hr1
      cases h1 with
      | @tup c us _ hs2 ha2 =>
      have nw := not_w hw
      refine ⟨_, rfl, a, _, 0, _, rfl, rfl, hs1, rfl, rfl, _, rfl, iteF' (by rw [dstr]; exact decide_eq_false nw.1) ⟨_, rfl, a, _, 0, _, rfl, rfl, hs1, rfl, rfl, _, rfl, iteF' (by rw [dstr]; exact decide_eq_false nw.2) ⟨_, rfl, a, _, 1, .ref c, rfl, rfl, hs1, rfl, c, us, rfl, .inr (same_sqT s0 hs2), fun p np => q p us _ (same_upd np) np upd_same ?_⟩⟩⟩
      rw [br_row hw]
      exact ha2
end
/-! ### a list from behind: l[::-1] -/
section
variable {X : Cx}
def tRevL (K : PySem.W.Frag) (te : TE) : TE := fun σ H Q => te σ H fun x H1 => ∃ a xs, x = .ref a ∧ SqL K H1 a xs ∧ ∀ p, H1 p = none → Q (.ref p) (upd H1 p (.lst xs.reverse))
theorem pe_revL {e : Expr} {te : TE} {k : Nat} {p1 p2 p3 pos : Pos} (he : PE X e te) : PE X (.Subscript e (.Slice none none (some (.UnaryOp .USub (.Constant (.int 1) k p1) p2)) p3) pos) (tRevL X.K te) := ⟨fun pins s σ H Q I h => by
  refine Subscript_ (thn (he.run pins s σ H _ I h) fun v s1 ⟨x, H1, I1, r1, q1⟩ => ?_)
  obtain ⟨a, xs, ex, hx, q⟩ := q1
  subst ex
  cases r1
  have none_at : ∀ (sA : Shared) (HA : Hp), Inv X pins σ HA sA → tNoPart σ HA (fun o HB => o = none ∧ HB = HA) := fun _ _ _ => ⟨rfl, rfl⟩
  have back : PO X (some (.UnaryOp .USub (.Constant (.int 1) k p1) p2)) (tPart (tUn (rU fun i => .int (-i)) (tC (.int 1)))) := po_some (pe_un un_neg pe_int)
  refine wpAny_Slice (thn (po_none.run pins s1 σ H1 _ I1 (none_at _ _ I1)) fun vl s2 ⟨l, H2, I2, pl, e1⟩ => ?_)
  obtain ⟨el, e2⟩ := e1
  subst el e2
  refine thn (po_none.run pins s2 σ H2 _ I2 (none_at _ _ I2)) fun vu s3 ⟨u, H3, I3, pu, e3⟩ => ?_
  obtain ⟨eu, e4⟩ := e3
  subst eu e4
  refine thn (back.run pins s3 σ H3 (fun o H4 => o = some (-1) ∧ H4 = H3) I3 ⟨1, rfl, -1, rfl, rfl, rfl⟩) fun vk s4 ⟨o, H4, I4, pk, e5⟩ => ?_
  obtain ⟨eo, e6⟩ := e5
  subst eo e6
  cases pl
  cases pu
  have I5 : Inv X pins σ H4 { s4 with heap := s4.heap.push { cls := .type "slice", data := .fields #[Value.none, .none, vk] } } := I4.kept (t' := s4.toks) fun b ob z => Heap.get?_push_of_some _ z
  obtain ⟨its, r, pl, hz⟩ := I5.list hx
  have ht := pl.isList
  have len : its.toArray.size = xs.length := by rw [List.size_toArray]; exact r.length.symm
  show wpAny (model X.prog X.w) X.A (subscriptTail e (.Slice none none (some (.UnaryOp .USub (.Constant (.int 1) k p1) p2)) p3) (.ref a) (.ref s4.heap.objs.size)) (EP X pins σ Q) X.xe { s4 with heap := s4.heap.push { cls := .type "slice", data := .fields #[Value.none, .none, vk] } }
  refine tail_any (ops := [.ref a, .ref s4.heap.objs.size]) ht.typeIs list_getitem_lookup ?_ (by with_unfolding_all rfl)
  refine wpAny_getItem_list_slice ht (Heap.IsSliceOf.new _ .none .none vk) .none .none pk (by decide) ?_ (by rw [len]; exact hz)
  rw [PySem.W.krv_pick]
  refine ⟨.ref _, _, I5.laid (t' := s4.toks) (o := .lst xs.reverse) (fun b ob z => Heap.get?_push_of_some _ z) (Nat.le_refl _) ?_, rfl, q _ (I5.hok.fresh (Nat.le_refl _))⟩
  exact ⟨by rw [List.length_reverse]; exact hz, _, _, r.reverse, Heap.get?_push_size _ rfl⟩⟩
end
/-! ### the calls of a tree -/
abbrev sCIn : Stmt := topS 45
theorem scCIn : FnScope ["tree", "calls", "waiting", "part"] ["tree"] (defScope sCIn) := ⟨rfl, rfl, rfl, by decide +kernel, rfl, by decide +kernel, by decide +kernel⟩
theorem dpA_snoc {K : PySem.W.Frag} {H : Hp} {xs : List V} {ds : List PyData} {d : PyData} (h : DpAll K H xs (ds ++ [d])) : ∃ ys y, xs = ys ++ [y] ∧ DpAll K H ys ds ∧ Dp K H y d := by
  induction ds generalizing xs with
  | nil =>
    cases h with
    | cons h0 h1 =>
      cases h1
      exact ⟨[], _, rfl, .nil, h0⟩
  | cons e ds ih =>
    cases h with
    | cons h0 h1 =>
      obtain ⟨ys, y, rfl, h2, h3⟩ := ih h1
      exact ⟨_ :: ys, y, rfl, .cons h0 h2, h3⟩
theorem dpA_rev {K : PySem.W.Frag} {H : Hp} : ∀ {xs : List V} {ds : List PyData}, DpAll K H xs ds → DpAll K H xs.reverse ds.reverse
  | [], [], _ => .nil
  | x :: xs, d :: ds, h => by
    cases h with
    | cons h0 h1 =>
      rw [List.reverse_cons, List.reverse_cons]
      exact dpA_app (dpA_rev h1) (.cons h0 .nil)
  | [], _ :: _, h => by cases h
  | _ :: _, [], h => by cases h
theorem same_updN {H H1 : Hp} {x : Addr} {o : HO} (s : Same H H1) (nx : H x = none) : Same H (upd H1 x o) := fun a ob e => by
  rw [upd_ne (ne_of_none e nx)]
  exact s a ob e
theorem last_app {xs : List V} {x : V} : (xs ++ [x])[(xs ++ [x]).length - 1]? = some x ∧ (xs ++ [x]).dropLast = xs := by
  refine ⟨?_, by simp⟩
  rw [List.length_append, List.length_singleton, Nat.add_sub_cancel, List.getElem?_append_right (Nat.le_refl _), Nat.sub_self]
  rfl
/-- how much is still to be looked at -/
def left8 (ts : List PyData) : Nat := (ts.map (sizeF 8)).sum
theorem left8_len {ts : List PyData} (h : ∀ t ∈ ts, T8 t) : ts.length ≤ left8 ts := by
  induction ts with
  | nil => exact Nat.le_refl _
  | cons t ts ih =>
    have h1 := ih fun u m => h u (List.mem_cons_of_mem _ m)
    have h2 := t8_size (h t List.mem_cons_self)
    show ts.length + 1 ≤ (sizeF 8 t :: ts.map (sizeF 8)).sum
    rw [List.sum_cons]
    unfold left8 at h1
    omega
theorem left8_snoc (ts : List PyData) (t : PyData) : left8 (ts ++ [t]) = left8 ts + sizeF 8 t := by
  unfold left8
  rw [List.map_append, List.sum_append]
  rfl
theorem left8_app (ts us : List PyData) : left8 (ts ++ us.reverse) = left8 ts + (us.map (sizeF 8)).sum := by
  unfold left8
  rw [List.map_append, List.sum_append, List.map_reverse, List.sum_reverse]
def spCI (K : PySem.W.Frag) : Sp := fun vs H Q _ => ∃ (v : V) (d : PyData) (HB : Hp), vs = [v] ∧ Same HB H ∧ Dp K HB v d ∧ T8 d ∧ (callsF 8 d).length ≤ 8 ∧ sizeF 8 d ≤ 1000 ∧ ∀ p xs H', Same H H' → H p = none → H' p = some (.lst xs) → DpAll K HB xs (callsF 8 d) → Q (.ref p) H'
structure CallTxt (mg : Str → Option Value) : Prop where
  most : ∃ t, mg "MOST_CALLS" = some (.int 8 t)
section
variable {P : Program} {w : World} {K : PySem.W.Frag} {mg : Str → Option Value} {base : Heap}
theorem ok_cIn {f fB : Addr} {fd dB : FuncData} (F : Fun K "_calls_in" "_calls_in" sCIn f fd) (M : Blt mg) (T : CallTxt mg) (GB : FnOk P w K mg base CX0 1 fB dB ["tree"] (spBr K)) (kB : PySem.W.keepIn K (.ref fB) = true) (bB : Binds K dB ["tree"] []) (gB : mg "_branches" = some (.ref fB)) : FnOk P w K mg base CX0 2 f fd ["tree"] (spCI K) := by
  obtain ⟨t8, g8⟩ := T.most
  refine F.ok scCIn (fun vs H Q E h => ?_) (fun cdv A outer s H vs Q E hr h => ?_)
  · obtain ⟨v, d, HB, rfl, _⟩ := h
    rfl
  · obtain ⟨v, d, HB, rfl, sB, hv, ht, l8, z8, q⟩ := h
    refine ⟨_, pss_cons (ps_set (i := 1) scCIn.nd rfl (.inl rfl) (pe_lst pa_nil)) (pss_cons (ps_set (i := 2) scCIn.nd rfl (.inl rfl) (pe_lst (pa_cons (pv 0) pa_nil)))
      (pss_cons (ps_while PassesOwn.never (PW.pt (pw_and (pt_truth (pv 2) (by intro _; rfl)) (pw_and1 (pt_cmpR op_le (pe_callB call_len_seq (by rfl) M.len PySem.boot_len (pa_cons (pv 1) pa_nil)) (pe_glob (v := .int 8) (by rfl) g8 ⟨_, rfl⟩) (nomark _)))))
        (pss_cons (ps_set (i := 3) scCIn.nd rfl (.inl rfl) (pe_bm0 PySem.F.plainAttrs_list PySem.F.slot_list_pop PySem.F.type_list_pop mt_pop (pv 2)))
        (pss_cons (ps_if (pt_cmpR op_eq (pe_ix ix_tup (pv 3) pe_int (fun _ _ => rfl)) pe_str (nomark _)) (pss_one (ps_expr (pe_bm PySem.F.plainAttrs_list PySem.F.slot_list_append PySem.F.type_list_append mt_append (pv 1) (pa_cons (pe_ix ix_tup (pv 3) pe_int (fun _ _ => rfl)) pa_nil)))) pss_nil)
        (pss_one (ps_expr (pe_bm PySem.F.plainAttrs_list PySem.F.slot_list_extend PySem.F.type_list_extend mt_extend (pv 2) (pa_cons (pe_revL (pe_call GB hr (by rfl) gB kB bB .nil pass0 (pa_cons (pv 3) pa_nil))) pa_nil)))))))
      (pss_one (ps_ret (pv 1))))), ?_⟩
    refine ⟨Nat.zero_le _, fun cl nc => ?_⟩
    have s0 := same_upd (o := HO.lst []) nc
    have e0 : (upd H cl (.lst [])) cl = some (.lst []) := upd_same
    generalize upd H cl (.lst []) = H0 at s0 e0 ⊢
    dsimp only [gName, List.set]
    refine ⟨v, rfl, (by show 1 ≤ sizeLine; decide), fun wl nw => ?_⟩
    have s1 := same_upd (o := HO.lst [v]) nw
    have e1 : (upd H0 wl (.lst [v])) wl = some (.lst [v]) := upd_same
    have ncw : cl ≠ wl := ne_of_none e0 nw
    have nwH : H wl = none := s0.free nw
    generalize upd H0 wl (.lst [v]) = H1 at s1 e1 ⊢
    dsimp only [gName, List.set]
    refine q_w ⟨fun m σ H' => ∃ (cs ws : List V) (done todo : List PyData) (z3 : Option V), σ = [some v, some (.ref cl), some (.ref wl), z3] ∧ Same H H' ∧ H' cl = some (.lst cs) ∧ H' wl = some (.lst ws) ∧ DpAll K HB cs done ∧ DpAll K HB ws todo ∧ (∀ t ∈ todo, T8 t) ∧ done ++ todo.reverse.flatMap (callsF 8) = callsF 8 d ∧ m = left8 todo ∧ m ≤ 1000,
      ⟨left8 [d], [], [v], [], [d], none, rfl, s0.trans s1, s1 _ _ e0, e1, .nil, .cons hv .nil, fun t m => by rw [List.mem_singleton] at m; exact m ▸ ht, by simp, rfl, by show sizeF 8 d + 0 ≤ 1000; omega⟩, fun m σ H' hw => ?_⟩
    obtain ⟨cs, ws, done, todo, z3, rfl, sH, ec, ew, hc, hw, ht8, eq, em, lm⟩ := hw
    have lt := left8_len ht8
    have ldone : done.length ≤ 8 := by
      have : (done ++ todo.reverse.flatMap (callsF 8)).length ≤ 8 := by rw [eq]; exact l8
      rw [List.length_append] at this
      omega
    refine ⟨.ref wl, rfl, _, .inl ⟨ws, .inl (.inl ew), rfl⟩, ?_⟩
    rcases List.eq_nil_or_concat todo with rfl | ⟨init, t, rfl⟩
    · cases hw
      refine iteF' rfl ?_
      refine ⟨.ref cl, rfl, q cl cs H' sH nc ec ?_⟩
      rw [List.reverse_nil, List.flatMap_nil, List.append_nil] at eq
      exact eq ▸ hc
    · rw [List.concat_eq_append] at *
      obtain ⟨ys, y, rfl, hi, hy⟩ := dpA_snoc hw
      refine iteT' (by simp) ?_
      refine ⟨.ref cl, rfl, cl, cs, rfl, .inl (.inl (.inl ec)), _, _, rfl, rfl, _, rfl, iteT' (decide_eq_true (by rw [dpA_len hc]; omega)) ?_⟩
      have mem : T8 t := ht8 t (by simp)
      have inH : ∀ u ∈ init, T8 u := fun u mu => ht8 u (by simp [mu])
      rw [left8_snoc] at em lt
      have sp : Same H (upd H' wl (.lst ys)) := same_updN sH nwH
      have ep : (upd H' wl (.lst ys)) wl = some (.lst ys) := upd_same
      have ec2 : (upd H' wl (.lst ys)) cl = some (.lst cs) := by rw [upd_ne ncw]; exact ec
      refine ⟨_, fun _ _ h => h, .ref wl, rfl, .inl ⟨rfl, _, .inl (.inl ew)⟩, wl, ys ++ [y], y, rfl, rfl, ew, last_app.1, ?_⟩
      rw [last_app.2]
      generalize upd H' wl (.lst ys) = H2 at sp ep ec2 ⊢
      dsimp only [gName, List.set]
      have brl := (branch_tree (f := 7) mem).1
      have brt := t8_br mem
      have step : ∀ (cs2 : List V) (don2 : List PyData) (H3 : Hp), Same H H3 → H3 cl = some (.lst cs2) → H3 wl = some (.lst ys) → DpAll K HB cs2 don2 → don2 ++ (branchesD t ++ init.reverse).flatMap (callsF 8) = callsF 8 d →
          ∀ H5 (bs : List V), Same H H5 → H5 cl = some (.lst cs2) → H5 wl = some (.lst (ys ++ bs.reverse)) → DpAll K HB bs (branchesD t) →
            ∃ m', m' < m ∧ ∃ cs ws done todo z3, [some v, some (V.ref cl), some (.ref wl), some y] = [some v, some (.ref cl), some (.ref wl), z3] ∧ Same H H5 ∧ H5 cl = some (.lst cs) ∧ H5 wl = some (.lst ws) ∧ DpAll K HB cs done ∧ DpAll K HB ws todo ∧ (∀ t ∈ todo, T8 t) ∧ done ++ todo.reverse.flatMap (callsF 8) = callsF 8 d ∧ m' = left8 todo ∧ m' ≤ 1000 := fun cs2 don2 H3 s3 e3 w3 h3 q3 H5 bs s5 e5 w5 hb => by
        have sz := t8_size mem
        have la := left8_app init (branchesD t)
        refine ⟨left8 (init ++ (branchesD t).reverse), by omega, cs2, ys ++ bs.reverse, don2, init ++ (branchesD t).reverse, some y, rfl, s5, e5, w5, h3, dpA_app hi (dpA_rev hb), fun u mu => ?_, ?_, rfl, by omega⟩
        · rcases List.mem_append.mp mu with mu | mu
          · exact inH u mu
          · exact brt u (List.mem_reverse.mp mu)
        · rw [List.reverse_append, List.reverse_reverse]
          exact q3
      have roll : ∀ (cs2 : List V) (don2 : List PyData) (H3 : Hp), Same H H3 → H3 cl = some (.lst cs2) → H3 wl = some (.lst ys) → DpAll K HB cs2 don2 → don2 ++ (branchesD t ++ init.reverse).flatMap (callsF 8) = callsF 8 d →
          ∀ (D : Ends), (∀ H5 (bs : List V), Same H H5 → H5 cl = some (.lst cs2) → H5 wl = some (.lst (ys ++ bs.reverse)) → DpAll K HB bs (branchesD t) → D.nx [some v, some (.ref cl), some (.ref wl), some y] H5) →
          tDrop (tBM K "list" rExtend (tVar 2) (tCons (tRevL K (tCall (spBr K) [] E (tCons (tVar 3) tNil))) tNil)) D [some v, some (.ref cl), some (.ref wl), some y] H3 := fun cs2 don2 H3 s3 e3 w3 h3 q3 D r => by
        refine ⟨.ref wl, rfl, .inl ⟨rfl, _, .inl (.inl w3)⟩, y, rfl, y, t, HB, rfl, sB.trans s3, hy, mem, fun p bs H4 s4 np e4 hb => ⟨p, bs, rfl, .inl (.inl e4), fun p2 np2 => ?_⟩⟩
        have s6 := same_upd (o := HO.lst bs.reverse) np2
        refine ⟨wl, p2, ys, bs.reverse, rfl, rfl, s6 _ _ (s4 _ _ w3), upd_same, ?_, ?_⟩
        · rw [List.length_reverse, dpA_len hb, dpA_len hi]
          have : (init ++ [t]).length ≤ 1000 := by omega
          rw [List.length_append] at this
          exact Nat.le_trans (show init.length + (branchesD t).length ≤ 1008 by omega) (by decide)
        · refine r _ bs (same_updN ((s3.trans s4).trans s6) nwH) ?_ upd_same hb
          rw [upd_ne ncw]
          exact s6 _ _ (s4 _ _ e3)
      obtain ⟨c, u, rfl, hc2, ec3, eb⟩ | ⟨nis, ec3⟩ := t8_calls mem
      · rw [List.reverse_append, List.reverse_singleton, List.singleton_append, List.flatMap_cons, ec3, ← List.append_assoc] at eq
        have hy0 := hy
        cases hy with
        | @tup a xs _ hs ha =>
        have hs2 := same_sqT (sB.trans sp) hs
        cases ha with
        | @cons x0 xr _ _ h0 hr0 =>
        cases h0
        cases hr0 with
        | @cons x1 xr2 _ _ h1 hr1 =>
        refine ⟨_, rfl, a, _, 0, .str "is", rfl, rfl, hs2, atI_nat (j := 0) rfl, rfl, _, rfl, iteT' (by decide) ?_⟩
        refine ⟨.ref cl, rfl, .inl ⟨rfl, _, .inl (.inl ec2)⟩, .ref a, rfl, a, _, 1, x1, rfl, rfl, hs2, atI_nat (j := 1) rfl, cl, cs, x1, rfl, rfl, ec2, ?_, ?_⟩
        · rw [dpA_len hc]
          exact Nat.lt_of_le_of_lt (show _ ≤ 8 by omega) (by decide)
        · refine roll (cs ++ [x1]) (done ++ [c]) _ (same_updN sp nc) upd_same (by rw [upd_ne ncw.symm]; exact ep) (dpA_app hc (.cons h1 .nil)) (by rw [eb]; exact eq) _ ?_
          exact step (cs ++ [x1]) (done ++ [c]) _ (same_updN sp nc) upd_same (by rw [upd_ne ncw.symm]; exact ep) (dpA_app hc (.cons h1 .nil)) (by rw [eb]; exact eq)
      · rw [List.reverse_append, List.reverse_singleton, List.singleton_append, List.flatMap_cons, ec3, ← List.flatMap_append] at eq
        have hy0 := hy
        have no : ∃ a us z, y = .ref a ∧ SqT K HB a (.str z :: us) ∧ z ≠ "is" := by
          obtain ⟨g, _, ⟨c, u, rfl, hc5, hu⟩ | ⟨t, rfl, h7⟩ | ⟨wd, ts, rfl, hwd, l1, l8, hts⟩⟩ := tree_shape mem
          · exact absurd rfl (nis c u)
          · cases hy with
            | @tup a xs _ hs ha =>
            cases ha with
            | @cons x0 xr _ _ h0 hr0 =>
            cases h0
            exact ⟨a, _, _, rfl, hs, by decide⟩
          · cases hy with
            | @tup a xs _ hs ha =>
            cases ha with
            | @cons x0 xr _ _ h0 hr0 =>
            cases h0
            exact ⟨a, _, _, rfl, hs, (not_w hwd).1⟩
        obtain ⟨a, us, z, rfl, hs, nz⟩ := no
        have hs2 := same_sqT (sB.trans sp) hs
        refine ⟨_, rfl, a, _, 0, .str z, rfl, rfl, hs2, atI_nat (j := 0) rfl, rfl, _, rfl, iteF' (by rw [dstr]; exact decide_eq_false nz) ?_⟩
        exact roll cs done _ sp ec2 ep hc eq _ (step cs done _ sp ec2 ep hc eq)
end
/-! ### rows and tables -/
/-- arguments of the right form, so many -/
theorem sz_lenL {ds : List PyData} (h : szD (.list ds) = true) : ds.length ≤ 1000 := of_decide_eq_true (Bool.and_eq_true_iff.mp h).1
theorem szL_in {ds : List PyData} (h : szD (.list ds) = true) : szDs ds = true := (Bool.and_eq_true_iff.mp h).2
theorem szT_in {ds : List PyData} (h : szD (.tuple ds) = true) : szDs ds = true := (Bool.and_eq_true_iff.mp h).2
section
variable {P : Program} {w : World} {K : PySem.W.Frag} {mg : Str → Option Value} {base : Heap}
end
/-! ### a Statement made -/
abbrev sChkO : Stmt := topS 47
theorem scChkO : FnScope ["outputs", "index", "output"] ["outputs"] (defScope sChkO) := ⟨rfl, rfl, rfl, by decide +kernel, rfl, by decide +kernel, by decide +kernel⟩
abbrev sStI : Stmt := inClass (topS 46) 0
theorem scStI : FnScope ["self", "condition", "outputs", "atoms", "calls", "call", "_"] ["self", "condition", "outputs"] (defScope sStI) := ⟨rfl, rfl, rfl, by decide +kernel, rfl, by decide +kernel, by decide +kernel⟩
def outB : PyData → Bool
  | .tuple [c, .bool _] => callB c
  | _ => false
def fstD : PyData → PyData
  | .tuple [c, _] => c
  | _ => .none
theorem outB_at {d : PyData} (h : outB d = true) : ∃ c b, d = .tuple [c, .bool b] ∧ callB c = true := by
  unfold outB at h
  split at h
  · exact ⟨_, _, rfl, h⟩
  · cases h
/-- a filter -/
def CondOk (d : PyData) : Prop := d = .none ∨ (T8 d ∧ sizeF 8 d ≤ 1000)
def condCalls (d : PyData) : List PyData := callsF 8 d
def allCalls (dc : PyData) (ods : List PyData) : List PyData := condCalls dc ++ ods.map fstD
structure OutsOk (ods : List PyData) : Prop where
  ok : ∀ d ∈ ods, outB d = true
  sz : szDs ods = true
/-- a Statement stands at a -/
def StAt (K : PySem.W.Frag) (H : Hp) (CS a : Addr) (dc : PyData) (ods : List PyData) : Prop := ∃ (dx : Addr) (vc : V) (t ta tc : Addr) (us as cs : List V), H a = some (.ins CS dx [("condition", vc), ("outputs", .ref t), ("_atoms", .ref ta), ("_calls", .ref tc)]) ∧ Dp K H vc dc ∧ SqT K H t us ∧ DpAll K H us ods ∧ SqT K H ta as ∧ DpAll K H as (condCalls dc) ∧ SqT K H tc cs ∧ DpAll K H cs (allCalls dc ods) ∧ CondOk dc ∧ OutsOk ods ∧ (allCalls dc ods).length ≤ 8
theorem StAt.same {K : PySem.W.Frag} {H H' : Hp} {CS a : Addr} {dc : PyData} {ods : List PyData} (h : StAt K H CS a dc ods) (s : Same H H') : StAt K H' CS a dc ods := by
  obtain ⟨dx, vc, t, ta, tc, us, as, cs, e, h1, h2, h3, h4, h5, h6, h7, r⟩ := h
  exact ⟨dx, vc, t, ta, tc, us, as, cs, s _ _ e, dp_same s h1, same_sqT s h2, dpA_same s h3, same_sqT s h4, dpA_same s h5, same_sqT s h6, dpA_same s h7, r⟩
structure StC (K : PySem.W.Frag) (CS : Addr) : Prop where
  cl : Cls K CS
  n1 : NoAttr K CS "condition"
  n2 : NoAttr K CS "outputs"
  n3 : NoAttr K CS "_atoms"
  n4 : NoAttr K CS "_calls"
theorem none_is {K : PySem.W.Frag} {H : Hp} {v : V} {d : PyData} (h : Dp K H v d) : decide (v = .non) = (match d with | .none => true | _ => false) := by
  cases h <;> first | rfl | exact decide_eq_false (fun e => nomatch e)
theorem t8_none {d : PyData} (h : T8 d) : d ≠ .none := fun e => by
  rw [e] at h
  cases h
section
variable {P : Program} {w : World} {K : PySem.W.Frag} {mg : Str → Option Value} {base : Heap}
end
theorem q_te {te : TE} {tz : TS} {D : Ends} {σ : L2.St} {H : Hp} {i : Nat} (h : te σ H fun v H' => tz D (σ.set i (some v)) H') : tSeq (tAsg te (gName i)) tz D σ H := h
theorem q_if {c : TT} {tt te tz : TS} {D : Ends} {σ : L2.St} {H : Hp} (h : c σ H fun b H' => if b = true then tt { D with nx := tz D } σ H' else te { D with nx := tz D } σ H') : tSeq (tIfS c tt te) tz D σ H := h
theorem q_drop {te : TE} {tz : TS} {D : Ends} {σ : L2.St} {H : Hp} (h : te σ H fun _ H' => tz D σ H') : tSeq (tDrop te) tz D σ H := h
theorem q_fldVS {K : PySem.W.Frag} {a C dx : Addr} {fs : List (Str × V)} {f : Str} {i : Nat} {v : V} {tz : TS} {D : Ends} {σ : L2.St} {H H0 : Hp} (at0 : σ[0]? = some (some (V.ref a))) (ati : σ[i]? = some (some v)) (e : H a = some (.ins C dx fs)) (s0 : Same H0 H) (n0 : H0 a = none) (cl : Cls K C) (no : NoAttr K C f) (few : fs.length < 1000)
    (k : ∀ G, Same H0 G → G a = some (.ins C dx (putF f v fs)) → (∀ l o, l ≠ a → H l = some o → G l = some o) → tz D σ G) : tSeq (sFld K (tVar 0) (tVar i) f) tz D σ H :=
  ⟨v, ati, .ref a, at0, a, C, dx, fs, rfl, e, cl, no, few, k _ (same_updN s0 n0) upd_same (fun l o n h => by rw [upd_ne n]; exact h)⟩
theorem q_fldTupS {K : PySem.W.Frag} {a C dx p : Addr} {fs : List (Str × V)} {f : Str} {i : Nat} {xs : List V} {tz : TS} {D : Ends} {σ : L2.St} {H H0 : Hp} (at0 : σ[0]? = some (some (V.ref a))) (ati : σ[i]? = some (some (V.ref p))) (e : H a = some (.ins C dx fs)) (s0 : Same H0 H) (n0 : H0 a = none) (hs : SqL K H p xs ∨ SqT K H0 p xs) (cl : Cls K C) (no : NoAttr K C f) (few : fs.length < 1000)
    (k : ∀ G t, Same H0 G → G a = some (.ins C dx (putF f (.ref t) fs)) → (∀ l o, l ≠ a → H l = some o → G l = some o) → SqT K G t xs → (∀ u ys, SqT K H u ys → SqT K G u ys) → tz D σ G) : tSeq (sFld K (tVar 0) (tCB (fun xs H Q => ∃ p ys, xs = [V.ref p] ∧ ((SqL K H p ys ∧ ∀ l, H l = none → Q (V.ref l) (upd H l (.tup ys))) ∨ (SqT K H p ys ∧ Q (V.ref p) H))) (tCons (tVar i) tNil)) f) tz D σ H := by
  have keep : ∀ (G : Hp), (∀ l o, l ≠ a → H l = some o → G l = some o) → ∀ u ys, SqT K H u ys → SqT K G u ys := fun G g u ys h => by
    rcases h with (h | ⟨o, h⟩) | h
    · exact .inl (.inl (g _ _ (fun q => by rw [q, e] at h; cases h) h))
    · exact .inl (.inr ⟨o, g _ _ (fun q => by rw [q, e] at h; cases h) h⟩)
    · exact .inr h
  refine ⟨.ref p, ati, p, xs, rfl, ?_⟩
  rcases hs with hs | hs
  · refine .inl ⟨hs, fun l nl => ⟨.ref a, at0, a, C, dx, fs, rfl, same_upd nl _ _ e, cl, no, few, ?_⟩⟩
    have ne : l ≠ a := fun q => by rw [q, e] at nl; cases nl
    have g : ∀ b o, b ≠ a → H b = some o → (upd (upd H l (.tup xs)) a (.ins C dx (putF f (.ref l) fs))) b = some o := fun b o n h => by
      rw [upd_ne n]
      exact same_upd nl _ _ h
    exact k _ _ (same_updN (s0.trans (same_upd nl)) n0) upd_same g (.inl (.inl (by rw [upd_ne ne]; exact upd_same))) (keep _ g)
  · have g : ∀ b o, b ≠ a → H b = some o → (upd H a (.ins C dx (putF f (.ref p) fs))) b = some o := fun b o n h => by
      rw [upd_ne n]
      exact h
    have s1 : Same H0 (upd H a (.ins C dx (putF f (.ref p) fs))) := same_updN s0 n0
    exact .inr ⟨same_sqT s0 hs, .ref a, at0, a, C, dx, fs, rfl, e, cl, no, few, k _ _ s1 upd_same g (same_sqT s1 hs) (keep _ g)⟩
theorem q_last {ts : TS} {D : Ends} {σ : L2.St} {H : Hp} (h : tSeq ts tNext D σ H) : ts D σ H := h
theorem atoms_te {K : PySem.W.Frag} {H H0 : Hp} {σ : L2.St} {vc : V} {dc : PyData} (at1 : σ[1]? = some (some vc)) (s0 : Same H0 H) (hc : Dp K H0 vc dc) (okc : CondOk dc) (l8 : (callsF 8 dc).length ≤ 8) {Q : VK} (q : ∀ l as H1, Same H H1 → H l = none → H1 l = some (.lst as) → DpAll K H0 as (condCalls dc) → Q (.ref l) H1) :
    tIf (tB (tIsN (tVar 1))) (tLst tNil) (tCall (spCI K) [] E0 (tCons (tVar 1) tNil)) σ H Q := by
  refine ⟨vc, at1, _, rfl, ?_⟩
  rw [none_is hc]
  rcases okc with rfl | ⟨h8, z8⟩
  · exact iteT ⟨Nat.zero_le _, fun p np => q p [] _ (same_upd np) np upd_same .nil⟩
  · refine iteF' ?_ ⟨vc, at1, vc, dc, H0, rfl, s0, hc, h8, l8, z8, fun p xs H' s' np ep hx => q p xs H' s' np ep hx⟩
    cases dc <;> first | rfl | exact absurd rfl (t8_none h8)
theorem outs_lc {K : PySem.W.Frag} {H H0 : Hp} {σ : L2.St} {o : Addr} {i j k : Nat} {us : List V} {ods : List PyData} (ati : (wipe σ [j, k])[i]? = some (some (.ref o))) (len : True) (s0 : Same H0 H) (hA : SqA K H0 o us) (hd : DpAll K H0 us ods) (oko : OutsOk ods) (l8 : ods.length ≤ 100)
    (hget : ∀ x y, (((wipe σ [j, k]).set j (some x)).set k (some y))[j]? = some (some x)) (hw : ∀ x y, wipe (((wipe σ [j, k]).set j (some x)).set k (some y)) [j, k] = wipe σ [j, k]) {Q : VK} (q : ∀ D acc H1, Same H H1 → H D = none → H1 D = some (.lst acc) → DpAll K H0 acc (ods.map fstD) → Q (.ref D) H1) (ati2 : σ[i]? = some (some (.ref o))) :
    tLc (iSeqA K (tVar i)) (gTup K 2 (gCons (gName j) (gCons (gName k) gNil))) tYes (tVar j) [j, k] σ H Q := by
  have lu := dpA_len hd
  refine ⟨.ref o, ati2, o, rfl, ?_⟩
  rcases hA with hA | hA
  case' inl => refine .inl ⟨⟨_, s0.seq hA⟩, fun D nD => ?_⟩; refine walk_gen (walk_list (K := K) (a := o) (xs := us)) (fun n H2 => Same H H2 ∧ ∃ acc, H2 D = some (.lst acc) ∧ DpAll K H0 acc ((ods.take n).map fstD)) ⟨same_upd nD, [], upd_same, .nil⟩ (fun _ H' _ p => (s0.trans p.1).seq hA) (fun n x H2 H3 hi p y => ?_) (fun H2 p => ?_)
  case' inr => refine .inr ⟨⟨_, same_sqT s0 hA⟩, fun D nD => ?_⟩; refine walk_gen (walk_tup (K := K) (a := o) (xs := us)) (fun n H2 => Same H H2 ∧ ∃ acc, H2 D = some (.lst acc) ∧ DpAll K H0 acc ((ods.take n).map fstD)) ⟨same_upd nD, [], upd_same, .nil⟩ (fun _ H' _ p => same_sqT (s0.trans p.1) hA) (fun n x H2 H3 hi p y => ?_) (fun H2 p => ?_)
  case' inl.refine_1 | inr.refine_1 =>
    obtain ⟨s2, acc, eD, ha⟩ := p
    obtain ⟨rfl, hx⟩ := y
    obtain ⟨d, hdi, hv⟩ := dpA_at hd hx
    obtain ⟨c, b, rfl, hc⟩ := outB_at (oko.ok d (List.mem_of_getElem? hdi))
    cases hv with
    | @tup e xs _ hs ha2 =>
    obtain ⟨x1, x2, rfl, h1, h2⟩ := dp_pair ha2
    refine ⟨e, _, rfl, same_sqT (s0.trans s2) hs, rfl, _, _, rfl, _, _, rfl, rfl, hw x1 x2, ?_⟩
    unfold tYes
    refine iteT ⟨x1, hget x1 x2, acc, eD, ?_, same_updN s2 nD, _, upd_same, ?_⟩
    · rw [dpA_len ha, List.length_map, List.length_take]
      exact Nat.lt_of_le_of_lt (show _ ≤ 100 by omega) (by decide)
    · rw [take_snoc hdi, List.map_append]
      exact dpA_app ha (.cons h1 .nil)
  all_goals
    obtain ⟨s2, acc, eD, ha⟩ := p
    rw [lu, List.take_length] at ha
    exact q D acc H2 s2 nD eD ha
section
variable {P : Program} {w : World} {K : PySem.W.Frag} {mg : Str → Option Value} {base : Heap}
end
/-! ### trees and outputs: no lists in them, of a form that == takes -/
theorem given_ok {d : PyData} (h : givenB d = true) : noL d = true ∧ d.canLay0 = true ∧ d.depth ≤ 0 ∧ szD d = true := by
  unfold givenB at h
  cases d with
  | int i => exact ⟨rfl, rfl, Nat.le_refl _, rfl⟩
  | str z =>
    have h2 : z = "x" ∨ z = "y" := of_decide_eq_true (show decide (z = "x" ∨ z = "y") = true from h)
    rcases h2 with rfl | rfl
    · exact ⟨rfl, by decide +kernel, Nat.le_refl _, by decide +kernel⟩
    · exact ⟨rfl, by decide +kernel, Nat.le_refl _, by decide +kernel⟩
  | _ => cases h
theorem szDs_of9 : ∀ {ds : List PyData}, (∀ d ∈ ds, szD d = true) → szDs ds = true
  | [], _ => rfl
  | d :: ds, h => by
    show (szD d && szDs ds) = true
    rw [h d List.mem_cons_self, szDs_of9 fun e m => h e (List.mem_cons_of_mem _ m)]
    rfl
theorem sz_tupof {ds : List PyData} (l : ds.length ≤ 1000) (h : ∀ d ∈ ds, szD d = true) : szD (.tuple ds) = true := by
  show (decide (ds.length ≤ 1000) && szDs ds) = true
  rw [decide_eq_true l, szDs_of9 h]
  rfl
theorem name_sz' {z : Str} (h : isName (.str z) = true) : szD (.str z) = true := by
  have h2 : (decide (1 ≤ (z.length : Int)) && decide ((z.length : Int) ≤ 8) && z.cps.toList.all lowCode) = true := h
  simp only [Bool.and_eq_true, decide_eq_true_eq] at h2
  exact decide_eq_true (by omega)
theorem call_ok {d : PyData} (h : callB d = true) : noL d = true ∧ d.canLay0 = true ∧ d.depth ≤ 2 ∧ szD d = true := by
  obtain ⟨n, as, rfl, hn, l2, hg⟩ := call_shape h
  obtain ⟨z, rfl⟩ := isName_str hn
  have g := fun e m => given_ok (hg e m)
  refine ⟨?_, ?_, ?_, ?_⟩
  · show (true && (noLs as && true)) = true
    rw [noLs_of fun e m => (g e m).1]
    rfl
  · show (PyData.strOk z && (PyData.canLayAll0 as && true)) = true
    rw [name_ok hn, canLay_of fun t h => (g t h).2.1]
    rfl
  · have h1 := depth_of fun t h => (g t h).2.2.1
    show (max 0 (max (PyData.depthAll as + 1) 0)) + 1 ≤ _
    omega
  · refine sz_tupof (by show 2 ≤ 1000; decide) fun e m => ?_
    rcases List.mem_cons.mp m with rfl | m
    · exact name_sz' hn
    · rw [List.mem_singleton.mp m]
      exact sz_tupof (by omega) fun e m => (g e m).2.2.2
theorem val_ok {d : PyData} (h : isValue d = true) : noL d = true ∧ d.canLay0 = true ∧ d.depth ≤ 0 ∧ szD d = true := by
  cases d with
  | int i => exact ⟨rfl, rfl, Nat.le_refl _, rfl⟩
  | _ => cases h
theorem tree_ok : ∀ (f : Nat) {d : PyData}, treeB f d = true → noL d = true ∧ d.canLay0 = true ∧ d.depth ≤ 2 * f + 3 ∧ szD d = true
  | f, d, h => by
    obtain ⟨g, rfl, ⟨c, v, rfl, hc, hv⟩ | ⟨t, rfl, ht⟩ | ⟨w, ts, rfl, hw, l1, l8, hts⟩⟩ := tree_shape h
    · have k1 := call_ok hc
      have k2 := val_ok hv
      refine ⟨?_, ?_, ?_, ?_⟩
      · show (true && (noL c && (noL v && true))) = true
        rw [k1.1, k2.1]
        rfl
      · show (PyData.strOk "is" && (c.canLay0 && (v.canLay0 && true))) = true
        rw [k1.2.1, k2.2.1]
        decide +kernel
      · show (max 0 (max c.depth (max v.depth 0))) + 1 ≤ _
        have := k1.2.2.1
        have := k2.2.2.1
        omega
      · refine sz_tupof (by show 3 ≤ 1000; decide) fun e m => ?_
        simp only [List.mem_cons, List.not_mem_nil, or_false] at m
        rcases m with rfl | rfl | rfl
        · decide +kernel
        · exact k1.2.2.2
        · exact k2.2.2.2
    · have k1 := tree_ok g ht
      refine ⟨?_, ?_, ?_, ?_⟩
      · show (true && (noL t && true)) = true
        rw [k1.1]
        rfl
      · show (PyData.strOk "not" && (t.canLay0 && true)) = true
        rw [k1.2.1]
        decide +kernel
      · show (max 0 (max t.depth 0)) + 1 ≤ _
        have := k1.2.2.1
        omega
      · refine sz_tupof (by show 2 ≤ 1000; decide) fun e m => ?_
        simp only [List.mem_cons, List.not_mem_nil, or_false] at m
        rcases m with rfl | rfl
        · decide +kernel
        · exact k1.2.2.2
    · have k := fun t m => tree_ok g (hts t m)
      have ow : PyData.strOk w = true ∧ szD (.str w) = true := by rcases hw with rfl | rfl <;> exact ⟨by decide +kernel, by decide +kernel⟩
      refine ⟨?_, ?_, ?_, ?_⟩
      · show (true && (noLs ts && true)) = true
        rw [noLs_of fun t m => (k t m).1]
        rfl
      · show (PyData.strOk w && (PyData.canLayAll0 ts && true)) = true
        rw [ow.1, canLay_of fun t m => (k t m).2.1]
        rfl
      · have h1 := depth_of fun t m => (k t m).2.2.1
        show (max 0 (max (PyData.depthAll ts + 1) 0)) + 1 ≤ _
        omega
      · refine sz_tupof (by show 2 ≤ 1000; decide) fun e m => ?_
        rcases List.mem_cons.mp m with rfl | m
        · exact ow.2
        · rw [List.mem_singleton.mp m]
          exact sz_tupof (by omega) fun e m => (k e m).2.2.2
termination_by f => f
theorem cond_ok {d : PyData} (h : CondOk d) : noL d = true ∧ SeqAt.shaped d = true ∧ szD d = true := by
  rcases h with rfl | ⟨h, _⟩
  · exact ⟨rfl, by decide +kernel, rfl⟩
  · have k := tree_ok 8 h
    exact ⟨k.1, Bool.and_eq_true_iff.mpr ⟨k.2.1, decide_eq_true (by omega)⟩, k.2.2.2⟩
theorem out_ok {d : PyData} (h : outB d = true) : noL d = true ∧ d.canLay0 = true ∧ d.depth ≤ 3 ∧ szD d = true := by
  obtain ⟨c, b, rfl, hc⟩ := outB_at h
  have k1 := call_ok hc
  refine ⟨?_, ?_, ?_, ?_⟩
  · show (noL c && (true && true)) = true
    rw [k1.1]
    rfl
  · show (c.canLay0 && (true && true)) = true
    rw [k1.2.1]
    rfl
  · show (max c.depth (max 0 0)) + 1 ≤ _
    omega
  · refine sz_tupof (by show 2 ≤ 1000; decide) fun e m => ?_
    simp only [List.mem_cons, List.not_mem_nil, or_false] at m
    rcases m with rfl | rfl
    · exact k1.2.2.2
    · rfl
theorem shaped_of {ds : List PyData} (h : ∀ d ∈ ds, d.canLay0 = true ∧ d.depth ≤ 40) : SeqAt.shaped (.list ds) = true ∧ SeqAt.shaped (.tuple ds) = true := by
  have h1 := depth_of fun t m => (h t m).2
  have h2 := canLay_of fun t m => (h t m).1
  exact ⟨Bool.and_eq_true_iff.mpr ⟨h2, decide_eq_true (by show PyData.depthAll ds + 1 ≤ 64; omega)⟩, Bool.and_eq_true_iff.mpr ⟨h2, decide_eq_true (by show PyData.depthAll ds + 1 ≤ 64; omega)⟩⟩
theorem outs_ok {ds : List PyData} (h : OutsOk ds) : noLs ds = true ∧ SeqAt.shaped (.tuple ds) = true := by
  refine ⟨noLs_of fun d m => (out_ok (h.ok d m)).1, (shaped_of fun d m => ⟨(out_ok (h.ok d m)).2.1, ?_⟩).2⟩
  have := (out_ok (h.ok d m)).2.2.1
  omega
theorem calls_tree : ∀ (f : Nat) {d : PyData}, treeB f d = true → ∀ c ∈ callsF f d, callB c = true
  | f, d, h => by
    obtain ⟨g, rfl, ⟨c, v, rfl, hc, hv⟩ | ⟨t, rfl, ht⟩ | ⟨w, ts, rfl, hw, l1, l8, hts⟩⟩ := tree_shape h
    · intro e m
      have m2 : e ∈ [c] := m
      rw [List.mem_singleton.mp m2]
      exact hc
    · intro e m
      have m2 : e ∈ [t].flatMap (callsF g) := m
      rw [List.flatMap_singleton] at m2
      exact calls_tree g ht e m2
    · intro e m
      have m2 : e ∈ (branchesD (.tuple [.str w, .tuple ts])).flatMap (callsF g) := m
      rw [br_row hw] at m2
      obtain ⟨t, mt, me⟩ := List.mem_flatMap.mp m2
      exact calls_tree g (hts t mt) e me
termination_by f => f
theorem calls_ok {dc : PyData} {ods : List PyData} (hc : CondOk dc) (ho : OutsOk ods) : ∀ c ∈ allCalls dc ods, callB c = true := fun c m => by
  rcases List.mem_append.mp m with m | m
  · rcases hc with rfl | ⟨h, _⟩
    · cases m
    · exact calls_tree 8 h c m
  · obtain ⟨d, md, rfl⟩ := List.mem_map.mp m
    obtain ⟨c, b, rfl, hc⟩ := outB_at (ho.ok d md)
    exact hc
/-! ### the methods of a Statement -/
section
variable {P : Program} {w : World} {K : PySem.W.Frag} {mg : Str → Option Value} {base : Heap}
end
/-! ### what a Statement is refused for -/
def itemsD : PyData → List PyData
  | .list ds => ds
  | .tuple ds => ds
  | _ => []
/-- the first that is no output -/
def badO (i : Nat) : List PyData → Option Nat
  | [] => none
  | d :: r => if outB d = true then badO (i + 1) r else some i
theorem badO_none : ∀ {ds : List PyData} {i : Nat}, badO i ds = none → ∀ d ∈ ds, outB d = true
  | [], _, _, _, m => by cases m
  | a :: r, i, h, d, m => by
    unfold badO at h
    split at h
    · rename_i e
      rcases List.mem_cons.mp m with rfl | m
      · exact e
      · exact badO_none h d m
    · cases h
theorem badO_ok : ∀ {ds : List PyData} {i : Nat}, (∀ d ∈ ds, outB d = true) → badO i ds = none
  | [], _, _ => rfl
  | a :: r, i, h => by
    unfold badO
    rw [if_pos (h a List.mem_cons_self)]
    exact badO_ok fun d m => h d (List.mem_cons_of_mem _ m)
theorem seq_at {K : PySem.W.Frag} {H : Hp} {v : V} {d : PyData} (h : isSeq d = true) (hv : Dp K H v d) : ∃ p us, v = .ref p ∧ SqA K H p us ∧ DpAll K H us (itemsD d) := by
  cases hv with
  | lst hs ha => exact ⟨_, _, rfl, .inl hs, ha⟩
  | tup hs ha => exact ⟨_, _, rfl, .inr hs, ha⟩
  | _ => cases h
theorem sz_items {d : PyData} (hs : isSeq d = true) (h : szD d = true) : szDs (itemsD d) = true := by
  cases d with
  | list ds => exact szL_in h
  | tuple ds => exact szT_in h
  | _ => cases hs
theorem sz_itemsL {d : PyData} (h : szD d = true) : (itemsD d).length ≤ 1000 := by
  cases d with
  | list ds => exact sz_lenL h
  | tuple ds => exact sz_len h
  | _ => exact Nat.zero_le _
theorem out_noC {c d : PyData} (h : callB c = false) : outB (.tuple [c, d]) = false := by
  cases d <;> first | rfl | exact h
theorem out_noB {c d : PyData} (h : isBool d = false) : outB (.tuple [c, d]) = false := by
  cases d <;> first | rfl | cases h
def OWish (H : Hp) (CO : Addr) (E : XK) (ok : Prop) : Option Nat → Prop
  | some i => EWish H CO "index" (.int (i : Nat)) E
  | none => ok
def spChkO (K : PySem.W.Frag) (CO : Addr) : Sp := fun vs H Q E => ∃ (v : V) (d : PyData), vs = [v] ∧ Dp K H v d ∧ szD d = true ∧ ((isSeq d = false ∧ EWish H CO "index" .non E) ∨ (isSeq d = true ∧ OWish H CO E (∀ H', Same H H' → Q .non H') (badO 0 (itemsD d))))
theorem badO_drop {ds : List PyData} {j : Nat} {d : PyData} (h : ds[j]? = some d) : badO j (ds.drop j) = if outB d = true then badO (j + 1) (ds.drop (j + 1)) else some j := by
  have jl := (List.getElem?_eq_some_iff.mp h).1
  rw [List.drop_eq_getElem_cons jl, (List.getElem?_eq_some_iff.mp h).2]
  rfl
section
variable {P : Program} {w : World} {K : PySem.W.Frag} {mg : Str → Option Value} {base : Heap}
theorem ok_chkO {CO f fC fB : Addr} {fd dC dB : FuncData} (F : Fun K "_check_outputs" "_check_outputs" sChkO f fd) (M : Blt mg) (gE : mg "enumerate" = none) (GC : FnOk P w K mg base CX0 3 fC dC ["value"] (spB K callB)) (kC : PySem.W.keepIn K (.ref fC) = true) (bC : Binds K dC ["value"] []) (gC : mg "is_call" = some (.ref fC))
    (TB : ErrT K mg "BadOutput" "index" CO fB) (GB : FnOk P w K mg base CX0 1 fB dB ["self", "index"] (spErr CO "index")) (bB : Binds K dB ["self", "index"] []) : FnOk P w K mg base (L2.CX P w) 4 f fd ["outputs"] (spChkO K CO) := by
  refine F.okX scChkO (fun vs H Q E h => ?_) (fun cdv A outer s H vs Q E hr h => ?_)
  · obtain ⟨v, d, rfl, _⟩ := h
    rfl
  · obtain ⟨v, d, rfl, hv, hz, h⟩ := h
    have one : (1 : Nat) ≤ 1000 := by decide
    have hrB : Room 1 (A.deeper (envOfC "_check_outputs" (defScope sChkO) s.heap.objs.size f cdv)) := hr.mono (by decide)
    have hrC : Room 2 (A.deeper (envOfC "_check_outputs" (defScope sChkO) s.heap.objs.size f cdv)) := hr.mono (by decide)
    refine ⟨_, pss_cons (ps_if (pt_not (pt_val (pe_callB call_isiT (by rfl) M.isinstance (by decide +kernel) (pa_cons (pv 0) (pa_cons (pe_tup (pa_cons (pe_bltn (v := .ty "list") (by rfl) M.list (by decide +kernel) rfl) (pa_cons (pe_bltn (v := .ty "tuple") (by rfl) M.tuple (by decide +kernel) rfl) pa_nil))) pa_nil)))))
        (pss_one (ps_raise rfl (takes_of rfl rfl rfl rfl) (pmk_oex (k := 1) (ps := ["self", "index"]) (sp := spErr CO "index") (ds := []) (dvs := []) TB.oex TB.ini TB.typ GB hrC bB .nil pass0 (by rfl) TB.nam (pa_cons pe_non pa_nil)))) pss_nil)
      (pss_one (ps_for (passes_of rfl) rfl (EnT.pi_enumA (by rfl) gE (pa_cons (pv 0) pa_nil)) (pg_tup (by rfl) (pgs_cons (pg_name (i := 1) scChkO.nd rfl (.inl rfl)) (pgs_cons (pg_name (i := 2) scChkO.nd rfl (.inl rfl)) pgs_nil)))
        (pss_cons (ps_if (PW.pt (pw_or (pt_not (pt_val (pe_callB call_isi (by rfl) M.isinstance (by decide +kernel) (pa_cons (pv 2) (pa_cons (pe_bltn (v := .ty "tuple") (by rfl) M.tuple (by decide +kernel) rfl) pa_nil)))))
            (pw_or1 (pt_cmpR op_ne (pe_callB call_len_seq (by rfl) M.len PySem.boot_len (pa_cons (pv 2) pa_nil)) pe_int (nomark _)))))
          (pss_one (ps_raise rfl (takes_of rfl rfl rfl rfl) (pmk_oex (k := 1) (ps := ["self", "index"]) (sp := spErr CO "index") (ds := []) (dvs := []) TB.oex TB.ini TB.typ GB hrC bB .nil pass0 (by rfl) TB.nam (pa_cons (pv 1) pa_nil)))) pss_nil)
        (pss_one (ps_if (PW.pt (pw_or (pt_not (pt_val (pe_call GC hr (by rfl) gC kC bC .nil pass0 (pa_cons (pe_ix ix_tup (pv 2) pe_int (fun _ _ => rfl)) pa_nil))))
            (pw_or1 (pt_not (pt_val (pe_callB call_isi (by rfl) M.isinstance (by decide +kernel) (pa_cons (pe_ix ix_tup (pv 2) pe_int (fun _ _ => rfl)) (pa_cons (pe_bltn (v := .ty "bool") (by rfl) M.bool (by decide +kernel) rfl) pa_nil))))))))
          (pss_one (ps_raise rfl (takes_of rfl rfl rfl rfl) (pmk_oex (k := 1) (ps := ["self", "index"]) (sp := spErr CO "index") (ds := []) (dvs := []) TB.oex TB.ini TB.typ GB hrC bB .nil pass0 (by rfl) TB.nam (pa_cons (pv 1) pa_nil)))) pss_nil))))), ?_⟩
    refine ⟨v, rfl, (by show 2 ≤ sizeLine; decide), fun tp np => ?_⟩
    have s0 : Same H (upd H tp (HO.tup [.ty "list", .ty "tuple"])) := same_upd np
    have tcs : Paired ClsV [V.ty "list", V.ty "tuple"] [Value.type "list", Value.type "tuple"] := .cons (.ty "list") (.cons (.ty "tuple") .nil)
    have kt := kit_seq K d
    rcases h with ⟨hn, out⟩ | ⟨hn, wish⟩
    · rw [hn] at kt
      exact ⟨v, tp, _, _, _, _, rfl, upd_same, tcs, dp_ty (dp_same s0 hv), kt, _, rfl, iteT ⟨one, mk_left fun dd H' l => out _ dd H' s0 l⟩⟩
    · rw [hn] at kt
      refine ⟨v, tp, _, _, _, _, rfl, upd_same, tcs, dp_ty (dp_same s0 hv), kt, _, rfl, iteF ?_⟩
      generalize upd H tp (HO.tup [.ty "list", .ty "tuple"]) = H0 at s0 ⊢
      have zs := sz_items hn hz
      obtain ⟨p, us, rfl, hA, hd⟩ := seq_at hn hv
      generalize itemsD d = is at wish hd zs
      have lu := dpA_len hd
      refine ⟨.ref p, rfl, p, us, rfl, ?_⟩
      obtain ⟨Pv, hPv⟩ : ∃ Pv : Nat → L2.St → Hp → Prop, Pv = fun j σ H' => ∃ z1 z2, σ = [some (.ref p), z1, z2] ∧ Same H H' ∧ badO 0 is = badO j (is.drop j) := ⟨_, rfl⟩
      have h0 : Pv 0 [some (.ref p), none, none] H0 := by
        subst hPv
        exact ⟨_, _, rfl, s0, rfl⟩
      rcases hA with hA | hA
      case' inl => refine .inl ⟨s0.seq hA, ?_⟩; refine for_it (walk_enum (K := K) (a := p) (xs := us)) Pv h0 (fun j σ H' _ pr => by subst hPv; obtain ⟨_, _, _, s, _⟩ := pr; exact s.seq hA) (fun j x σ H2 H3 hj pr y => ?_) (fun σ H2 pr => ?_)
      case' inr => refine .inr ⟨same_sqT s0 hA, ?_⟩; refine for_it (EnT.walk_enumT (K := K) (a := p) (xs := us)) Pv h0 (fun j σ H' _ pr => by subst hPv; obtain ⟨_, _, _, s, _⟩ := pr; exact same_sqT s hA) (fun j x σ H2 H3 hj pr y => ?_) (fun σ H2 pr => ?_)
      all_goals subst hPv
      case' inl.refine_1 | inr.refine_1 =>
        obtain ⟨_, _, rfl, s2, eb⟩ := pr
        obtain ⟨T, y0, x0, rfl, nT, rfl, ey, hx⟩ := y
        cases ey
        obtain ⟨d2, hdi, hv2⟩ := dpA_at hd hx
        have sT : Same H2 (upd H2 T (.tup [.int (j : Nat), x0])) := same_upd nT
        have s3 := s2.trans sT
        have hv3 := dp_same s3 hv2
        have z2 : szD d2 = true := szDs_get zs hdi
        rw [badO_drop hdi] at eb
        have stop : outB d2 = false → EWish H CO "index" (.int (j : Nat)) E := fun e => by
          rw [eb, if_neg (by rw [e]; decide)] at wish
          exact wish
        refine ⟨T, _, rfl, .inl (.inl upd_same), rfl, _, _, rfl, _, _, rfl, rfl, ?_⟩
        generalize upd H2 T (.tup [.int (j : Nat), x0]) = H3 at sT s3 hv3 ⊢
        have bad : ∀ H4, Same H H4 → outB d2 = false → ∀ a, H4 a = none → spErr CO "index" [.ref a, .int (j : Nat)] (upd H4 a (exo a CO none)) _ (fun _ _ _ => False) := fun H4 s4 e => mk_left fun dd H' l => stop e _ dd H' s4 l
        refine ⟨_, rfl, _, .ty "tuple", _, _, _, rfl, .ty "tuple", dp_ty hv3, kit_tup K _, _, rfl, ?_⟩
        cases hv3 with
        | @tup a xs ts hs ha =>
          have el : xs.length = ts.length := dpA_len ha
          refine iteF ⟨_, rfl, a, xs, rfl, .inr hs, rfl, _, rfl, ?_⟩
          by_cases h2 : ts.length = 2
          · obtain ⟨d0, d1, rfl⟩ := len2 h2
            obtain ⟨x0, x1, rfl, h0, h1⟩ := dp_pair ha
            refine iteF' (by rfl) ?_
            refine ⟨_, rfl, a, _, 0, x0, rfl, rfl, hs, rfl, x0, d0, rfl, h0, szDs_get (szD_tup z2) (i := 0) rfl, fun H4 s4 => ⟨_, rfl, ?_⟩⟩
            cases hc : callB d0 with
            | false => exact iteT (iteT ⟨_, rfl, one, bad H4 (s3.trans s4) (out_noC hc)⟩)
            | true =>
              refine iteF ⟨_, rfl, a, _, 1, x1, rfl, rfl, same_sqT s4 hs, rfl, x1, .ty "bool", _, _, _, rfl, .ty "bool", dp_ty (dp_same s4 h1), kit_bool K d1, _, rfl, ?_⟩
              cases hb : isBool d1 with
              | false => exact iteT ⟨_, rfl, one, bad H4 (s3.trans s4) (out_noB hb)⟩
              | true =>
                refine iteF ⟨_, _, rfl, s3.trans s4, ?_⟩
                rw [eb, if_pos]
                cases d1 <;> first | exact hc | cases hb
          · refine iteT' ?_ ⟨_, rfl, one, bad H3 s3 ?_⟩
            · rw [el, dint]
              exact congrArg not (decide_eq_false fun e => h2 (by omega))
            · unfold outB
              split
              · rename_i e
                cases e
                exact absurd rfl h2
              · rfl
        | _ => exact iteT (iteT ⟨_, rfl, one, bad H3 s3 rfl⟩)
      all_goals
        obtain ⟨z1, z2, rfl, s2, eb⟩ := pr
        rw [lu, List.drop_length] at eb
        rw [eb] at wish
        exact wish H2 s2
end
/-! ### a Statement made, or refused -/
inductive SErr where
  | tree
  | out (i : Option Nat)
  | many
def noTree : PyData → Bool
  | .none => false
  | d => !treeB 8 d
def stOut (dc dO : PyData) : Option SErr :=
  if noTree dc = true then some .tree else if isSeq dO = false then some (.out none) else
  match badO 0 (itemsD dO) with
  | some i => some (.out (some i))
  | none => if 8 < (allCalls dc (itemsD dO)).length then some .many else none
def idxO : Option Nat → V
  | some i => .int (i : Nat)
  | none => .non
/-- the classes of a Statement's errors -/
structure SEr where
  T : Addr
  O : Addr
  M : Addr
def SWish (H : Hp) (R : SEr) (vc : V) (E : XK) (ok : Prop) : Option SErr → Prop
  | none => ok
  | some .tree => EWish H R.T "tree" vc E
  | some (.out i) => EWish H R.O "index" (idxO i) E
  | some .many => EWish H R.M "limit" (.int 8) E
/-- what is asked of the two that a Statement is made of -/
structure InOk (dc dO : PyData) : Prop where
  zc : szD dc = true
  zo : szD dO = true
  lo : (itemsD dO).length ≤ 20
  tr : treeB 8 dc = true → sizeF 8 dc ≤ 1000 ∧ (callsF 8 dc).length ≤ 8
def spStI (K : PySem.W.Frag) (CS : Addr) (R : SEr) : Sp := fun vs H Q E => ∃ (a dx : Addr) (vc vo : V) (dc dO : PyData) (H0 : Hp), vs = [.ref a, vc, vo] ∧ H a = some (.ins CS dx []) ∧ Same H0 H ∧ H0 a = none ∧ Dp K H0 vc dc ∧ Dp K H0 vo dO ∧ InOk dc dO ∧
  SWish H R vc E (∀ H', Same H0 H' → StAt K H' CS a dc (itemsD dO) → Q .non H') (stOut dc dO)
theorem noTree_ok {dc : PyData} (h : noTree dc = false) (k : treeB 8 dc = true → sizeF 8 dc ≤ 1000) : CondOk dc := by
  cases dc with
  | none => exact .inl rfl
  | _ => exact .inr ⟨by simpa [noTree] using h, k (by simpa [noTree] using h)⟩
section
variable {P : Program} {w : World} {K : PySem.W.Frag} {mg : Str → Option Value} {base : Heap}
theorem ok_stI {CS f fT fK fI aD eT eM : Addr} {R : SEr} {fd dT dK dI xT xM : FuncData} (F : FunD K "__init__" "Statement.__init__" (defArgs sStI) (defBody sStI) (defScope sStI) [.ref aD] [] f fd) (M : Blt mg) (SC : StC K CS) (T8' : CallTxt mg)
    (GT : FnOk P w K mg base CX0 13 fT dT ["value"] (spB K (treeB 8))) (kT : PySem.W.keepIn K (.ref fT) = true) (bT : Binds K dT ["value"] []) (gT : mg "is_tree" = some (.ref fT))
    (GK : FnOk P w K mg base (L2.CX P w) 4 fK dK ["outputs"] (spChkO K R.O)) (kK : PySem.W.keepIn K (.ref fK) = true) (bK : Binds K dK ["outputs"] []) (gK : mg "_check_outputs" = some (.ref fK))
    (GI : FnOk P w K mg base CX0 2 fI dI ["tree"] (spCI K)) (kI : PySem.W.keepIn K (.ref fI) = true) (bI : Binds K dI ["tree"] []) (gI : mg "_calls_in" = some (.ref fI))
    (TT : ErrT K mg "BadTree" "tree" R.T eT) (ET : FnOk P w K mg base CX0 1 eT xT ["self", "tree"] (spErr R.T "tree")) (bET : Binds K xT ["self", "tree"] [])
    (TM : ErrO K mg famO "TooMany" "limit" R.M eM) (EM : FnOk P w K mg base CX0 1 eM xM ["self", "limit"] (spErr R.M "limit")) (bEM : Binds K xM ["self", "limit"] []) :
    FnOk P w K mg base (L2.CX P w) 14 f fd ["self", "condition", "outputs"] (spStI K CS R) := by
  obtain ⟨t8, g8⟩ := T8'.most
  refine F.ok scStI (fun vs H Q E h => ?_) (fun cdv A outer s H vs Q E hr h => ?_)
  · obtain ⟨a, dx, vc, vo, dc, dO, H0, rfl, _⟩ := h
    rfl
  · obtain ⟨a, dx, vc, vo, dc, dO, H0, rfl, ea, s0, n0, hc, ho, ok, wish⟩ := h
    have one : (1 : Nat) ≤ 1000 := by decide
    have hr2 : Room 2 (A.deeper (envOfC "Statement.__init__" (defScope sStI) s.heap.objs.size f cdv)) := hr.mono (by decide)
    refine ⟨_, pss_cons (ps_if (PW.pt (pw_and (pt_cmp (pc_notN (pv 1))) (pw_and1 (pt_not (pt_val (pe_call GT hr (by rfl) gT kT bT .nil pass0 (pa_cons (pv 1) pa_nil)))))))
        (pss_one (ps_raise rfl (takes_of rfl rfl rfl rfl) (pmk_oex (k := 1) (ps := ["self", "tree"]) (sp := spErr R.T "tree") (ds := []) (dvs := []) TT.oex TT.ini TT.typ ET hr2 bET .nil pass0 (by rfl) TT.nam (pa_cons (pv 1) pa_nil)))) pss_nil)
      (pss_cons (ps_expr (pe_call (E := E) GK (hr.mono (by decide)) (by rfl) gK kK bK .nil (passes_call (takes_of rfl rfl rfl rfl) (fun _ _ _ _ h => h)) (pa_cons (pv 2) pa_nil)))
      (pss_cons (ps_set (i := 3) scStI.nd rfl (.inl rfl) (pe_ifExp (pt_cmp (pc_isN (pv 1))) (pe_lst pa_nil) (pe_call GI (hr.mono (by decide)) (by rfl) gI kI bI .nil pass0 (pa_cons (pv 1) pa_nil))))
      (pss_cons (ps_set (i := 4) scStI.nd rfl (.inl rfl) (pe_op op_cat (pv 3) (pe_lc (own := [("call", 5), ("_", 6)]) (g := gTup K 2 (gCons (gName 5) (gCons (gName 6) gNil))) (wi := iSeqA K (tVar 2)) (tt := tYes) (te := tVar 5) (by rfl) scStI.nd (pi_seqA (pv 2)) (blkOk_by (own := [("call", 5), ("_", 6)]) (N := ["self", "condition", "outputs", "atoms", "calls", "call", "_"]) (sc := defScope sStI) (by decide +kernel))
          (fun _ _ _ _ _ => pg_tup (by rfl) (pgs_cons (pg_name (i := 5) scStI.nd rfl (Or.inl rfl)) (pgs_cons (pg_name (i := 6) scStI.nd rfl (Or.inl rfl)) pgs_nil))) (fun _ _ _ _ _ => pts_nil) (fun _ _ _ _ _ => pv 5))))
      (pss_cons (ps_if (pt_cmpR op_gt (pe_callB call_len_seq (by rfl) M.len PySem.boot_len (pa_cons (pv 4) pa_nil)) (pe_glob (v := .int 8) (by rfl) g8 ⟨_, rfl⟩) (nomark _))
        (pss_one (ps_raise rfl (takes_of rfl rfl rfl rfl) (pmk_fam (k := 1) (ps := ["self", "limit"]) (sp := spErr R.M "limit") famO_ok TM EM hr2 bEM pass0 (by rfl) (pa_cons (pe_glob (v := .int 8) (by rfl) g8 ⟨_, rfl⟩) pa_nil)))) pss_nil)
      (pss_cons (ps_fld (pv 0) (pv 1) (by rfl))
      (pss_cons (ps_fld (pv 0) (pe_callTy call_tuple_of (by rfl) M.tuple (by decide +kernel) (pa_cons (pv 2) pa_nil)) (by rfl))
      (pss_cons (ps_fld (pv 0) (pe_callTy call_tuple_of (by rfl) M.tuple (by decide +kernel) (pa_cons (pv 3) pa_nil)) (by rfl))
      (pss_one (ps_fld (pv 0) (pe_callTy call_tuple_of (by rfl) M.tuple (by decide +kernel) (pa_cons (pv 4) pa_nil)) (by rfl)))))))))), ?_⟩
    have hc1 := dp_same s0 hc
    have nn := none_is hc
    refine q_if ?_
    have c0 : ∀ Rr : Bool → Hp → Prop, (∀ H', Same H H' → Rr (noTree dc) H') → (tAnd (tB (tNotN (tVar 1))) (tNot (tB (tCall (spB K (treeB 8)) [] E0 (tCons (tVar 1) tNil))))) (L2.start ["self", "condition", "outputs", "atoms", "calls", "call", "_"] [.ref a, vc, vo]) H Rr := fun Rr r => by
      refine ⟨vc, rfl, _, rfl, ?_⟩
      rw [nn]
      cases dc with
      | none => exact iteF (r H (Same.refl H))
      | _ => exact iteT ⟨vc, rfl, vc, _, rfl, hc1, ok.zc, fun H' s' => ⟨_, rfl, r H' s'⟩⟩
    refine c0 _ fun H1 s1 => ?_
    cases hnt : noTree dc with
    | true =>
      have wish : EWish H R.T "tree" vc E := by
        unfold stOut at wish
        rw [if_pos hnt] at wish
        exact wish
      exact iteT ⟨vc, rfl, one, mk_left fun dd H' l => wish _ dd H' s1 l⟩
    | false =>
    have okc := noTree_ok hnt fun t => (ok.tr t).1
    have lcc : (callsF 8 dc).length ≤ 8 := by
      rcases okc with rfl | ⟨h8, _⟩
      · exact Nat.zero_le _
      · exact (ok.tr h8).2
    refine iteF ?_
    dsimp only [tNext]
    refine q_drop ?_
    refine ⟨vo, rfl, vo, dO, rfl, dp_same (s0.trans s1) ho, ok.zo, ?_⟩
    cases hsq : isSeq dO with
    | false =>
      have wish : EWish H R.O "index" .non E := by
        unfold stOut at wish
        rw [if_neg (by rw [hnt]; decide), if_pos hsq] at wish
        exact wish
      exact .inl ⟨rfl, fun H2 dd H' s' l => wish H2 dd H' (s1.trans s') l⟩
    | true =>
    refine .inr ⟨rfl, ?_⟩
    obtain ⟨o, us, rfl, hA, hd⟩ := seq_at hsq ho
    have zs := sz_items hsq ok.zo
    have lo20 := ok.lo
    have wish : SWish H R vc E (∀ H', Same H0 H' → StAt K H' CS a dc (itemsD dO) → Q .non H') (match badO 0 (itemsD dO) with
      | some i => some (.out (some i))
      | none => if 8 < (allCalls dc (itemsD dO)).length then some .many else none) := by
      unfold stOut at wish
      rw [if_neg (by rw [hnt]; decide), if_neg (by rw [hsq]; decide)] at wish
      exact wish
    generalize itemsD dO = ods at wish hd zs lo20 ⊢
    clear hnt c0 hsq
    cases hb : badO 0 ods with
    | some i =>
      rw [hb] at wish
      exact fun H2 dd H' s' l => wish H2 dd H' (s1.trans s') l
    | none =>
    rw [hb] at wish
    have wish : if 8 < (allCalls dc ods).length then EWish H R.M "limit" (.int 8) E else ∀ H', Same H0 H' → StAt K H' CS a dc ods → Q .non H' := by
      split
      · rename_i c
        rw [show (match (none : Option Nat) with | some i => some (SErr.out (some i)) | none => if 8 < (allCalls dc ods).length then some .many else none) = some SErr.many from if_pos c] at wish
        exact wish
      · rename_i c
        rw [show (match (none : Option Nat) with | some i => some (SErr.out (some i)) | none => if 8 < (allCalls dc ods).length then some .many else none) = (none : Option SErr) from if_neg c] at wish
        exact wish
    have oko : OutsOk ods := ⟨badO_none hb, zs⟩
    refine fun H2 s2 => ?_
    have t2 := (s0.trans s1).trans s2
    have ea2 := s2 _ _ (s1 _ _ ea)
    refine q_te ?_
    refine (atoms_te (dc := dc) rfl t2 hc okc lcc fun l as H3 s3 nl el has => ?_)
    have t3 := t2.trans s3
    have ea3 := s3 _ _ ea2
    refine q_te ?_
    refine ⟨.ref l, rfl, ?_⟩
    refine outs_lc (H0 := H0) (i := 2) rfl trivial t3 hA hd oko (by omega) (fun _ _ => rfl) (fun _ _ => rfl) (fun m acc H4 s4 nm em hm => ?_) rfl
    have t4 := t3.trans s4
    refine ⟨l, m, as, acc, rfl, rfl, s4 _ _ el, em, ?_, fun p np => ?_⟩
    · rw [dpA_len has, dpA_len hm, List.length_map]
      exact Nat.le_trans (show _ ≤ 28 by unfold condCalls; omega) (by decide)
    have s5 := same_upd (o := HO.lst (as ++ acc)) np
    have t5 := t4.trans s5
    have ea5 := s5 _ _ (s4 _ _ ea3)
    have el5 := s5 _ _ (s4 _ _ el)
    have ep : (upd H4 p (.lst (as ++ acc))) p = some (.lst (as ++ acc)) := upd_same
    have hcs : DpAll K H0 (as ++ acc) (allCalls dc ods) := dpA_app has hm
    have sHH : Same H (upd H4 p (.lst (as ++ acc))) := (((s1.trans s2).trans s3).trans s4).trans s5
    generalize upd H4 p (.lst (as ++ acc)) = H5 at s5 t5 ea5 el5 ep sHH ⊢
    have lcs : (as ++ acc).length = (allCalls dc ods).length := dpA_len hcs
    refine q_if ?_
    refine ⟨.ref p, rfl, p, as ++ acc, rfl, .inl (.inl (.inl ep)), _, _, rfl, rfl, _, rfl, ?_⟩
    by_cases l8 : 8 < (allCalls dc ods).length
    · rw [if_pos l8] at wish
      exact iteT' (decide_eq_true (by omega)) ⟨one, mk_left fun dd H' l => wish _ dd H' sHH l⟩
    rw [if_neg l8] at wish
    refine iteF' (decide_eq_false (by omega)) ?_
    dsimp only [tNext]
    have npa : p ≠ a := fun e => by rw [e, ea5] at ep; cases ep
    have nla : l ≠ a := fun e => by rw [e, ea5] at el5; cases el5
    refine q_fldVS rfl rfl ea5 t5 n0 SC.cl SC.n1 (by show 0 < 1000; decide) fun G1 g1 e1 k1 => ?_
    have hA1 : SqL K G1 o us ∨ SqT K H0 o us := hA.imp g1.seq id
    refine q_fldTupS rfl rfl e1 g1 n0 hA1 SC.cl SC.n2 (by show 1 < 1000; decide) fun G2 to g2 e2 k2 h2 kk2 => ?_
    refine q_fldTupS (xs := as) rfl rfl e2 g2 n0 (.inl (.inl (.inl (k2 _ _ nla (k1 _ _ nla el5))))) SC.cl SC.n3 (by show 2 < 1000; decide) fun G3 ta g3 e3 k3 h3 kk3 => ?_
    refine q_last ?_
    refine q_fldTupS (xs := as ++ acc) rfl rfl e3 g3 n0 (.inl (.inl (.inl (k3 _ _ npa (k2 _ _ npa (k1 _ _ npa ep)))))) SC.cl SC.n4 (by show 3 < 1000; decide) fun G4 tc g4 e4 k4 h4 kk4 => ?_
    refine wish G4 g4 ⟨dx, vc, to, ta, tc, us, as, as ++ acc, e4, dp_same g4 hc, ?_, dpA_same g4 hd, ?_, dpA_same g4 has, h4, dpA_same g4 hcs, okc, oko, by omega⟩
    · exact kk4 _ _ (kk3 _ _ h2)
    · exact kk4 _ _ h3
end
/-! ### Statement.fit -/
abbrev sFit : Stmt := inClass (topS 46) 7
theorem scFit : FnScope ["self", "book", "index", "name", "given"] ["self", "book"] (defScope sFit) := ⟨rfl, rfl, rfl, by decide +kernel, rfl, by decide +kernel, by decide +kernel⟩
def calFit (fs : List FX) : PyData → Bool
  | .tuple [.str z, .tuple gs] => match atName fs z with
    | some F => decide (F.d.ar = (gs.length : Nat))
    | none => false
  | _ => false
/-- the first call that the book hasn't so -/
def badK (fs : List FX) (i : Nat) : List PyData → Option Nat
  | [] => none
  | d :: r => if calFit fs d = true then badK fs (i + 1) r else some i
theorem badK_drop {fs : List FX} {ds : List PyData} {j : Nat} {d : PyData} (h : ds[j]? = some d) : badK fs j (ds.drop j) = if calFit fs d = true then badK fs (j + 1) (ds.drop (j + 1)) else some j := by
  have jl := (List.getElem?_eq_some_iff.mp h).1
  rw [List.drop_eq_getElem_cons jl, (List.getElem?_eq_some_iff.mp h).2]
  rfl
def KWish (H : Hp) (CB : Addr) (E : XK) (ok : Prop) : Option Nat → Prop
  | some i => EWish H CB "index" (.int (i : Nat)) E
  | none => ok
def spFit (K : PySem.W.Frag) (CS CK C CF CL CB : Addr) : Sp := fun vs H Q E => ∃ (a bb : Addr) (dc : PyData) (ods : List PyData) (cells : List (Str × Str)) (fs : List FX), vs = [.ref a, .ref bb] ∧ StAt K H CS a dc ods ∧ BookAt K H CK C CF CL bb cells fs ∧ KWish H CB E (∀ H', Same H H' → Q .non H') (badK fs 0 (allCalls dc ods))
section
variable {P : Program} {w : World} {K : PySem.W.Frag} {mg : Str → Option Value} {base : Heap}
theorem ok_fit {CS CK C CF CL CU CB f fH fG fE : Addr} {fd dH dG dE : FuncData} (F : Fun K "fit" "Statement.fit" sFit f fd) (M : Blt mg) (SC : StC K CS) (gE : mg "enumerate" = none) (BK : BookK K CK C CF)
    (OH : Op1 P w K mg base CX0 1 CK "__contains__" fH dH ["self", "x"] (spHasN K CK C CF CL)) (OG : Op1 P w K mg base (L2.CX P w) 3 CK "__getitem__" fG dG ["self", "at"] (spGet K CK C CF CL CU))
    (TB : ErrT K mg "BadCall" "index" CB fE) (GB : FnOk P w K mg base CX0 1 fE dE ["self", "index"] (spErr CB "index")) (bB : Binds K dE ["self", "index"] []) : FnOk P w K mg base (L2.CX P w) 6 f fd ["self", "book"] (spFit K CS CK C CF CL CB) := by
  refine F.okX scFit (fun vs H Q E h => ?_) (fun cdv A outer s H vs Q E hr h => ?_)
  · obtain ⟨a, bb, dc, ods, cells, fs, rfl, _⟩ := h
    rfl
  · obtain ⟨a, bb, dc, ods, cells, fs, rfl, st, bk, wish⟩ := h
    have one : (1 : Nat) ≤ 1000 := by decide
    have hr2 : Room 2 (A.deeper (envOfC "Statement.fit" (defScope sFit) s.heap.objs.size f cdv)) := hr.mono (by decide)
    refine ⟨_, pss_one (ps_for (passes_of rfl) rfl (EnT.pi_enumA (by rfl) gE (pa_cons (pe_fld (pv 0) (by rfl)) pa_nil)) (pg_tup (by rfl) (pgs_cons (pg_name (i := 2) scFit.nd rfl (.inl rfl)) (pgs_cons (pg_tup (by rfl) (pgs_cons (pg_name (i := 3) scFit.nd rfl (.inl rfl)) (pgs_cons (pg_name (i := 4) scFit.nd rfl (.inl rfl)) pgs_nil))) pgs_nil)))
        (pss_one (ps_if (PW.pt (pw_or (pt_cmpR (op_ownNotIn (E := E0) OH (hr.mono (by decide)) pass0) (pv 3) (pv 1) (by rfl))
            (pw_or1 (pt_cmpR op_ne (pe_fld (pe_ownSub (E := E0) OG (hr.mono (by decide)) pass00 (pv 1) (pv 3) (fun _ _ => rfl)) (by rfl)) (pe_callB call_len_seq (by rfl) M.len PySem.boot_len (pa_cons (pv 4) pa_nil)) (nomark _)))))
          (pss_one (ps_raise rfl (takes_of rfl rfl rfl rfl) (pmk_oex (k := 1) (ps := ["self", "index"]) (sp := spErr CB "index") (ds := []) (dvs := []) TB.oex TB.ini TB.typ GB hr2 bB .nil pass0 (by rfl) TB.nam (pa_cons (pv 2) pa_nil)))) pss_nil))), ?_⟩
    obtain ⟨dx, vc, t, ta, tc, us, as, cs, ea, h1, h2, h3, h4, h5, h6, h7, kc, ko, l8⟩ := id st
    have nc := calls_ok kc ko
    generalize allCalls dc ods = ds at wish h7 nc l8
    have lu := dpA_len h7
    refine ⟨.ref a, rfl, a, CS, dx, _, .ref tc, rfl, ea, SC.cl, SC.n4, rfl, tc, cs, rfl, .inr ⟨h6, ?_⟩⟩
    refine for_it (EnT.walk_enumT (K := K) (a := tc) (xs := cs)) (fun j σ H' => ∃ z1 z2 z3, σ = [some (.ref a), some (.ref bb), z1, z2, z3] ∧ Same H H' ∧ badK fs 0 ds = badK fs j (ds.drop j)) ⟨_, _, _, rfl, Same.refl H, rfl⟩ (fun j σ H' _ pr => by obtain ⟨_, _, _, _, s, _⟩ := pr; exact same_sqT s h6) (fun j x σ H2 H3 hj pr y => ?_) (fun σ H2 pr => ?_)
    · obtain ⟨_, _, _, rfl, s2, eb⟩ := pr
      obtain ⟨T, y0, x0, rfl, nT, rfl, ey, hx⟩ := y
      cases ey
      obtain ⟨d, hdi, hv⟩ := dpA_at h7 hx
      have sT : Same H2 (upd H2 T (.tup [.int (j : Nat), x0])) := same_upd nT
      have s3 := s2.trans sT
      rw [badK_drop hdi] at eb
      have stop : calFit fs d = false → EWish H CB "index" (.int (j : Nat)) E := fun e => by
        rw [eb, if_neg (by rw [e]; decide)] at wish
        exact wish
      obtain ⟨nm, gs, rfl, hn, l2, hg⟩ := call_shape (nc d (List.mem_of_getElem? hdi))
      obtain ⟨z, rfl⟩ := isName_str hn
      have hv3 := dp_same s3 hv
      have eT : SqT K (upd H2 T (.tup [.int (j : Nat), x0])) T [.int (j : Nat), x0] := .inl (.inl upd_same)
      generalize upd H2 T (.tup [.int (j : Nat), x0]) = H3 at sT s3 hv3 eT ⊢
      cases hv3 with
      | @tup e xs _ hs ha =>
      obtain ⟨x1, x2, rfl, k1, k2⟩ := dp_pair ha
      cases k1
      cases k2 with
      | @tup e2 vs2 _ hs2 ha2 =>
      have lg := dpA_len ha2
      refine ⟨T, _, rfl, eT, rfl, _, _, rfl, _, _, rfl, e, _, rfl, hs, rfl, _, _, rfl, _, _, rfl, rfl, rfl, ?_⟩
      have bad : calFit fs (.tuple [.str z, .tuple gs]) = false → ∀ a, H3 a = none → spErr CB "index" [.ref a, .int (j : Nat)] (upd H3 a (exo a CB none)) _ (fun _ _ _ => False) := fun e => mk_left fun dd H' l => stop e _ dd H' s3 l
      have bk3 := bk.same s3
      obtain ⟨dxb, t1, t2, D, xb, yb, eB, _⟩ := id bk3
      refine ⟨.str z, rfl, .ref bb, rfl, bb, dxb, _, rfl, eB, bb, .str z, .str z, cells, fs, rfl, bk3, .str z, _, rfl, _, rfl, ?_⟩
      show if (!(atName fs z).isSome) = true then _ else _
      have cf : calFit fs (.tuple [.str z, .tuple gs]) = (match atName fs z with
        | some F => decide (F.d.ar = (gs.length : Nat))
        | none => false) := rfl
      cases hz : atName fs z with
      | none =>
        rw [hz] at cf
        exact iteT ⟨_, rfl, one, bad cf⟩
      | some G =>
        rw [hz] at cf
        have cf : calFit fs (.tuple [.str z, .tuple gs]) = decide (G.d.ar = (gs.length : Nat)) := cf
        refine iteF ⟨.ref bb, rfl, .str z, rfl, bb, dxb, _, rfl, eB, bb, .str z, .str z, cells, fs, rfl, bk3, .str z, ?_⟩
        show GetW K H3 CF CL CU (.str z) _ E0 (atName fs z)
        rw [hz]
        refine fun g hF => ?_
        obtain ⟨_, dxf, ffs, vr, wa, la, eg, l1, l2', _⟩ := hF
        refine ⟨g, CF, dxf, ffs, _, rfl, eg, BK.fc.cl, BK.fc.n2, l2', .ref e2, rfl, e2, _, rfl, .inr hs2, rfl, _, rfl, ?_⟩
        rw [dint, lg]
        by_cases q : G.d.ar = ((gs.length : Nat) : Int)
        · rw [decide_eq_true q] at cf
          refine iteF' (by rw [decide_eq_true q]; rfl) ⟨_, _, _, rfl, s3, ?_⟩
          rw [eb, if_pos cf]
        · rw [decide_eq_false q] at cf
          exact iteT' (by rw [decide_eq_false q]; rfl) ⟨_, rfl, one, bad cf⟩
    · obtain ⟨_, _, _, rfl, s2, eb⟩ := pr
      rw [lu, List.drop_length] at eb
      rw [eb] at wish
      exact wish H2 s2
end
/-! ### the law's calls and nodes of a tree -/
abbrev sLCI : Stmt := topS 74
theorem scLCI : FnScope ["_law_tree_here", "_law_found", "_law_part"] ["_law_tree_here"] (defScope sLCI) := ⟨rfl, rfl, rfl, by decide +kernel, rfl, by decide +kernel, by decide +kernel⟩
def spLX (K : PySem.W.Frag) (g : Nat → PyData → List PyData) (n : Nat) : Sp := fun vs H Q _ => ∃ (v : V) (d : PyData) (H0 : Hp), vs = [v] ∧ Same H0 H ∧ Dp K H0 v d ∧ (d = .none ∨ treeB n d = true) ∧ (g n d).length ≤ 1000 ∧ ∀ p xs H', Same H H' → H p = none → H' p = some (.lst xs) → DpAll K H0 xs (g n d) → Q (.ref p) H'
theorem fm_len {α β : Type} {f : α → List β} {l : List α} {x : α} (h : x ∈ l) : (f x).length ≤ (l.flatMap f).length := by
  induction l with
  | nil => cases h
  | cons a l ih =>
    rw [List.flatMap_cons, List.length_append]
    rcases List.mem_cons.mp h with rfl | h
    · omega
    · have := ih h
      omega
theorem fm_take {α β : Type} {f : α → List β} (l : List α) (n : Nat) : ((l.take n).flatMap f).length ≤ (l.flatMap f).length := by
  conv => rhs; rw [← List.take_append_drop n l, List.flatMap_append, List.length_append]
  omega
theorem tree_none {n : Nat} {d : PyData} (h : treeB n d = true) : d ≠ .none := fun e => by
  rw [e] at h
  cases n <;> cases h
theorem not_none {K : PySem.W.Frag} {H : Hp} {v : V} {d : PyData} (h : Dp K H v d) (n : d ≠ .none) : decide (v = .non) = false := by
  rw [none_is h]
  cases d <;> first | rfl | exact absurd rfl n
section
variable {P : Program} {w : World} {K : PySem.W.Frag} {mg : Str → Option Value} {base : Heap}
theorem lci_body {n m : Nat} {f fR : Addr} {fd dR : FuncData} (F : Fun K "_law_calls_in" "_law_calls_in" sLCI f fd) (GR : FnOk P w K mg base CX0 m fR dR ["_law_tree_here"] (spLX K callsF n)) (bR : Binds K dR ["_law_tree_here"] []) (kR : PySem.W.keepIn K (.ref fR) = true) (gR : mg "_law_calls_in" = some (.ref fR)) : FnOk P w K mg base CX0 (m + 1) f fd ["_law_tree_here"] (spLX K callsF (n + 1)) := by
  refine F.ok scLCI (fun vs H Q E h => ?_) (fun cdv A outer s H vs Q E hr h => ?_)
  · obtain ⟨v, d, H0, rfl, _⟩ := h
    rfl
  · obtain ⟨v, d, H0, rfl, s0, hv, ht, lg, q⟩ := h
    have hr1 : Room m _ := hr
    refine ⟨_, pss_cons (ps_if (pt_cmp (pc_isN (pv 0))) (pss_one (ps_ret (pe_lst pa_nil))) pss_nil)
      (pss_cons (ps_if (pt_cmpR op_eq (pe_ix ix_tup (pv 0) pe_int (fun _ _ => rfl)) pe_str (nomark _)) (pss_one (ps_ret (pe_lst (pa_cons (pe_ix ix_tup (pv 0) pe_int (fun _ _ => rfl)) pa_nil)))) pss_nil)
      (pss_cons (ps_if (pt_cmpR op_eq (pe_ix ix_tup (pv 0) pe_int (fun _ _ => rfl)) pe_str (nomark _)) (pss_one (ps_ret (pe_call GR hr1 (by rfl) gR kR bR .nil pass0 (pa_cons (pe_ix ix_tup (pv 0) pe_int (fun _ _ => rfl)) pa_nil)))) pss_nil)
      (pss_cons (ps_set (i := 1) scLCI.nd rfl (.inl rfl) (pe_lst pa_nil))
      (pss_cons (ps_for PassesOwn.never rfl (pi_tup (pe_ix ix_tup (pv 0) pe_int (fun _ _ => rfl))) (pg_name (i := 2) scLCI.nd rfl (.inl rfl))
        (pss_one (ps_set (i := 1) scLCI.nd rfl (.inl rfl) (pe_op op_cat (pv 1) (pe_call GR hr1 (by rfl) gR kR bR .nil pass0 (pa_cons (pv 2) pa_nil))))))
      (pss_one (ps_ret (pv 1))))))), ?_⟩
    refine ⟨v, rfl, _, rfl, ?_⟩
    by_cases hn : d = .none
    · subst hn
      cases hv
      refine iteT' (by decide) ⟨Nat.zero_le _, fun p np => q p [] _ (same_upd np) np upd_same ?_⟩
      exact .nil
    have ht : treeB (n + 1) d = true := ht.resolve_left hn
    refine iteF' (not_none hv hn) ?_
    obtain ⟨g, eg, ⟨c, u, rfl, hc, hu⟩ | ⟨t, rfl, h7⟩ | ⟨wd, ts, rfl, hw, l1, l8, hts⟩⟩ := tree_shape ht
    · cases eg
      cases hv with
      | @tup a xs _ hs ha =>
      have hs1 := same_sqT s0 hs
      cases ha with
      | @cons x0 xr _ _ h0 hr0 =>
      cases h0
      cases hr0 with
      | @cons x1 xr2 _ _ h1 hr1 =>
      exact ⟨_, rfl, a, _, 0, .str "is", rfl, rfl, hs1, atI_nat (j := 0) rfl, rfl, _, rfl, iteT' (by decide) ⟨_, rfl, a, _, 1, x1, rfl, rfl, hs1, atI_nat (j := 1) rfl, (by show 1 ≤ sizeLine; decide), fun p np => q p [x1] _ (same_upd np) np upd_same (.cons h1 .nil)⟩⟩
    · cases eg
      cases hv with
      | @tup a xs _ hs ha =>
      have hs1 := same_sqT s0 hs
      cases ha with
      | @cons x0 xr _ _ h0 hr0 =>
      cases h0
      cases hr0 with
      | @cons x1 xr2 _ _ h1 hr1 =>
      have el : callsF (n + 1) (.tuple [.str "not", t]) = callsF n t := List.flatMap_singleton _ _
      rw [el] at lg q
      exact ⟨_, rfl, a, _, 0, .str "not", rfl, rfl, hs1, atI_nat (j := 0) rfl, rfl, _, rfl, iteF' (by decide) ⟨_, rfl, a, _, 0, .str "not", rfl, rfl, hs1, atI_nat (j := 0) rfl, rfl, _, rfl, iteT' (by decide) ⟨_, rfl, a, _, 1, x1, rfl, rfl, hs1, atI_nat (j := 1) rfl, x1, t, H0, rfl, s0, h1, .inr h7, lg, q⟩⟩⟩
    · cases eg
      cases hv with
      | @tup a xs _ hs ha =>
      have hs1 := same_sqT s0 hs
      cases ha with
      | @cons x0 xr _ _ h0 hr0 =>
      cases h0
      cases hr0 with
      | @cons x1 xr2 _ _ h1 hr1 =>
      cases h1 with
      | @tup b us _ hs2 ha2 =>
      have nw := not_w hw
      have el : callsF (n + 1) (.tuple [.str wd, .tuple ts]) = ts.flatMap (callsF n) := by
        show (branchesD (.tuple [.str wd, .tuple ts])).flatMap (callsF n) = _
        rw [br_row hw]
      rw [el] at lg q
      refine ⟨_, rfl, a, _, 0, .str wd, rfl, rfl, hs1, atI_nat (j := 0) rfl, rfl, _, rfl, iteF' (by rw [dstr]; exact decide_eq_false nw.1) ⟨_, rfl, a, _, 0, .str wd, rfl, rfl, hs1, atI_nat (j := 0) rfl, rfl, _, rfl, iteF' (by rw [dstr]; exact decide_eq_false nw.2) ?_⟩⟩
      refine ⟨Nat.zero_le _, fun l nl => ?_⟩
      have sl := same_upd (o := HO.lst []) nl
      have el0 : (upd H l (.lst [])) l = some (.lst []) := upd_same
      generalize upd H l (.lst []) = H1 at sl el0 ⊢
      refine ⟨.ref a, rfl, a, _, 1, .ref b, rfl, rfl, same_sqT sl hs1, atI_nat (j := 1) rfl, b, rfl, ⟨_, same_sqT (s0.trans sl) hs2⟩, ?_⟩
      refine for_tup (K := K) (a := b) (xs := us) (fun j σ H' => ∃ l2 acc z2, σ = [some (.ref a), some (.ref l2), z2] ∧ Same H H' ∧ H l2 = none ∧ H' l2 = some (.lst acc) ∧ DpAll K H0 acc ((ts.take j).flatMap (callsF n))) ⟨l, [], none, rfl, sl, nl, el0, .nil⟩ (fun j σ H' _ pr => ?_) (fun j x σ H' hx pr => ?_) (fun σ H' pr => ?_)
      · obtain ⟨_, _, _, _, s', _⟩ := pr
        exact same_sqT (s0.trans s') hs2
      · obtain ⟨l2, acc, z2, rfl, s', n2, e2, hacc⟩ := pr
        obtain ⟨t, hti, hvt⟩ := dpA_at ha2 hx
        have mt := List.mem_of_getElem? hti
        have k1 := fm_len (f := callsF n) mt
        have k2 := fm_take (f := callsF n) ts j
        refine ⟨.ref l2, rfl, x, rfl, x, t, H0, rfl, s0.trans s', hvt, .inr (hts t mt), by omega, fun p ys H3 s3 np3 e3 hys => ?_⟩
        refine ⟨l2, p, acc, ys, rfl, rfl, s3 _ _ e2, e3, ?_, fun p2 np2 => ?_⟩
        · rw [dpA_len hacc, dpA_len hys]
          exact Nat.le_trans (show _ ≤ 2000 by omega) (by decide)
        · have s4 := same_upd (o := HO.lst (acc ++ ys)) np2
          refine ⟨p2, acc ++ ys, _, rfl, (s'.trans s3).trans s4, (s'.trans s3).free np2, upd_same, ?_⟩
          rw [take_snoc hti, List.flatMap_append, List.flatMap_singleton]
          exact dpA_app hacc hys
      · obtain ⟨l2, acc, z2, rfl, s', n2, e2, hacc⟩ := pr
        rw [dpA_len ha2, List.take_length] at hacc
        exact ⟨.ref l2, rfl, q l2 acc H' s' n2 e2 hacc⟩
theorem lci_zero {f : Addr} {fd : FuncData} (F : Fun K "_law_calls_in" "_law_calls_in" sLCI f fd) : FnOk P w K mg base CX0 (1 + 0) f fd ["_law_tree_here"] (spLX K callsF 0) := by
  refine F.ok scLCI (fun vs H Q E h => ?_) (fun cdv A outer s H vs Q E hr h => ?_)
  · obtain ⟨v, d, H0, rfl, _⟩ := h
    rfl
  · obtain ⟨v, d, H0, rfl, s0, hv, ht, lg, q⟩ := h
    refine ⟨_, pss_cons (ps_if (pt_cmp (pc_isN (pv 0))) (pss_one (ps_ret (pe_lst pa_nil))) pss_nil) (pss_cons ps_dead (pss_cons ps_dead (pss_cons ps_dead (pss_cons ps_dead (pss_one ps_dead))))), ?_⟩
    rcases ht with rfl | ht
    · cases hv
      exact ⟨_, rfl, _, rfl, iteT' (by decide) ⟨Nat.zero_le _, fun p np => q p [] _ (same_upd np) np upd_same .nil⟩⟩
    · cases ht
theorem ok_lci {f : Addr} {fd : FuncData} (F : Fun K "_law_calls_in" "_law_calls_in" sLCI f fd) (bR : Binds K fd ["_law_tree_here"] []) (gR : mg "_law_calls_in" = some (.ref f)) : ∀ n, FnOk P w K mg base CX0 (1 + n) f fd ["_law_tree_here"] (spLX K callsF n)
  | 0 => lci_zero F
  | n + 1 => lci_body F (ok_lci F bR gR n) bR F.kp gR
end
/-! ### the law's calls, trees and statements, drawn -/
theorem lc_data {K : PySem.W.Frag} {p : Addr} {G : PyData → Prop} (gnl : ∀ d, G d → noL d = true) {J : It} {cnt : Nat} {Y : Nat → Hp → V → Hp → Prop} (w : Walk J cnt (fun _ => True) Y) {j : Nat} {te : TE} {vs : List Nat} {σ : L2.St} {H1 : Hp} {D : Addr} {Qd : Hp → Prop} (hz : cnt ≤ 1000)
    (hD : H1 D = none) (hp : PoolAt H1 p) (hw : ∀ x, wipe ((wipe σ vs).set j (some x)) vs = wipe σ vs)
    (he : ∀ i x H H', i < cnt → But p H1 H → PoolAt H p → Y i H x H' → H' = H ∧ ∀ Q : VK, (∀ v d H2, But p H H2 → PoolAt H2 p → Dp K H2 v d → G d → Q v H2) → te ((wipe σ vs).set j (some x)) H Q)
    (hd : ∀ ys ts H, But p H1 H → PoolAt H p → H D = some (.lst ys) → DpAll K H ys ts → ts.length = cnt → (∀ t ∈ ts, G t) → Qd H)  :
    Turns J (upd H1 D (.lst [])) Qd (LcBody D te vs j σ) := by
  have npD : D ≠ p := (hp.ne hD).symm
  refine lc_it w (fun i H => But p H1 H ∧ PoolAt H p ∧ ∃ ys ts, H D = some (.lst ys) ∧ DpAll K H ys ts ∧ ts.length = i ∧ ∀ t ∈ ts, G t) ⟨But.of (same_upd hD), hp.upd hD, [], [], upd_same, .nil, rfl, fun v e => by cases e⟩ (fun i H _ p => True.intro) (fun i x H H' hi q y => ?_) (fun H q => ?_)
  · obtain ⟨s1, h1, ys, ts, e1, ea, el, er⟩ := q
    obtain ⟨rfl, k⟩ := he i x H H' hi s1 h1 y
    refine And.intro (hw x) ?_
    unfold tYes
    refine iteT ?_
    refine k _ fun v d H2 s3 h3 dv gd => ⟨ys, s3 _ _ e1 npD, ?_, fun b o e nb => ?_, ?_, ys ++ [v], ts ++ [d], upd_same, ?_, ?_, fun u hu => ?_⟩
    · exact Nat.lt_of_le_of_lt (show ys.length ≤ 1000 by rw [dpA_len ea]; omega) (by decide)
    · have hb : b ≠ D := ne_of_none e hD
      rw [upd_ne hb]
      exact s3 _ _ (s1 _ _ e nb) nb
    · obtain ⟨x, y, e, r⟩ := h3
      exact ⟨x, y, by rw [upd_ne npD.symm]; exact e, r⟩
    · have nl : noLs ts = true := noLs_of fun t ht => gnl t (er t ht)
      have e2 := s3 _ _ e1 npD
      obtain ⟨px, py, pe, _⟩ := h1
      have a1 : DpAll K H2 ys ts := dpAll_tups (fun _ _ => but_sqT pe s3) ts ys nl ea
      exact dpA_app (dpAll_tups (fun _ _ => but_sqT e2 But.upd) ts ys nl a1) (.cons (dp_tups (fun _ _ => but_sqT e2 But.upd) d v (gnl d gd) dv) .nil)
    · rw [List.length_append, el]
      rfl
    · rcases List.mem_append.mp hu with hu | hu
      · exact er u hu
      · rw [List.mem_singleton.mp hu]
        exact gd
  · obtain ⟨s1, h1, ys, ts, e1, ea, el, er⟩ := q
    exact hd ys ts H s1 h1 e1 ea el er

abbrev sDC : Stmt := topS 76
theorem scDC : FnScope ["_law_pool_here", "_law_b", "_law_f", "_law_at"] ["_law_pool_here", "_law_b"] (defScope sDC) := ⟨rfl, rfl, rfl, by decide +kernel, rfl, by decide +kernel, by decide +kernel⟩
/-- a call of the drawn book -/
def CallOf (L : LB) (c : PyData) : Prop := callB c = true ∧ ∃ z gs m, c = .tuple [.str z, .tuple gs] ∧ (z, m) ∈ L.fns ∧ gs.length = m
def spDC (K : PySem.W.Frag) : Sp := fun vs H Q _ => ∃ (L : LB) (p b : Addr), vs = [.ref p, .ref b] ∧ LOk L ∧ 1 ≤ L.fns.length ∧ PoolAt H p ∧ LBk K L H b ∧ ∀ v c H', But p H H' → PoolAt H' p → Dp K H' v c → CallOf L c → Q v H'
theorem row_given {i : Nat} {v : V} (h : [V.str "x", .str "y", .str "x", .int 0, .int 1, .int 2][i]? = some v) : ∃ d, givenB d = true ∧ ∀ (K : PySem.W.Frag) (H : Hp), Dp K H v d := by
  match i, h with
  | 0, h => cases h; exact ⟨.str "x", by decide +kernel, fun _ _ => .str _⟩
  | 1, h => cases h; exact ⟨.str "y", by decide +kernel, fun _ _ => .str _⟩
  | 2, h => cases h; exact ⟨.str "x", by decide +kernel, fun _ _ => .str _⟩
  | 3, h => cases h; exact ⟨.int 0, by decide +kernel, fun _ _ => .int _⟩
  | 4, h => cases h; exact ⟨.int 1, by decide +kernel, fun _ _ => .int _⟩
  | 5, h => cases h; exact ⟨.int 2, by decide +kernel, fun _ _ => .int _⟩
  | n + 6, h => simp at h
theorem call_mk {z : Str} {as : List PyData} (hz : isName (.str z) = true) (l2 : as.length ≤ 2) (h : ∀ d ∈ as, givenB d = true) : callB (.tuple [.str z, .tuple as]) = true := by
  show (isName (.str z) && (decide (as.length ≤ 2) && as.all givenB)) = true
  rw [hz, decide_eq_true l2, List.all_eq_true.mpr h]
  rfl
section
variable {P : Program} {w : World} {K : PySem.W.Frag} {mg : Str → Option Value} {base : Heap}
theorem ok_dc {f fP : Addr} {fd dP : FuncData} (F : Fun K "_law_draw_call" "_law_draw_call" sDC f fd) (M : Blt mg) (GP : FnOk P w K mg base CX0 2 fP dP ["_law_pool_here", "_law_row"] (spPick K)) (kP : PySem.W.keepIn K (.ref fP) = true) (bP : Binds K dP ["_law_pool_here", "_law_row"] []) (gP : mg "_law_pick" = some (.ref fP)) : FnOk P w K mg base CX0 3 f fd ["_law_pool_here", "_law_b"] (spDC K) := by
  refine F.ok scDC (fun vs H Q E h => ?_) (fun cdv A outer s H vs Q E hr h => ?_)
  · obtain ⟨L, p, b, rfl, _⟩ := h
    rfl
  · obtain ⟨L, p, b, rfl, N, l1, hp, hb, q⟩ := h
    have hu := hu_of hr
    refine ⟨_, pss_cons (ps_set (i := 2) scDC.nd rfl (.inl rfl) (pe_call GP hr (by rfl) gP kP bP .nil pass0 (pa_cons (pv 0) (pa_cons (pe_dget hu (pv 1) pe_str (fun _ _ => rfl)) pa_nil))))
      (pss_one (ps_ret (pe_tup (pa_cons (pe_dget hu (pv 2) pe_str (fun _ _ => rfl)) (pa_cons (pe_callTy call_tuple_of (by rfl) M.tuple (by decide +kernel) (pa_cons
        (pe_lc (own := [("_law_at", 3)]) (g := gName 3) (tt := tYes) (te := tCall (spPick K) [] E0 (tCons (tVar 0) (tCons (tLst (tCons (tC (.str "x")) (tCons (tC (.str "y")) (tCons (tC (.str "x")) (tCons (tC (.int 0)) (tCons (tC (.int 1)) (tCons (tC (.int 2)) tNil))))))) tNil))) (by rfl) scDC.nd (pi_range1 (by rfl) M.range (pa_cons (pe_dget hu (pv 2) pe_str (fun _ _ => rfl)) pa_nil)) (blkOk_by (own := [("_law_at", 3)]) (N := ["_law_pool_here", "_law_b", "_law_f", "_law_at"]) (sc := defScope sDC) (by decide +kernel))
          (fun _ _ _ _ _ => pg_name (i := 3) scDC.nd rfl (Or.inl rfl)) (fun _ _ _ _ _ => pts_nil) (fun _ _ _ _ _ => pe_call GP hr (by rfl) gP kP bP .nil pass0 (pa_cons (pv 0) (pa_cons (pe_lst (pa_cons pe_str (pa_cons pe_str (pa_cons pe_str (pa_cons pe_int (pa_cons pe_int (pa_cons pe_int pa_nil))))))) pa_nil)))) pa_nil)) pa_nil))))), ?_⟩
    obtain ⟨c, f', ts, gs, e0, e1, e4, r1, r2⟩ := id hb
    have npf : p ≠ f' := fun q => by
      obtain ⟨x, y, ep, _⟩ := hp
      rw [← q, ep] at e4
      cases e4
      obtain ⟨d, _, t, _, e, _⟩ := r2.at (i := 0) (by show 0 < 2; decide)
      cases e
    have lg : gs.length = L.fns.length := r2.1
    refine ⟨.ref p, rfl, .ref b, rfl, b, .ref f', rfl, dg e0 "functions" rfl, p, f', gs, rfl, hp, npf, .inl (.inl (.inl e4)), by omega, Nat.le_trans (show gs.length ≤ 8 by have := N.lf; omega) (by decide), fun i hi H4 b4 hp4 fr => ?_⟩
    obtain ⟨⟨nx, cnt⟩, hmem, g, kvs, eg, e3g, kn, km⟩ := r2.at hi
    have e4g : H4 g = some (.dK kvs) := by
      obtain ⟨x, y, ep, _⟩ := hp
      exact b4 _ _ e3g (ne_of e3g ep (fun z => nomatch z))
    have hc := N.f _ hmem
    dsimp only at hc kn km
    rw [eg]
    refine ⟨.ref g, rfl, g, .str nx, rfl, dg e4g "name" kn, .ref g, rfl, g, .int (cnt : Int), rfl, dg e4g "many" km, (cnt : Int), rfl, by omega, by omega, fun D hD => ?_⟩
    refine lc_data (K := K) (G := fun d => givenB d = true) (fun d h => (given_ok h).1) (vs := [3]) (j := 3) (D := D) (p := p) walk_range (by omega) hD hp4 (fun x => rfl)
      (fun i' x H5 H6 hi' b5 hp5 y => ⟨y.1, fun Q2 q2 => ⟨.ref p, rfl, (by show 6 ≤ sizeLine; decide), fun r nr => ?_⟩⟩)
      (fun ys ts H5 b5 hp5 e5' ha el hall => ⟨D, ys, rfl, .inl ⟨.inl (.inl e5'), fun t nt => ⟨(by show 2 ≤ sizeLine; decide), fun t2 nt2 => ?_⟩⟩⟩)
    · have sr := same_upd (o := HO.lst [V.str "x", .str "y", .str "x", .int 0, .int 1, .int 2]) nr
      have hp6 := hp5.upd (o := HO.lst [V.str "x", .str "y", .str "x", .int 0, .int 1, .int 2]) nr
      refine ⟨p, r, _, rfl, hp6, hp5.ne nr, .inl (.inl (.inl upd_same)), by decide, by decide, fun k hk H7 b7 hp7 fr7 => ?_⟩
      obtain ⟨d, gd, hd⟩ := row_given (List.getElem?_eq_getElem hk)
      exact q2 _ d H7 ((But.of sr).trans b7) hp7 (hd K H7) gd
    · have := hc.2
      exact q _ (.tuple [.str nx, .tuple ts]) _ (but_sameN (b4.trans b5) ((same_upd nt).trans (same_upd nt2))) ((hp5.upd nt).upd nt2) (dpT nt2 (.cons (.str _) (.cons (dpT nt ha) .nil))) ⟨call_mk hc.1 (by rw [el]; omega) hall, nx, ts, cnt, rfl, hmem, by rw [el]; exact Int.toNat_natCast cnt⟩
end
/-! ### drawn trees -/
structure LT (G : PyData → Prop) (f n s : Nat) (d : PyData) : Prop where
  tr : treeB f d = true
  cn : (callsF f d).length = n
  sz : sizeF f d ≤ s
  cl : ∀ c ∈ callsF f d, G c
theorem callsF_le {f g : Nat} (h : f ≤ g) {d : PyData} (t : treeB f d = true) : callsF g d = callsF f d := by
  induction h with
  | refl => rfl
  | step h ih => rw [calls_fix _ (treeB_le h t), ih]
theorem sizeF_le {f g : Nat} (h : f ≤ g) {d : PyData} (t : treeB f d = true) : sizeF g d = sizeF f d := by
  induction h with
  | refl => rfl
  | step h ih => rw [size_fix _ (treeB_le h t), ih]
theorem LT.up {G : PyData → Prop} {f n s g t : Nat} {d : PyData} (h : LT G f n s d) (k : f ≤ g) (l : s ≤ t) : LT G g n t d where
  tr := treeB_le k h.tr
  cn := by rw [callsF_le k h.tr]; exact h.cn
  sz := by rw [sizeF_le k h.tr]; exact Nat.le_trans h.sz l
  cl := by rw [callsF_le k h.tr]; exact h.cl
theorem LT.leaf {G : PyData → Prop} {c : PyData} {u : Int} (hc : callB c = true) (hG : G c) (h0 : 0 ≤ u) (h3 : u < 3) : LT G 1 1 1 (.tuple [.str "is", c, .int u]) where
  tr := by
    show (callB c && isValue (.int u)) = true
    have : isValue (.int u) = true := by
      show (decide (0 ≤ u) && decide (u < 3)) = true
      rw [decide_eq_true h0, decide_eq_true h3]
      rfl
    rw [hc, this]
    rfl
  cn := rfl
  sz := Nat.le_refl _
  cl := fun e m => by
    rw [List.mem_singleton.mp (show e ∈ [c] from m)]
    exact hG
theorem LT.not {G : PyData → Prop} {f n s : Nat} {d : PyData} (h : LT G f n s d) : LT G (f + 1) n (s + 1) (.tuple [.str "not", d]) where
  cl := fun e m => by
    have m2 : e ∈ [d].flatMap (callsF f) := m
    rw [List.flatMap_singleton] at m2
    exact h.cl e m2
  tr := h.tr
  cn := by
    show ([d].flatMap (callsF f)).length = n
    rw [List.flatMap_singleton]
    exact h.cn
  sz := by
    show 1 + ([d].map (sizeF f)).sum ≤ s + 1
    have := h.sz
    simp only [List.map_cons, List.map_nil, List.sum_cons, List.sum_nil]
    omega
theorem LT.row {G : PyData → Prop} {f n s : Nat} {w : Str} {ts : List PyData} (hG : ∀ t ∈ ts, ∀ c ∈ callsF f t, G c) (hw : w = "and" ∨ w = "or") (l1 : 1 ≤ ts.length) (l8 : ts.length ≤ 8) (ht : ∀ t ∈ ts, treeB f t = true) (hc : (ts.flatMap (callsF f)).length = n) (hs : (ts.map (sizeF f)).sum ≤ s) : LT G (f + 1) n (s + 1) (.tuple [.str w, .tuple ts]) where
  cl := fun e m => by
    have m2 : e ∈ (branchesD (.tuple [.str w, .tuple ts])).flatMap (callsF f) := m
    rw [br_row hw] at m2
    obtain ⟨t, mt, me⟩ := List.mem_flatMap.mp m2
    exact hG t mt e me
  tr := by
    rw [treeB_eq, if_neg (not_w hw).1, if_neg (not_w hw).2, if_pos hw]
    show (decide (1 ≤ ts.length) && (decide (ts.length ≤ 8) && ts.all (treeB f))) = true
    rw [decide_eq_true l1, decide_eq_true l8, List.all_eq_true.mpr ht]
    rfl
  cn := by
    show ((branchesD (.tuple [.str w, .tuple ts])).flatMap (callsF f)).length = n
    rw [br_row hw]
    exact hc
  sz := by
    show 1 + ((branchesD (.tuple [.str w, .tuple ts])).map (sizeF f)).sum ≤ s + 1
    rw [br_row hw]
    omega
theorem LT.pair {G : PyData → Prop} {f a b s t : Nat} {w : Str} {d e : PyData} (hw : w = "and" ∨ w = "or") (h : LT G f a s d) (k : LT G f b t e) : LT G (f + 1) (a + b) (s + t + 1) (.tuple [.str w, .tuple [d, e]]) := by
  have hG : ∀ u ∈ [d, e], ∀ c ∈ callsF f u, G c := fun u m => by
    simp only [List.mem_cons, List.not_mem_nil, or_false] at m
    rcases m with rfl | rfl
    · exact h.cl
    · exact k.cl
  refine LT.row hG hw (by show 1 ≤ 2; decide) (by show 2 ≤ 8; decide) (fun u m => ?_) ?_ ?_
  · simp only [List.mem_cons, List.not_mem_nil, or_false] at m
    rcases m with rfl | rfl
    · exact h.tr
    · exact k.tr
  · rw [List.flatMap_cons, List.flatMap_singleton, List.length_append, h.cn, k.cn]
  · simp only [List.map_cons, List.map_nil, List.sum_cons, List.sum_nil]
    have := h.sz
    have := k.sz
    omega
theorem ones {G : PyData → Prop} {f s : Nat} : ∀ {ts : List PyData}, (∀ t ∈ ts, LT G f 1 s t) → (ts.flatMap (callsF f)).length = ts.length ∧ (ts.map (sizeF f)).sum ≤ ts.length * s
  | [], _ => ⟨rfl, Nat.zero_le _⟩
  | t :: ts, h => by
    obtain ⟨k1, k2⟩ := ones fun u m => h u (List.mem_cons_of_mem _ m)
    have h0 := h t List.mem_cons_self
    have := h0.sz
    refine ⟨?_, ?_⟩
    · rw [List.flatMap_cons, List.length_append, h0.cn, k1, List.length_cons]
      omega
    · rw [List.map_cons, List.sum_cons, List.length_cons, Nat.succ_mul]
      omega
abbrev TD (n : Nat) (d : PyData) : Prop := LT (fun _ => True) (2 * n) n (4 * n - 2) d
abbrev TDL (L : LB) (n : Nat) (d : PyData) : Prop := LT (CallOf L) (2 * n) n (4 * n - 2) d
theorem TDL.td {L : LB} {n : Nat} {d : PyData} (h : TDL L n d) : TD n d := ⟨h.tr, h.cn, h.sz, fun _ _ => True.intro⟩
theorem td_nl {G : PyData → Prop} {f n s : Nat} {d : PyData} (h : LT G f n s d) : noL d = true := (tree_ok _ h.tr).1
abbrev sLTr : Stmt := topS 77
theorem scLTr : FnScope ["_law_pool_here", "_law_b", "_law_many", "_law_leaf", "_law_first", "_law_found", "_law_at"] ["_law_pool_here", "_law_b", "_law_many"] (defScope sLTr) := ⟨rfl, rfl, rfl, by decide +kernel, rfl, by decide +kernel, by decide +kernel⟩
def spLT (K : PySem.W.Frag) (m : Nat) : Sp := fun vs H Q _ => ∃ (L : LB) (p b : Addr) (n : Nat), vs = [.ref p, .ref b, .int (n : Nat)] ∧ LOk L ∧ 1 ≤ L.fns.length ∧ PoolAt H p ∧ LBk K L H b ∧ 1 ≤ n ∧ n ≤ m ∧ n ≤ 4 ∧ ∀ v d H', But p H H' → PoolAt H' p → Dp K H' v d → TDL L n d → Q v H'
theorem row_word {i : Nat} {v : V} (h : [V.str "and", .str "or"][i]? = some v) : ∃ z : Str, (z = "and" ∨ z = "or") ∧ v = .str z := by
  match i, h with
  | 0, h => cases h; exact ⟨_, .inl rfl, rfl⟩
  | 1, h => cases h; exact ⟨_, .inr rfl, rfl⟩
  | n + 2, h => simp at h
section
variable {P : Program} {w : World} {K : PySem.W.Frag} {mg : Str → Option Value} {base : Heap}
theorem lt_body {m : Nat} {f fR fD fP fC : Addr} {fd dR dD dP dC : FuncData} (F : Fun K "_law_tree" "_law_tree" sLTr f fd) (M : Blt mg) (GR : FnOk P w K mg base CX0 (m + 3) fR dR ["_law_pool_here", "_law_b", "_law_many"] (spLT K m)) (kR : PySem.W.keepIn K (.ref fR) = true) (bR : Binds K dR ["_law_pool_here", "_law_b", "_law_many"] []) (gR : mg "_law_tree" = some (.ref fR))
    (GD : FnOk P w K mg base CX0 1 fD dD ["_law_pool_here", "_law_many"] spDraw) (kD : PySem.W.keepIn K (.ref fD) = true) (bD : Binds K dD ["_law_pool_here", "_law_many"] []) (gD : mg "_law_draw" = some (.ref fD))
    (GP : FnOk P w K mg base CX0 2 fP dP ["_law_pool_here", "_law_row"] (spPick K)) (kP : PySem.W.keepIn K (.ref fP) = true) (bP : Binds K dP ["_law_pool_here", "_law_row"] []) (gP : mg "_law_pick" = some (.ref fP))
    (GC : FnOk P w K mg base CX0 3 fC dC ["_law_pool_here", "_law_b"] (spDC K)) (kC : PySem.W.keepIn K (.ref fC) = true) (bC : Binds K dC ["_law_pool_here", "_law_b"] []) (gC : mg "_law_draw_call" = some (.ref fC)) :
    FnOk P w K mg base CX0 (m + 4) f fd ["_law_pool_here", "_law_b", "_law_many"] (spLT K (m + 1)) := by
  refine F.ok scLTr (fun vs H Q E h => ?_) (fun cdv A outer s H vs Q E hr h => ?_)
  · obtain ⟨L, p, b, n, rfl, _⟩ := h
    rfl
  · obtain ⟨L, p, b, n, rfl, N, l1, hp, hb, n1, nm, n4, q⟩ := h
    have hr1 : Room 1 (A.deeper (envOfC "_law_tree" (defScope sLTr) s.heap.objs.size f cdv)) := hr.mono (by omega)
    have hr2 : Room 2 (A.deeper (envOfC "_law_tree" (defScope sLTr) s.heap.objs.size f cdv)) := hr.mono (by omega)
    have hr3 : Room 3 (A.deeper (envOfC "_law_tree" (defScope sLTr) s.heap.objs.size f cdv)) := hr.mono (by omega)
    refine ⟨_, pss_cons (ps_if (pt_cmpR op_eq (pv 2) pe_int (nomark _))
        (pss_cons (ps_set (i := 3) scLTr.nd rfl (.inl rfl) (pe_tup (pa_cons pe_str (pa_cons (pe_call GC hr3 (by rfl) gC kC bC .nil pass0 (pa_cons (pv 0) (pa_cons (pv 1) pa_nil))) (pa_cons (pe_call GD hr1 (by rfl) gD kD bD .nil pass0 (pa_cons (pv 0) (pa_cons pe_int pa_nil))) pa_nil)))))
          (pss_one (ps_ret (pe_ifExp (pt_cmpR op_eq (pe_call GD hr1 (by rfl) gD kD bD .nil pass0 (pa_cons (pv 0) (pa_cons pe_int pa_nil))) pe_int (nomark _)) (pe_tup (pa_cons pe_str (pa_cons (pv 3) pa_nil))) (pv 3))))) pss_nil)
      (pss_cons (ps_if (PW.pt (pw_and (pt_cmpR op_gt (pv 2) pe_int (nomark _)) (pw_and1 (pt_cmpR op_eq (pe_call GD hr1 (by rfl) gD kD bD .nil pass0 (pa_cons (pv 0) (pa_cons pe_int pa_nil))) pe_int (nomark _)))))
        (pss_one (ps_ret (pe_tup (pa_cons (pe_call GP hr2 (by rfl) gP kP bP .nil pass0 (pa_cons (pv 0) (pa_cons (pe_lst (pa_cons pe_str (pa_cons pe_str pa_nil))) pa_nil))) (pa_cons (pe_callTy call_tuple_of (by rfl) M.tuple (by decide +kernel) (pa_cons
          (pe_lc (own := [("_law_at", 6)]) (g := gName 6) (tt := tYes) (te := tCall (spLT K m) [] E0 (tCons (tVar 0) (tCons (tVar 1) (tCons (tC (.int 1)) tNil)))) (by rfl) scLTr.nd (pi_range1 (by rfl) M.range (pa_cons (pv 2) pa_nil)) (blkOk_by (own := [("_law_at", 6)]) (N := ["_law_pool_here", "_law_b", "_law_many", "_law_leaf", "_law_first", "_law_found", "_law_at"]) (sc := defScope sLTr) (by decide +kernel))
            (fun _ _ _ _ _ => pg_name (i := 6) scLTr.nd rfl (Or.inl rfl)) (fun _ _ _ _ _ => pts_nil) (fun _ _ _ _ _ => pe_call GR hr (by rfl) gR kR bR .nil pass0 (pa_cons (pv 0) (pa_cons (pv 1) (pa_cons pe_int pa_nil))))) pa_nil)) pa_nil))))) pss_nil)
      (pss_cons (ps_set (i := 4) scLTr.nd rfl (.inl rfl) (pe_op op_add pe_int (pe_call GD hr1 (by rfl) gD kD bD .nil pass0 (pa_cons (pv 0) (pa_cons (pe_op op_sub (pv 2) pe_int) pa_nil)))))
      (pss_cons (ps_set (i := 5) scLTr.nd rfl (.inl rfl) (pe_tup (pa_cons (pe_call GP hr2 (by rfl) gP kP bP .nil pass0 (pa_cons (pv 0) (pa_cons (pe_lst (pa_cons pe_str (pa_cons pe_str pa_nil))) pa_nil))) (pa_cons (pe_tup (pa_cons (pe_call GR hr (by rfl) gR kR bR .nil pass0 (pa_cons (pv 0) (pa_cons (pv 1) (pa_cons (pv 4) pa_nil)))) (pa_cons (pe_call GR hr (by rfl) gR kR bR .nil pass0 (pa_cons (pv 0) (pa_cons (pv 1) (pa_cons (pe_op op_sub (pv 2) (pv 4)) pa_nil)))) pa_nil))) pa_nil))))
      (pss_one (ps_ret (pe_ifExp (PW.pt (pw_and (pt_cmpR op_lt (pv 2) pe_int (nomark _)) (pw_and1 (pt_cmpR op_eq (pe_call GD hr1 (by rfl) gD kD bD .nil pass0 (pa_cons (pv 0) (pa_cons pe_int pa_nil))) pe_int (nomark _))))) (pe_tup (pa_cons pe_str (pa_cons (pv 5) pa_nil))) (pv 5))))))), ?_⟩
    refine ⟨_, rfl, rfl, _, rfl, ?_⟩
    rw [dint]
    by_cases hn : n = 1
    · subst hn
      refine iteT' (decide_eq_true rfl) ?_
      refine ⟨.ref p, rfl, .ref b, rfl, L, p, b, rfl, N, l1, hp, hb, fun v c H1 b1 hp1 dv hc => ⟨.ref p, rfl, p, 3, rfl, hp1, by decide, by decide, fun u H2 u0 u3 b2 hp2 fr2 => ⟨(by show 3 ≤ sizeLine; decide), fun t nt => ?_⟩⟩⟩
      have hl : Dp K (upd H2 t (.tup [.str "is", v, .int u])) (.ref t) (.tuple [.str "is", c, .int u]) := dpT nt (.cons (.str _) (.cons (dp_but hp1 b2 (call_ok hc.1).1 dv) (.cons (.int u) .nil)))
      have b3 : But p H (upd H2 t (.tup [.str "is", v, .int u])) := but_sameN (b1.trans b2) (same_upd nt)
      have hp3 : PoolAt (upd H2 t (.tup [.str "is", v, .int u])) p := hp2.upd nt
      have leaf := LT.leaf (G := CallOf L) hc.1 hc u0 u3
      have nl : noL (.tuple [.str "is", c, .int u]) = true := (tree_ok _ leaf.tr).1
      generalize upd H2 t (.tup [.str "is", v, .int u]) = H3 at hl b3 hp3 ⊢
      dsimp only [gName]
      refine ⟨.ref p, rfl, p, 4, rfl, hp3, by decide, by decide, fun k H4 k0 k4 b4 hp4 fr4 => ⟨rfl, _, rfl, ?_⟩⟩
      have hl4 := dp_but hp3 b4 nl hl
      by_cases hk : V.int k = V.int 0
      · refine iteT' (decide_eq_true hk) ⟨_, rfl, (by show 2 ≤ sizeLine; decide), fun t2 nt2 => ?_⟩
        exact q _ (.tuple [.str "not", .tuple [.str "is", c, .int u]]) _ (but_sameN (b3.trans b4) (same_upd nt2)) (hp4.upd nt2) (dpT nt2 (.cons (.str _) (.cons hl4 .nil))) (leaf.not.up (by decide) (by decide))
      · exact iteF' (decide_eq_false hk) ⟨_, rfl, q _ _ _ (b3.trans b4) hp4 hl4 (leaf.up (by decide) (by decide))⟩
    · refine iteF' (decide_eq_false (by omega)) ?_
      dsimp only [tNext]
      have n2 : 2 ≤ n := by omega
      -- the last part, after the row was not drawn
      have tail : ∀ (H1 : Hp), But p H H1 → PoolAt H1 p → ∀ (D : Ends) (tz : TS), True := fun _ _ _ _ _ => trivial
      refine q_if ?_
      have c0 : ∀ R : Bool → Hp → Prop, (∀ H1, But p H H1 → PoolAt H1 p → R false H1) → (3 ≤ n → ∀ H1, But p H H1 → PoolAt H1 p → R true H1) → (tAnd (tTest (tOp (rI0 fun i j => V.bl (decide (j < i))) (tVar 2) (tC (V.int 2)))) (tTest (tOp rEq (tCall spDraw [] E0 (tCons (tVar 0) (tCons (tC (V.int 3)) tNil))) (tC (V.int 0))))) (L2.start ["_law_pool_here", "_law_b", "_law_many", "_law_leaf", "_law_first", "_law_found", "_law_at"] [.ref p, .ref b, .int (n : Nat)]) H R := fun R rF rT => by
        refine ⟨_, rfl, _, _, rfl, rfl, _, rfl, ?_⟩
        by_cases h3 : 3 ≤ n
        · refine iteT' (decide_eq_true (by omega)) ⟨.ref p, rfl, p, 3, rfl, hp, by decide, by decide, fun k H1 k0 k3 b1 hp1 fr1 => ⟨rfl, _, rfl, ?_⟩⟩
          by_cases hk : V.int k = V.int 0
          · rw [decide_eq_true hk]
            exact rT h3 H1 b1 hp1
          · rw [decide_eq_false hk]
            exact rF H1 b1 hp1
        · exact iteF' (decide_eq_false (by omega)) (rF H (But.refl p H) hp)
      refine c0 _ (fun H1 b1 hp1 => iteF ?_) (fun h3 H1 b1 hp1 => iteT ?_)
      · dsimp only [tNext]
        refine ⟨.ref p, rfl, _, rfl, _, _, rfl, rfl, p, (n : Int) - 1, rfl, hp1, by omega, by omega, fun k H2 k0 kn b2 hp2 fr2 => ⟨_, _, rfl, rfl, ?_⟩⟩
        obtain ⟨a, ea⟩ : ∃ a : Nat, (1 : Int) + k = (a : Nat) := ⟨(1 + k).toNat, by omega⟩
        obtain ⟨b', eb⟩ : ∃ b' : Nat, (n : Int) - (a : Nat) = (b' : Nat) := ⟨((n : Int) - (a : Nat)).toNat, by omega⟩
        have eab : a + b' = n := by omega
        dsimp only [gName]
        rw [ea]
        refine ⟨.ref p, rfl, (by show 2 ≤ sizeLine; decide), fun r nr => ?_⟩
        have sr := same_upd (o := HO.lst [V.str "and", .str "or"]) nr
        have hp3 := hp2.upd (o := HO.lst [V.str "and", .str "or"]) nr
        refine ⟨p, r, _, rfl, hp3, hp2.ne nr, .inl (.inl (.inl upd_same)), by decide, by decide, fun i hi H4 b4 hp4 fr4 => ?_⟩
        obtain ⟨z, hz, ez⟩ := row_word (List.getElem?_eq_getElem hi)
        rw [ez]
        have t4 : But p H H4 := (but_sameN (b1.trans b2) sr).trans b4
        refine ⟨.ref p, rfl, .ref b, rfl, _, rfl, L, p, b, a, rfl, N, l1, hp4, hb.but hp t4, by omega, by omega, by omega, fun v1 d1 H5 b5 hp5 dv1 td1 => ?_⟩
        refine ⟨.ref p, rfl, .ref b, rfl, _, rfl, _, rfl, _, _, rfl, rfl, L, p, b, b', congrArg (fun x => [V.ref p, V.ref b, V.int x]) eb, N, l1, hp5, hb.but hp (t4.trans b5), by omega, by omega, by omega, fun v2 d2 H6 b6 hp6 dv2 td2 => ?_⟩
        refine ⟨(by show 2 ≤ sizeLine; decide), fun t1 nt1 => ⟨(by show 2 ≤ sizeLine; decide), fun t2 nt2 => ?_⟩⟩
        have hin : Dp K (upd H6 t1 (.tup [v1, v2])) (.ref t1) (.tuple [d1, d2]) := dpT nt1 (.cons (dp_but hp5 b6 (td_nl td1) dv1) (.cons dv2 .nil))
        have hout : Dp K (upd (upd H6 t1 (.tup [v1, v2])) t2 (.tup [.str z, .ref t1])) (.ref t2) (.tuple [.str z, .tuple [d1, d2]]) := dpT nt2 (.cons (.str _) (.cons hin .nil))
        have t7 : But p H (upd (upd H6 t1 (.tup [v1, v2])) t2 (.tup [.str z, .ref t1])) := but_sameN ((t4.trans b5).trans b6) ((same_upd nt1).trans (same_upd nt2))
        have hp7 : PoolAt (upd (upd H6 t1 (.tup [v1, v2])) t2 (.tup [.str z, .ref t1])) p := (hp6.upd nt1).upd nt2
        generalize upd (upd H6 t1 (.tup [v1, v2])) t2 (.tup [.str z, .ref t1]) = H7 at hout t7 hp7 ⊢
        have both : LT (CallOf L) (2 * n - 2 + 1) (a + b') ((4 * a - 2) + (4 * b' - 2) + 1) (.tuple [.str z, .tuple [d1, d2]]) := LT.pair hz (td1.up (by omega) (Nat.le_refl _)) (td2.up (by omega) (Nat.le_refl _))
        rw [eab] at both
        have nl := (tree_ok _ both.tr).1
        dsimp only [gName]
        have c1 : ∀ R : Bool → Hp → Prop, (∀ H1, But p H7 H1 → PoolAt H1 p → R false H1) → (∀ H1, But p H7 H1 → PoolAt H1 p → R true H1) → (tAnd (tTest (tOp (rI0 fun i j => V.bl (decide (i < j))) (tVar 2) (tC (V.int 3)))) (tTest (tOp rEq (tCall spDraw [] E0 (tCons (tVar 0) (tCons (tC (V.int 5)) tNil))) (tC (V.int 0))))) (((L2.start ["_law_pool_here", "_law_b", "_law_many", "_law_leaf", "_law_first", "_law_found", "_law_at"] [.ref p, .ref b, .int (n : Nat)]).set 4 (some (.int (a : Nat)))).set 5 (some (.ref t2))) H7 R := fun R rF rT => by
          refine ⟨_, rfl, _, _, rfl, rfl, _, rfl, ?_⟩
          by_cases h3 : n < 3
          · refine iteT' (decide_eq_true (by omega)) ⟨.ref p, rfl, p, 5, rfl, hp7, by decide, by decide, fun k H1 k0 k3 b1 hp1 fr1 => ⟨rfl, _, rfl, ?_⟩⟩
            by_cases hk : V.int k = V.int 0
            · rw [decide_eq_true hk]
              exact rT H1 b1 hp1
            · rw [decide_eq_false hk]
              exact rF H1 b1 hp1
          · exact iteF' (decide_eq_false (by omega)) (rF H7 (But.refl p H7) hp7)
        refine c1 _ (fun H8 b8 hp8 => iteF ?_) (fun H8 b8 hp8 => iteT ?_)
        · exact ⟨_, rfl, q _ _ _ (t7.trans b8) hp8 (dp_but hp7 b8 nl hout) (both.up (by omega) (by omega))⟩
        · refine ⟨_, rfl, (by show 2 ≤ sizeLine; decide), fun t3 nt3 => ?_⟩
          exact q _ (.tuple [.str "not", .tuple [.str z, .tuple [d1, d2]]]) _ (but_sameN (t7.trans b8) (same_upd nt3)) (hp8.upd nt3) (dpT nt3 (.cons (.str _) (.cons (dp_but hp7 b8 nl hout) .nil))) (both.not.up (by omega) (by omega))
      · refine ⟨.ref p, rfl, (by show 2 ≤ sizeLine; decide), fun r nr => ?_⟩
        have sr := same_upd (o := HO.lst [V.str "and", .str "or"]) nr
        have hp3 := hp1.upd (o := HO.lst [V.str "and", .str "or"]) nr
        refine ⟨p, r, _, rfl, hp3, hp1.ne nr, .inl (.inl (.inl upd_same)), by decide, by decide, fun i hi H4 b4 hp4 fr4 => ?_⟩
        obtain ⟨z, hz, ez⟩ := row_word (List.getElem?_eq_getElem hi)
        rw [ez]
        have t4 : But p H H4 := (but_sameN b1 sr).trans b4
        refine ⟨_, rfl, (n : Int), rfl, by omega, by omega, fun D hD => ?_⟩
        refine lc_data (K := K) (G := TDL L 1) (fun d h => td_nl h) (vs := [6]) (j := 6) (D := D) (p := p) walk_range (by omega) hD hp4 (fun x => rfl)
          (fun i' x H5 H6 hi' b5 hp5 y => ⟨y.1, fun Q2 q2 => ⟨.ref p, rfl, .ref b, rfl, L, p, b, 1, rfl, N, l1, hp5, hb.but hp (t4.trans b5), by omega, by omega, by omega, fun v d H7 b7 hp7 dv gd => q2 v d H7 b7 hp7 dv gd⟩⟩)
          (fun ys ts H5 b5 hp5 e5' ha el hall => ⟨D, ys, rfl, .inl ⟨.inl (.inl e5'), fun t nt => ⟨(by show 2 ≤ sizeLine; decide), fun t2 nt2 => ?_⟩⟩⟩)
        have el2 : ts.length = n := by rw [el]; exact Int.toNat_natCast n
        obtain ⟨k1, k2⟩ := ones hall
        refine q _ (.tuple [.str z, .tuple ts]) _ (but_sameN (t4.trans b5) ((same_upd nt).trans (same_upd nt2))) ((hp5.upd nt).upd nt2) (dpT nt2 (.cons (.str _) (.cons (dpT nt ha) .nil))) ?_
        have r1 : LT (CallOf L) (2 * 1 + 1) n (n * 2 + 1) (.tuple [.str z, .tuple ts]) := LT.row (fun t m => (hall t m).cl) hz (by omega) (by omega) (fun t m => (hall t m).tr) (by rw [k1, el2]) (by rw [el2] at k2; exact k2)
        exact r1.up (by omega) (by omega)
theorem lt_zero {f : Addr} {fd : FuncData} (F : Fun K "_law_tree" "_law_tree" sLTr f fd) : FnOk P w K mg base CX0 (0 + 3) f fd ["_law_pool_here", "_law_b", "_law_many"] (spLT K 0) := by
  refine F.ok scLTr (fun vs H Q E h => ?_) (fun cdv A outer s H vs Q E hr h => ?_)
  · obtain ⟨L, p, b, n, rfl, _⟩ := h
    rfl
  · obtain ⟨L, p, b, n, rfl, N, l1, hp, hb, n1, nm, _⟩ := h
    omega
theorem ok_lt {f fD fP fC : Addr} {fd dD dP dC : FuncData} (F : Fun K "_law_tree" "_law_tree" sLTr f fd) (M : Blt mg) (bR : Binds K fd ["_law_pool_here", "_law_b", "_law_many"] []) (gR : mg "_law_tree" = some (.ref f))
    (GD : FnOk P w K mg base CX0 1 fD dD ["_law_pool_here", "_law_many"] spDraw) (kD : PySem.W.keepIn K (.ref fD) = true) (bD : Binds K dD ["_law_pool_here", "_law_many"] []) (gD : mg "_law_draw" = some (.ref fD))
    (GP : FnOk P w K mg base CX0 2 fP dP ["_law_pool_here", "_law_row"] (spPick K)) (kP : PySem.W.keepIn K (.ref fP) = true) (bP : Binds K dP ["_law_pool_here", "_law_row"] []) (gP : mg "_law_pick" = some (.ref fP))
    (GC : FnOk P w K mg base CX0 3 fC dC ["_law_pool_here", "_law_b"] (spDC K)) (kC : PySem.W.keepIn K (.ref fC) = true) (bC : Binds K dC ["_law_pool_here", "_law_b"] []) (gC : mg "_law_draw_call" = some (.ref fC)) :
    ∀ m, FnOk P w K mg base CX0 (m + 3) f fd ["_law_pool_here", "_law_b", "_law_many"] (spLT K m)
  | 0 => lt_zero F
  | m + 1 => lt_body F M (ok_lt F M bR gR GD kD bD gD GP kP bP gP GC kC bC gC m) F.kp bR gR GD kD bD gD GP kP bP gP GC kC bC gC
end
/-! ### a Statement made: what is given -/
theorem made_same9 {H : Hp} {x dx C : Addr} (nx : H x = none) (nd : H dx = none) : Same H (upd (upd H dx (.own x)) x (.ins C dx [])) := fun b o e => by
  rw [upd_ne (ne_of_none e nx), upd_ne (ne_of_none e nd)]
  exact e
structure StMk (P : Program) (w : World) (K : PySem.W.Frag) (mg : Str → Option Value) (base : Heap) (CS f : Addr) (fd : FuncData) (R : SEr) : Prop where
  make : Mk K CS f
  ok : FnOk P w K mg base (L2.CX P w) 14 f fd ["self", "condition", "outputs"] (spStI K CS R)
  gC : mg "Statement" = some (.ref CS)
  bi : Binds K fd ["self", "condition", "outputs"] []
theorem EWish.same {H H1 : Hp} {C : Addr} {f : Str} {v : V} {E : XK} (h : EWish H C f v E) (s : Same H H1) : EWish H1 C f v E := fun H2 dd H' s' l => h H2 dd H' (s.trans s') l
theorem st_wish {K : PySem.W.Frag} {CS : Addr} {R : SEr} {H : Hp} {x dx : Addr} {vc vo : V} {dc dO : PyData} {Q : VK} {E : XK} (nx : H x = none) (nd : H dx = none) (hc : Dp K H vc dc) (ho : Dp K H vo dO) (ok : InOk dc dO)
    (wish : SWish H R vc E (∀ H', Same H H' → StAt K H' CS x dc (itemsD dO) → Q (.ref x) H') (stOut dc dO)) : spStI K CS R [.ref x, vc, vo] (upd (upd H dx (.own x)) x (.ins CS dx [])) (fun v H2 => v = .non ∧ Q (.ref x) H2) E := by
  have ms := made_same9 (C := CS) nx nd
  refine ⟨x, dx, vc, vo, dc, dO, H, rfl, upd_same, ms, nx, hc, ho, ok, ?_⟩
  cases h : stOut dc dO with
  | none =>
    rw [h] at wish
    exact fun H' s hS => ⟨rfl, wish H' s hS⟩
  | some r =>
    rw [h] at wish
    cases r with
    | tree => exact EWish.same wish ms
    | out i => exact EWish.same wish ms
    | many => exact EWish.same wish ms
theorem noTree_of {dc : PyData} (h : CondOk dc) : noTree dc = false := by
  rcases h with rfl | ⟨h, _⟩
  · rfl
  · have h : treeB 8 dc = true := h
    cases dc with
    | none => rfl
    | tuple ds =>
      show (!treeB 8 (.tuple ds)) = false
      rw [h]
      rfl
    | _ => cases h
theorem stOut_ok {dc dO : PyData} (h : CondOk dc) (hs : isSeq dO = true) (ok : ∀ d ∈ itemsD dO, outB d = true) (l : (allCalls dc (itemsD dO)).length ≤ 8) : stOut dc dO = none := by
  unfold stOut
  rw [if_neg (by rw [noTree_of h]; decide), if_neg (by rw [hs]; decide), badO_ok ok]
  exact if_neg (by omega)
theorem stOut_many {dc dO : PyData} (h : CondOk dc) (hs : isSeq dO = true) (ok : ∀ d ∈ itemsD dO, outB d = true) (l : 8 < (allCalls dc (itemsD dO)).length) : stOut dc dO = some .many := by
  unfold stOut
  rw [if_neg (by rw [noTree_of h]; decide), if_neg (by rw [hs]; decide), badO_ok ok]
  exact if_pos l
theorem stOut_out {dc dO : PyData} {i : Nat} (h : CondOk dc) (hs : isSeq dO = true) (b : badO 0 (itemsD dO) = some i) : stOut dc dO = some (.out (some i)) := by
  unfold stOut
  rw [if_neg (by rw [noTree_of h]; decide), if_neg (by rw [hs]; decide), b]
theorem stOut_noseq {dc dO : PyData} (h : CondOk dc) (hs : isSeq dO = false) : stOut dc dO = some (.out none) := by
  unfold stOut
  rw [if_neg (by rw [noTree_of h]; decide), if_pos hs]
theorem stOut_tree {dc dO : PyData} (h : noTree dc = true) : stOut dc dO = some .tree := if_pos h
theorem cond_tr {dc : PyData} (h : CondOk dc) (l : (callsF 8 dc).length ≤ 8) : treeB 8 dc = true → sizeF 8 dc ≤ 1000 ∧ (callsF 8 dc).length ≤ 8 := fun t => by
  rcases h with rfl | ⟨_, z⟩
  · cases t
  · exact ⟨z, l⟩
theorem sz_listof {ds : List PyData} (l : ds.length ≤ 1000) (h : szDs ds = true) : szD (.list ds) = true ∧ szD (.tuple ds) = true := by
  have z : (decide (ds.length ≤ 1000) && szDs ds) = true := by
    rw [decide_eq_true l, h]
    rfl
  exact ⟨z, z⟩
theorem outs_snoc {ods : List PyData} {c : PyData} {b : Bool} (h : OutsOk ods) (hc : callB c = true) : OutsOk (ods ++ [.tuple [c, .bool b]]) where
  ok := fun d m => by
    rcases List.mem_append.mp m with m | m
    · exact h.ok d m
    · rw [List.mem_singleton.mp m]
      exact hc
  sz := szDs_of9 fun d m => by
    rcases List.mem_append.mp m with m | m
    · exact (out_ok (h.ok d m)).2.2.2
    · rw [List.mem_singleton.mp m]
      exact (out_ok (d := .tuple [c, .bool b]) hc).2.2.2
abbrev sStW : Stmt := inClass (topS 46) 8
theorem scStW : FnScope ["self", "call", "shown"] ["self", "call", "shown"] (defScope sStW) := ⟨rfl, rfl, rfl, by decide +kernel, rfl, by decide +kernel, by decide +kernel⟩
def spStW (K : PySem.W.Frag) (CS : Addr) (R : SEr) : Sp := fun vs H Q E => ∃ (a : Addr) (v1 v2 : V) (c e dc : PyData) (ods : List PyData) (i : Nat), vs = [.ref a, v1, v2] ∧ StAt K H CS a dc ods ∧ Dp K H v1 c ∧ Dp K H v2 e ∧ szD c = true ∧ szD e = true ∧ badO 0 (ods ++ [.tuple [c, e]]) = some i ∧ EWish H R.O "index" (.int (i : Nat)) E
section
variable {P : Program} {w : World} {K : PySem.W.Frag} {mg : Str → Option Value} {base : Heap}
theorem ok_stW {CS f fI : Addr} {R : SEr} {fd dI : FuncData} (F : Fun K "with_output" "Statement.with_output" sStW f fd) (SC : StC K CS) (SM : StMk P w K mg base CS fI dI R) : FnOk P w K mg base (L2.CX P w) 16 f fd ["self", "call", "shown"] (spStW K CS R) := by
  refine F.okX scStW (fun vs H Q E h => ?_) (fun cdv A outer s H vs Q E hr h => ?_)
  · obtain ⟨a, v1, v2, c, e, dc, ods, i, rfl, _⟩ := h
    rfl
  · obtain ⟨a, vv1, vv2, c, e, dc, ods, i, rfl, ⟨dx, v1, t, ta, tc, us, as, cs, ea, h1, h2, h3, h4, h5, h6, h7, kc, ko, l8⟩, hv1, hv2, zc, ze, hb, wish⟩ := h
    refine ⟨_, pss_one (ps_ret (pe_make (E := E) (dvs := []) SM.make SM.ok hr (by rfl) SM.gC SM.bi .nil (passes_call (takes_of rfl rfl rfl rfl) (fun _ _ _ _ h => h)) (pa_cons (pe_fld (pv 0) (by rfl)) (pa_cons (pe_op op_catA (pe_fld (pv 0) (by rfl)) (pe_tup (pa_cons (pe_tup (pa_cons (pv 1) (pa_cons (pv 2) pa_nil))) pa_nil))) pa_nil)))), ?_⟩
    have hlen : ods.length ≤ 8 := by
      unfold allCalls at l8
      rw [List.length_append, List.length_map] at l8
      omega
    have lcc : (callsF 8 dc).length ≤ 8 := by
      unfold allCalls condCalls at l8
      rw [List.length_append] at l8
      omega
    have fin : ∀ (o : Addr) (H1 : Hp) (ys : List V), Same H H1 → SqT K H1 o ys → DpAll K H1 ys (ods ++ [.tuple [c, e]]) → ∀ x d, H1 x = none → H1 d = none → spStI K CS R [.ref x, v1, .ref o] (upd (upd H1 d (.own x)) x (.ins CS d [])) (fun v H2 => v = .non ∧ Q (.ref x) H2) E := fun o H1 ys s1 ho hy x d nx nd => by
      have zt : szD (.tuple [c, e]) = true := sz_tupof (by show 2 ≤ 1000; decide) fun u m => by
        simp only [List.mem_cons, List.not_mem_nil, or_false] at m
        rcases m with rfl | rfl
        · exact zc
        · exact ze
      have zs : szDs (ods ++ [.tuple [c, e]]) = true := szDs_of9 fun u m => by
        rcases List.mem_append.mp m with m | m
        · exact (out_ok (ko.ok u m)).2.2.2
        · rw [List.mem_singleton.mp m]
          exact zt
      have ll : (ods ++ [PyData.tuple [c, e]]).length ≤ 9 := by
        rw [List.length_append]
        exact Nat.succ_le_succ hlen
      refine st_wish (Q := Q) nx nd (dp_same s1 h1) (.tup ho hy) ⟨(cond_ok kc).2.2, (sz_listof (by omega) zs).2, (by show (ods ++ [PyData.tuple [c, e]]).length ≤ 20; omega), cond_tr kc lcc⟩ ?_
      rw [stOut_out (dO := PyData.tuple (ods ++ [PyData.tuple [c, e]])) kc rfl hb]
      exact EWish.same wish s1
    refine ⟨_, rfl, a, CS, dx, _, _, rfl, ea, SC.cl, SC.n1, rfl, _, rfl, a, CS, dx, _, _, rfl, ea, SC.cl, SC.n2, rfl, vv1, rfl, vv2, rfl, (by show 2 ≤ sizeLine; decide), fun p np => ?_⟩
    have sp := same_upd (o := HO.tup [vv1, vv2]) np
    have ep : (upd H p (.tup [vv1, vv2])) p = some (.tup [vv1, vv2]) := upd_same
    generalize upd H p (.tup [vv1, vv2]) = H1 at sp ep ⊢
    refine ⟨(by show 1 ≤ sizeLine; decide), fun p2 np2 => ?_⟩
    have sp2 := same_upd (o := HO.tup [V.ref p]) np2
    have ep2 : (upd H1 p2 (.tup [V.ref p])) p2 = some (.tup [V.ref p]) := upd_same
    generalize upd H1 p2 (.tup [V.ref p]) = H2 at sp2 ep2 ⊢
    have t2 := sp.trans sp2
    have hnew : ∀ {H3 : Hp}, Same H2 H3 → Dp K H3 (.ref p) (.tuple [c, e]) := fun s3 => .tup (.inl (.inl (s3 _ _ (sp2 _ _ ep)))) (.cons (dp_same (t2.trans s3) hv1) (.cons (dp_same (t2.trans s3) hv2) .nil))
    have lu : us.length ≤ 8 := by
      rw [dpA_len h3]
      exact hlen
    refine ⟨t, p2, us, [.ref p], rfl, rfl, same_sqT t2 h2, .inl (.inl ep2), Nat.le_trans (show us.length + 1 ≤ 9 by omega) (by decide), fun e0 => ?_, fun _ e1 => absurd e1 (List.cons_ne_nil _ _), fun _ _ p3 np3 => ?_⟩
    · subst e0
      cases h3
      exact fun x d nx nd _ => fin p2 H2 [.ref p] t2 (.inl (.inl ep2)) (.cons (hnew (Same.refl _)) .nil) x d nx nd
    · have s3 := same_upd (o := HO.tup (us ++ [V.ref p])) np3
      exact fun x d nx nd _ => fin p3 _ (us ++ [.ref p]) (t2.trans s3) (.inl (.inl upd_same)) (dpA_app (dpA_same (t2.trans s3) h3) (.cons (hnew s3) .nil)) x d nx nd
end
/-! ### drawn statements -/
/-- the law's statement stands at g -/
def LSt (K : PySem.W.Frag) (H : Hp) (g : Addr) (dc : PyData) (ods : List PyData) : Prop := ∃ (vc : V) (t : Addr) (us : List V), H g = some (.dK [(.inr "filter", vc), (.inr "outputs", .ref t)]) ∧ Dp K H vc dc ∧ SqT K H t us ∧ DpAll K H us ods
/-- what is known of a drawn statement -/
structure LSok (dc : PyData) (ods : List PyData) : Prop where
  c : dc = .none ∨ ∃ n, 1 ≤ n ∧ n ≤ 3 ∧ TD n dc
  o : OutsOk ods
  lo : ods.length ≤ 2
theorem LSok.cond {dc : PyData} {ods : List PyData} (h : LSok dc ods) : CondOk dc ∧ (callsF 8 dc).length ≤ 3 := by
  rcases h.c with rfl | ⟨n, n1, n3, td⟩
  · exact ⟨.inl rfl, Nat.zero_le _⟩
  · have k := td.up (show 2 * n ≤ 8 by omega) (show 4 * n - 2 ≤ 1000 by omega)
    exact ⟨.inr ⟨k.tr, k.sz⟩, by rw [k.cn]; exact n3⟩
theorem LSok.len {dc : PyData} {ods : List PyData} (h : LSok dc ods) : (allCalls dc ods).length ≤ 5 := by
  unfold allCalls condCalls
  rw [List.length_append, List.length_map]
  have := h.cond.2
  have := h.lo
  omega
theorem LSt.same {K : PySem.W.Frag} {H H' : Hp} {g : Addr} {dc : PyData} {ods : List PyData} (h : LSt K H g dc ods) (s : Same H H') : LSt K H' g dc ods := by
  obtain ⟨vc, t, us, e, h1, h2, h3⟩ := h
  exact ⟨vc, t, us, s _ _ e, dp_same s h1, same_sqT s h2, dpA_same s h3⟩
/-- what stays when one list is written -/
theorem LSt.list {K : PySem.W.Frag} {H H' : Hp} {g p : Addr} {xs : List V} {dc : PyData} {ods : List PyData} (h : LSt K H g dc ods) (ok : LSok dc ods) (e : H p = some (.lst xs)) (b : But p H H') : LSt K H' g dc ods := by
  obtain ⟨vc, t, us, e0, h1, h2, h3⟩ := h
  have k := fun (a : Addr) (ys : List V) (h : SqT K H a ys) => but_sqT e b h
  exact ⟨vc, t, us, b _ _ e0 (ne_of e0 e (fun z => nomatch z)), dp_tups k _ _ (cond_ok ok.cond.1).1 h1, k _ _ h2, dpAll_tups k _ _ (outs_ok ok.o).1 h3⟩
theorem LSt.but {K : PySem.W.Frag} {H H' : Hp} {g p : Addr} {dc : PyData} {ods : List PyData} (h : LSt K H g dc ods) (ok : LSok dc ods) (hp : PoolAt H p) (b : But p H H') : LSt K H' g dc ods := by
  obtain ⟨x, y, e, _⟩ := hp
  exact h.list ok e b
/-- all calls are of the drawn book -/
def LOf (L : LB) (dc : PyData) (ods : List PyData) : Prop := (∀ c ∈ condCalls dc, CallOf L c) ∧ ∀ d ∈ ods, CallOf L (fstD d)
theorem okc_of {L : LB} {dc : PyData} (h : dc = .none ∨ ∃ n, 1 ≤ n ∧ n ≤ 3 ∧ TDL L n dc) : (dc = .none ∨ ∃ n, 1 ≤ n ∧ n ≤ 3 ∧ TD n dc) ∧ ∀ c ∈ condCalls dc, CallOf L c := by
  rcases h with rfl | ⟨n, n1, n3, td⟩
  · exact ⟨.inl rfl, fun c m => by cases m⟩
  · exact ⟨.inr ⟨n, n1, n3, td.td⟩, (td.up (show 2 * n ≤ 8 by omega) (Nat.le_refl _)).cl⟩
abbrev sLS : Stmt := topS 78
theorem scLS : FnScope ["_law_pool_here", "_law_b", "_law_most", "_law_many", "_law_st", "_law_at"] ["_law_pool_here", "_law_b", "_law_most"] (defScope sLS) := ⟨rfl, rfl, rfl, by decide +kernel, rfl, by decide +kernel, by decide +kernel⟩
def spLS (K : PySem.W.Frag) : Sp := fun vs H Q _ => ∃ (L : LB) (p b : Addr) (n : Nat), vs = [.ref p, .ref b, .int (n : Nat)] ∧ LOk L ∧ 1 ≤ L.fns.length ∧ PoolAt H p ∧ LBk K L H b ∧ n ≤ 3 ∧ ∀ g dc ods H', But p H H' → PoolAt H' p → H g = none → LSt K H' g dc ods → LSok dc ods → LOf L dc ods → Q (.ref g) H'
section
variable {P : Program} {w : World} {K : PySem.W.Frag} {mg : Str → Option Value} {base : Heap}
theorem ok_ls {f fR fD fC : Addr} {fd dR dD dC : FuncData} (F : Fun K "_law_statement" "_law_statement" sLS f fd) (M : Blt mg) (GR : FnOk P w K mg base CX0 6 fR dR ["_law_pool_here", "_law_b", "_law_many"] (spLT K 3)) (kR : PySem.W.keepIn K (.ref fR) = true) (bR : Binds K dR ["_law_pool_here", "_law_b", "_law_many"] []) (gR : mg "_law_tree" = some (.ref fR))
    (GD : FnOk P w K mg base CX0 1 fD dD ["_law_pool_here", "_law_many"] spDraw) (kD : PySem.W.keepIn K (.ref fD) = true) (bD : Binds K dD ["_law_pool_here", "_law_many"] []) (gD : mg "_law_draw" = some (.ref fD))
    (GC : FnOk P w K mg base CX0 3 fC dC ["_law_pool_here", "_law_b"] (spDC K)) (kC : PySem.W.keepIn K (.ref fC) = true) (bC : Binds K dC ["_law_pool_here", "_law_b"] []) (gC : mg "_law_draw_call" = some (.ref fC)) :
    FnOk P w K mg base CX0 7 f fd ["_law_pool_here", "_law_b", "_law_most"] (spLS K) := by
  refine F.ok scLS (fun vs H Q E h => ?_) (fun cdv A outer s H vs Q E hr h => ?_)
  · obtain ⟨L, p, b, n, rfl, _⟩ := h
    rfl
  · obtain ⟨L, p, b, n, rfl, N, l1, hp, hb, n3, q⟩ := h
    have hu := hu_of hr
    have hr1 : Room 1 (A.deeper (envOfC "_law_statement" (defScope sLS) s.heap.objs.size f cdv)) := hr.mono (by omega)
    have hr3 : Room 3 (A.deeper (envOfC "_law_statement" (defScope sLS) s.heap.objs.size f cdv)) := hr.mono (by omega)
    refine ⟨_, pss_cons (ps_set (i := 3) scLS.nd rfl (.inl rfl) (pe_call GD hr1 (by rfl) gD kD bD .nil pass0 (pa_cons (pv 0) (pa_cons (pe_op op_add (pv 2) pe_int) pa_nil))))
      (pss_cons (ps_set (i := 4) scLS.nd rfl (.inl rfl) (pe_disp (pps_cons pe_str (pe_ifExp (pt_cmpR op_eq (pv 3) pe_int (nomark _)) pe_non (pe_call GR hr (by rfl) gR kR bR .nil pass0 (pa_cons (pv 0) (pa_cons (pv 1) (pa_cons (pv 3) pa_nil))))) (pps_cons pe_str (pe_tup pa_nil) pps_nil)) (by rfl) (by rfl) (by simp) (by decide)))
      (pss_cons (ps_for PassesOwn.never rfl (pi_range1 (by rfl) M.range (pa_cons (pe_call GD hr1 (by rfl) gD kD bD .nil pass0 (pa_cons (pv 0) (pa_cons pe_int pa_nil))) pa_nil)) (pg_name (i := 5) scLS.nd rfl (.inl rfl))
        (pss_one (ps_dput hu (pv 4) pe_str (pe_op op_catA (pe_dget hu (pv 4) pe_str (fun _ _ => rfl)) (pe_tup (pa_cons (pe_tup (pa_cons (pe_call GC hr3 (by rfl) gC kC bC .nil pass0 (pa_cons (pv 0) (pa_cons (pv 1) pa_nil))) (pa_cons (pe_cmpR op_gt (pe_call GD hr1 (by rfl) gD kD bD .nil pass0 (pa_cons (pv 0) (pa_cons pe_int pa_nil))) pe_int (nomark _)) pa_nil))) pa_nil))) (by rfl))))
      (pss_one (ps_ret (pv 4))))), ?_⟩
    refine ⟨.ref p, rfl, _, rfl, _, _, rfl, rfl, p, (n : Int) + 1, rfl, hp, by omega, by omega, fun k H1 k0 kn b1 hp1 fr1 => ?_⟩
    obtain ⟨m, rfl⟩ : ∃ m : Nat, k = (m : Nat) := ⟨k.toNat, by omega⟩
    dsimp only [gName]
    intro g ng
    have npg : p ≠ g := hp1.ne ng
    have ngH : H g = none := by
      cases h : H g with
      | none => rfl
      | some o =>
        have := b1 _ _ h npg.symm
        rw [ng] at this
        cases this
    have sg := same_upd (o := HO.dK []) ng
    have eg : (upd H1 g (.dK [])) g = some (.dK []) := upd_same
    have hp2 := hp1.upd (o := HO.dK []) ng
    have b2 : But p H (upd H1 g (.dK [])) := but_sameN b1 sg
    generalize upd H1 g (.dK []) = H2 at eg hp2 b2 ⊢
    have filt : ∀ R : VK, (∀ v dc H3, But p H2 H3 → PoolAt H3 p → Dp K H3 v dc → (dc = .none ∨ ∃ n, 1 ≤ n ∧ n ≤ 3 ∧ TDL L n dc) → R v H3) → tIf (tTest (tOp rEq (tVar 3) (tC (V.int 0)))) (tC V.non) (tCall (spLT K 3) [] E0 (tCons (tVar 0) (tCons (tVar 1) (tCons (tVar 3) tNil)))) ((L2.start ["_law_pool_here", "_law_b", "_law_most", "_law_many", "_law_st", "_law_at"] [.ref p, .ref b, .int (n : Nat)]).set 3 (some (.int (m : Nat)))) H2 R := fun R r => by
      refine ⟨_, rfl, rfl, _, rfl, ?_⟩
      by_cases hm : m = 0
      · subst hm
        exact iteT' (by decide) (r _ _ H2 (But.refl p H2) hp2 .non (.inl rfl))
      · refine iteF' (by rw [dint]; exact decide_eq_false (by omega)) ⟨.ref p, rfl, .ref b, rfl, _, rfl, L, p, b, m, rfl, N, l1, hp2, hb.but hp b2, by omega, by omega, by omega, fun v d H3 b3 hp3 dv td => r v d H3 b3 hp3 dv (.inr ⟨m, by omega, by omega, td⟩)⟩
    refine filt _ fun vc dc H3 b3 hp3 dv okc => ?_
    refine ⟨Nat.zero_le _, fun t nt => ?_⟩
    have st := same_upd (o := HO.tup []) nt
    have npg' : g ≠ p := npg.symm
    have eg3 := st _ _ (b3 _ _ eg npg')
    have hp4 := hp3.upd (o := HO.tup []) nt
    have et : (upd H3 t (.tup [])) t = some (.tup []) := upd_same
    have b4 : But p H (upd H3 t (.tup [])) := but_sameN (b2.trans b3) st
    have dv4 := dp_same st dv
    generalize upd H3 t (.tup []) = H4 at eg3 hp4 et b4 dv4 ⊢
    refine ⟨eg3, [(.inr "filter", vc), (.inr "outputs", .ref t)], rfl, (by show 2 ≤ 15; decide), ?_⟩
    have nlc : noL dc = true := by
      rcases okc with rfl | ⟨n, _, _, td⟩
      · rfl
      · exact td_nl td
    have kd : ∀ a xs, SqT K H4 a xs → SqT K (upd H4 g (.dK (mergeK [] [(.inr "filter", vc), (.inr "outputs", .ref t)]))) a xs := fun a xs h => sqT_dk eg3 But.upd h
    have ls5 : LSt K (upd H4 g (.dK (mergeK [] [(.inr "filter", vc), (.inr "outputs", .ref t)]))) g dc [] := ⟨vc, t, [], upd_same, dp_tups kd _ _ nlc dv4, kd _ _ (.inl (.inl et)), .nil⟩
    have b5 : But p H (upd H4 g (.dK (mergeK [] [(.inr "filter", vc), (.inr "outputs", .ref t)]))) := but_new b4 ngH
    have hp5 := pool_ne (o := .dK (mergeK [] [(.inr "filter", vc), (.inr "outputs", .ref t)])) hp4 npg
    generalize upd H4 g (.dK (mergeK [] [(.inr "filter", vc), (.inr "outputs", .ref t)])) = H5 at ls5 b5 hp5 ⊢
    dsimp only [gName, List.set]
    refine ⟨.ref p, rfl, p, 3, rfl, hp5, by omega, by omega, fun k H6 k0 k4 b6 hp6 fr6 => ⟨k, rfl, by omega, by omega, ?_⟩⟩
    have ls0 : LSok dc [] := ⟨(okc_of okc).1, ⟨(fun d m => by cases m), rfl⟩, Nat.zero_le _⟩
    refine for_range (lo := 0) (n := k.toNat) (fun j σ H' => ∃ z5, σ = [some (.ref p), some (.ref b), some (.int (n : Nat)), some (.int (m : Nat)), some (.ref g), z5] ∧ But p H H' ∧ PoolAt H' p ∧ ∃ ods, LSt K H' g dc ods ∧ OutsOk ods ∧ ods.length = j ∧ ∀ d ∈ ods, CallOf L (fstD d))
      ⟨_, rfl, b5.trans b6, hp6, [], ls5.but ls0 hp5 b6, ls0.o, rfl, fun d m => by cases m⟩ (fun j σ G hj hW => ?_) (fun σ G hW => ?_)
    · obtain ⟨z5, rfl, bG, hpG, ods, lsG, okG, lj, clG⟩ := hW
      obtain ⟨vc', t', us, eG, d1, h2, h3⟩ := id lsG
      have j2 : j < 2 := by omega
      have lsok : LSok dc ods := ⟨(okc_of okc).1, okG, by omega⟩
      refine ⟨.ref g, rfl, g, .ref t', rfl, dg eG "outputs" rfl, ?_⟩
      refine ⟨.ref p, rfl, .ref b, rfl, L, p, b, rfl, N, l1, hpG, hb.but hp bG, fun v c H7 b7 hp7 dvc hc => ?_⟩
      refine ⟨.ref p, rfl, p, 3, rfl, hp7, by decide, by decide, fun i H8 i0 i3 b8 hp8 fr8 => ⟨_, _, rfl, rfl, ?_⟩⟩
      have ls8 := (lsG.but lsok hpG b7).but lsok hp7 b8
      obtain ⟨vc8, t8, us8, e8, d8, h28, h38⟩ := id ls8
      have same8 : (V.ref t' : V) = .ref t8 := by
        have := b8 _ _ (b7 _ _ eG npg') npg'
        rw [e8] at this
        injection this with this
        injection this with this
        injection this with _ this
        injection this with this _
        injection this with _ this
        exact this.symm
      cases same8
      have dc8 := dp_but hp7 b8 (call_ok hc.1).1 dvc
      refine ⟨(by show 2 ≤ sizeLine; decide), fun t1 nt1 => ⟨(by show 1 ≤ sizeLine; decide), fun t2 nt2 => ?_⟩⟩
      have s1 := same_upd (o := HO.tup [v, .bl (decide (0 < i))]) nt1
      have e1 : (upd H8 t1 (.tup [v, .bl (decide (0 < i))])) t1 = some (.tup [v, .bl (decide (0 < i))]) := upd_same
      have hp9 := hp8.upd (o := HO.tup [v, .bl (decide (0 < i))]) nt1
      generalize upd H8 t1 (.tup [v, .bl (decide (0 < i))]) = H9 at s1 e1 hp9 nt2 ⊢
      have s2 := same_upd (o := HO.tup [V.ref t1]) nt2
      have e2 : (upd H9 t2 (.tup [V.ref t1])) t2 = some (.tup [V.ref t1]) := upd_same
      have hp10 := hp9.upd (o := HO.tup [V.ref t1]) nt2
      generalize upd H9 t2 (.tup [V.ref t1]) = H10 at s2 e2 hp10 ⊢
      have s12 := s1.trans s2
      have b10 : But p H H10 := but_sameN ((bG.trans b7).trans b8) s12
      have hnew : Dp K H10 (.ref t1) (.tuple [c, .bool (decide (0 < i))]) := .tup (.inl (.inl (s2 _ _ e1))) (.cons (dp_same s12 dc8) (.cons (.bl _) .nil))
      have okN : OutsOk (ods ++ [.tuple [c, .bool (decide (0 < i))]]) := outs_snoc okG hc.1
      have fin : ∀ (o : Addr) (ys : List V) (H11 : Hp), Same H10 H11 → PoolAt H11 p → SqT K H11 o ys → DpAll K H11 ys (ods ++ [.tuple [c, .bool (decide (0 < i))]]) →
          ∃ z5, [some (V.ref p), some (.ref b), some (.int (n : Nat)), some (.int (m : Nat)), some (.ref g), some (.int (0 + (j : Int)))] = [some (.ref p), some (.ref b), some (.int (n : Nat)), some (.int (m : Nat)), some (.ref g), z5] ∧ But p H (upd H11 g (.dK (putK [(.inr "filter", vc8), (.inr "outputs", .ref t')] (.inr "outputs" : Key) (.ref o)))) ∧ PoolAt (upd H11 g (.dK (putK [(.inr "filter", vc8), (.inr "outputs", .ref t')] (.inr "outputs" : Key) (.ref o)))) p ∧ ∃ ods2, LSt K (upd H11 g (.dK (putK [(.inr "filter", vc8), (.inr "outputs", .ref t')] (.inr "outputs" : Key) (.ref o)))) g dc ods2 ∧ OutsOk ods2 ∧ ods2.length = j + 1 ∧ ∀ d ∈ ods2, CallOf L (fstD d) := fun o ys H11 s11 hp11 ho hys => by
        have e11 := s11 _ _ (s12 _ _ e8)
        have k11 : ∀ a xs, SqT K H11 a xs → SqT K (upd H11 g (.dK (putK [(.inr "filter", vc8), (.inr "outputs", .ref t')] (.inr "outputs" : Key) (.ref o)))) a xs := fun a xs h => sqT_dk e11 But.upd h
        refine ⟨_, rfl, but_new (but_sameN b10 s11) ngH, pool_ne hp11 npg, ods ++ [.tuple [c, .bool (decide (0 < i))]], ⟨vc8, o, ys, upd_same, dp_tups k11 _ _ nlc (dp_same (s12.trans s11) d8), k11 _ _ ho, dpAll_tups k11 _ _ (outs_ok okN).1 hys⟩, okN, by rw [List.length_append, lj]; rfl, fun d m => by
          rcases List.mem_append.mp m with m | m
          · exact clG d m
          · rw [List.mem_singleton.mp m]
            exact hc⟩
      have lu : us8.length ≤ 2 := by rw [dpA_len h38]; omega
      refine ⟨t', t2, us8, [.ref t1], rfl, rfl, same_sqT s12 h28, .inl (.inl e2), Nat.le_trans (show us8.length + 1 ≤ 9 by omega) (by decide), fun e0 => ?_, fun _ e1 => absurd e1 (List.cons_ne_nil _ _), fun _ _ p3 np3 => ?_⟩
      · subst e0
        have ho : ods = [] := List.length_eq_zero_iff.mp (dpA_len h38).symm
        refine ⟨.ref g, rfl, g, _, rfl, .inl ⟨_, .inr "outputs", s12 _ _ e8, rfl, (by show 2 < sizeLine; decide), rfl⟩, ?_⟩
        refine fin t2 [.ref t1] H10 (Same.refl _) hp10 (.inl (.inl e2)) ?_
        rw [ho]
        exact .cons hnew .nil
      · have s3 := same_upd (o := HO.tup (us8 ++ [V.ref t1])) np3
        refine ⟨.ref g, rfl, g, _, rfl, .inl ⟨_, .inr "outputs", s3 _ _ (s12 _ _ e8), rfl, (by show 2 < sizeLine; decide), rfl⟩, ?_⟩
        exact fin p3 (us8 ++ [.ref t1]) _ s3 (hp10.upd np3) (.inl (.inl upd_same)) (dpA_app (dpA_same (s12.trans s3) h38) (.cons (dp_same s3 hnew) .nil))
    · obtain ⟨z5, rfl, bG, hpG, ods, lsG, okG, lj, clG⟩ := hW
      exact ⟨.ref g, rfl, q g dc ods G bG hpG ngH lsG ⟨(okc_of okc).1, okG, by omega⟩ ⟨(okc_of okc).2, clG⟩⟩
end
/-! ### the law's calls of a statement; a statement made; values put in -/
abbrev sLA : Stmt := topS 75
theorem scLA : FnScope ["_law_st", "_law_row"] ["_law_st"] (defScope sLA) := ⟨rfl, rfl, rfl, by decide +kernel, rfl, by decide +kernel, by decide +kernel⟩
abbrev sLMS : Stmt := topS 79
theorem scLMS : FnScope ["_law_st"] ["_law_st"] (defScope sLMS) := ⟨rfl, rfl, rfl, by decide +kernel, rfl, by decide +kernel, by decide +kernel⟩
def spLA (K : PySem.W.Frag) : Sp := fun vs H Q _ => ∃ (g : Addr) (dc : PyData) (ods : List PyData), vs = [.ref g] ∧ LSt K H g dc ods ∧ LSok dc ods ∧ ∀ p xs H', Same H H' → H p = none → H' p = some (.lst xs) → DpAll K H xs (allCalls dc ods) → Q (.ref p) H'
def spLMS (K : PySem.W.Frag) (CS : Addr) : Sp := fun vs H Q _ => ∃ (g : Addr) (dc : PyData) (ods : List PyData), vs = [.ref g] ∧ LSt K H g dc ods ∧ LSok dc ods ∧ ∀ b H', Same H H' → StAt K H' CS b dc ods → Q (.ref b) H'
section
variable {P : Program} {w : World} {K : PySem.W.Frag} {mg : Str → Option Value} {base : Heap}
theorem ok_la {f fI : Addr} {fd dI : FuncData} (F : Fun K "_law_all_calls" "_law_all_calls" sLA f fd) (M : Blt mg) (GI : FnOk P w K mg base CX0 (1 + 8) fI dI ["_law_tree_here"] (spLX K callsF 8)) (kI : PySem.W.keepIn K (.ref fI) = true) (bI : Binds K dI ["_law_tree_here"] []) (gI : mg "_law_calls_in" = some (.ref fI)) : FnOk P w K mg base CX0 10 f fd ["_law_st"] (spLA K) := by
  refine F.ok scLA (fun vs H Q E h => ?_) (fun cdv A outer s H vs Q E hr h => ?_)
  · obtain ⟨g, dc, ods, rfl, _⟩ := h
    rfl
  · obtain ⟨g, dc, ods, rfl, ls, ok, q⟩ := h
    obtain ⟨vc, t, us, e, h1, h2, h3⟩ := id ls
    have hu := hu_of hr
    refine ⟨_, pss_one (ps_ret (pe_op op_cat (pe_call GI hr (by rfl) gI kI bI .nil pass0 (pa_cons (pe_dget hu (pv 0) pe_str (fun _ _ => rfl)) pa_nil))
      (pe_lc (own := [("_law_row", 1)]) (g := gName 1) (wi := iTup K (tDGet (tVar 0) (tC (.str "outputs")))) (tt := tYes) (te := tOp (rIxT K) (tVar 1) (tC (.int 0))) (by rfl) scLA.nd (pi_tup (pe_dget hu (pv 0) pe_str (fun _ _ => rfl))) (blkOk_by (own := [("_law_row", 1)]) (N := ["_law_st", "_law_row"]) (sc := defScope sLA) (by decide +kernel))
        (fun _ _ _ _ _ => pg_name (i := 1) scLA.nd rfl (Or.inl rfl)) (fun _ _ _ _ _ => pts_nil) (fun _ _ _ _ _ => pe_ix ix_tup (pv 1) pe_int (fun _ _ => rfl))))), ?_⟩
    have hc8 : dc = .none ∨ treeB 8 dc = true := by
      rcases ok.cond.1 with h | ⟨h, _⟩
      · exact .inl h
      · exact .inr h
    have l3 := ok.cond.2
    refine ⟨.ref g, rfl, g, vc, rfl, dg e "filter" rfl, vc, dc, H, rfl, Same.refl H, h1, hc8, by omega, fun l xs H1 s1 nl el hxs => ?_⟩
    refine ⟨.ref g, rfl, g, .ref t, rfl, dg (s1 _ _ e) "outputs" rfl, t, rfl, ⟨_, same_sqT s1 h2⟩, fun D nD => ?_⟩
    refine walk_gen (walk_tup (K := K) (a := t) (xs := us)) (fun n H2 => Same H1 H2 ∧ ∃ acc, H2 D = some (.lst acc) ∧ DpAll K H acc ((ods.take n).map fstD)) ⟨same_upd nD, [], upd_same, .nil⟩ (fun _ H' _ p => same_sqT (s1.trans p.1) h2) (fun n x H2 H3 hi p y => ?_) (fun H2 p => ?_)
    · obtain ⟨s2, acc, eD, ha⟩ := p
      obtain ⟨rfl, hx⟩ := y
      obtain ⟨d, hdi, hv⟩ := dpA_at h3 hx
      obtain ⟨c, b, rfl, hc⟩ := outB_at (ok.o.ok d (List.mem_of_getElem? hdi))
      cases hv with
      | @tup ea ys _ hs ha2 =>
      obtain ⟨x1, x2, rfl, k1, k2⟩ := dp_pair ha2
      refine ⟨rfl, ?_⟩
      unfold tYes
      refine iteT ⟨_, rfl, ea, _, 0, x1, rfl, rfl, same_sqT (s1.trans s2) hs, atI_nat (j := 0) rfl, acc, eD, ?_, same_updN s2 nD, _, upd_same, ?_⟩
      · rw [dpA_len ha, List.length_map, List.length_take]
        exact Nat.lt_of_le_of_lt (show _ ≤ 2 by have := ok.lo; omega) (by decide)
      · rw [take_snoc hdi, List.map_append]
        exact dpA_app ha (.cons k1 .nil)
    · obtain ⟨s2, acc, eD, ha⟩ := p
      rw [dpA_len h3, List.take_length] at ha
      refine ⟨l, D, xs, acc, rfl, rfl, s2 _ _ el, eD, ?_, fun p np => ?_⟩
      · rw [dpA_len hxs, dpA_len ha, List.length_map]
        exact Nat.le_trans (show _ ≤ 5 by have := ok.lo; omega) (by decide)
      · exact q p (xs ++ acc) _ ((s1.trans s2).trans (same_upd np)) ((s1.trans s2).free np) upd_same (dpA_app hxs ha)
theorem ok_lms {CS f fI : Addr} {R : SEr} {fd dI : FuncData} (F : Fun K "_law_made_statement" "_law_made_statement" sLMS f fd) (SM : StMk P w K mg base CS fI dI R) : FnOk P w K mg base CX0 16 f fd ["_law_st"] (spLMS K CS) := by
  refine F.ok scLMS (fun vs H Q E h => ?_) (fun cdv A outer s H vs Q E hr h => ?_)
  · obtain ⟨g, dc, ods, rfl, _⟩ := h
    rfl
  · obtain ⟨g, dc, ods, rfl, ⟨vc, t, us, e, h1, h2, h3⟩, ok, q⟩ := h
    have hu := hu_of hr
    refine ⟨_, pss_one (ps_ret (pe_make (E := E0) (dvs := []) SM.make SM.ok hr (by rfl) SM.gC SM.bi .nil pass00 (pa_cons (pe_dget hu (pv 0) pe_str (fun _ _ => rfl)) (pa_cons (pe_dget hu (pv 0) pe_str (fun _ _ => rfl)) pa_nil)))), ?_⟩
    refine ⟨.ref g, rfl, g, vc, rfl, dg e "filter" rfl, .ref g, rfl, g, .ref t, rfl, dg e "outputs" rfl, fun x dx nx nd _ => ?_⟩
    have l5 := ok.len
    refine st_wish (Q := Q) nx nd h1 (.tup h2 h3) ⟨(cond_ok ok.cond.1).2.2, (sz_listof (by have := ok.lo; omega) ok.o.sz).2, (by have := ok.lo; show ods.length ≤ 20; omega), cond_tr ok.cond.1 (by have := ok.cond.2; omega)⟩ ?_
    rw [stOut_ok (dO := .tuple ods) ok.cond.1 rfl ok.o.ok (by show (allCalls dc ods).length ≤ 8; omega)]
    exact fun H' s' hS => q x H' s' hS
end
/-! ### what the law is told -/
structure Shown (d : PyData) : Prop where
  sh : d.showable = true
  nd : d.hasDict = false
  dp : d.depth ≤ 60
  sz : d.shown.length ≤ sizeLine
abbrev sRef : Stmt := topS 80
theorem scRef : FnScope ["_law_tree_here", "_law_outs", "e"] ["_law_tree_here", "_law_outs"] (defScope sRef) := ⟨rfl, rfl, rfl, by decide +kernel, rfl, by decide +kernel, by decide +kernel⟩
abbrev sLFits : Stmt := topS 81
theorem scLFits : FnScope ["_law_wanted", "_law_book_here", "_law_told", "e"] ["_law_wanted", "_law_book_here"] (defScope sLFits) := ⟨rfl, rfl, rfl, by decide +kernel, rfl, by decide +kernel, by decide +kernel⟩
abbrev sMore : Stmt := topS 82
theorem scMore : FnScope ["_law_wanted", "_law_call", "_law_shown", "_law_told", "e"] ["_law_wanted", "_law_call", "_law_shown"] (defScope sMore) := ⟨rfl, rfl, rfl, by decide +kernel, rfl, by decide +kernel, by decide +kernel⟩
def toldS (dc : PyData) : Option SErr → List V
  | none => []
  | some .tree => [.str "tree", .str dc.shown]
  | some (.out i) => [.str "output", idxO i]
  | some .many => [.str "many", .int 8]
def toldK : Option Nat → List V
  | none => []
  | some i => [.str "call", .int (i : Nat)]
def spRef (K : PySem.W.Frag) : Sp := fun vs H Q _ => ∃ (vc vo : V) (dc dO : PyData), vs = [vc, vo] ∧ Dp K H vc dc ∧ Dp K H vo dO ∧ InOk dc dO ∧ (stOut dc dO = some .tree → Shown dc) ∧ ∀ l H', Same H H' → H' l = some (.lst (toldS dc (stOut dc dO))) → Q (.ref l) H'
def spLFits (K : PySem.W.Frag) (CS CK C CF CL : Addr) : Sp := fun vs H Q _ => ∃ (a bb : Addr) (dc : PyData) (ods : List PyData) (cells : List (Str × Str)) (fs : List FX), vs = [.ref a, .ref bb] ∧ StAt K H CS a dc ods ∧ BookAt K H CK C CF CL bb cells fs ∧ ∀ l H', Same H H' → H' l = some (.lst (toldK (badK fs 0 (allCalls dc ods)))) → Q (.ref l) H'
def spMore (K : PySem.W.Frag) (CS : Addr) : Sp := fun vs H Q _ => ∃ (a : Addr) (v1 v2 : V) (c e dc : PyData) (ods : List PyData) (i : Nat), vs = [.ref a, v1, v2] ∧ StAt K H CS a dc ods ∧ Dp K H v1 c ∧ Dp K H v2 e ∧ szD c = true ∧ szD e = true ∧ badO 0 (ods ++ [.tuple [c, e]]) = some i ∧ ∀ l H', Same H H' → H' l = some (.lst [.str "output", .int (i : Nat)]) → Q (.ref l) H'
structure ErrX24 (K : PySem.W.Frag) (mg : Str → Option Value) (R : SEr) (B : Addr) : Prop where
  gT : mg "BadTree" = some (.ref R.T)
  gO : mg "BadOutput" = some (.ref R.O)
  gM : mg "TooMany" = some (.ref R.M)
  gB : mg "BadCall" = some (.ref B)
  xT : XfC K R.T
  xO : XfC K R.O
  xM : XfC K R.M
  xB : XfC K B
  nT : PySem.W.findIn K (.ref R.T) "tree" = some none
  nO : PySem.W.findIn K (.ref R.O) "index" = some none
  nM : PySem.W.findIn K (.ref R.M) "limit" = some none
  nB : PySem.W.findIn K (.ref B) "index" = some none
  tt : PySem.W.exmOne K (.ref R.T) (.ref R.T) = some true
  ot : PySem.W.exmOne K (.ref R.O) (.ref R.T) = some false
  oo : PySem.W.exmOne K (.ref R.O) (.ref R.O) = some true
  mt : PySem.W.exmOne K (.ref R.M) (.ref R.T) = some false
  mo : PySem.W.exmOne K (.ref R.M) (.ref R.O) = some false
  mm : PySem.W.exmOne K (.ref R.M) (.ref R.M) = some true
  bb : PySem.W.exmOne K (.ref B) (.ref B) = some true
theorem st_wish0 {K : PySem.W.Frag} {CS : Addr} {R : SEr} {H : Hp} {x dx : Addr} {vc vo : V} {dc dO : PyData} {Q : Hp → Prop} {E : XK} (nx : H x = none) (nd : H dx = none) (hc : Dp K H vc dc) (ho : Dp K H vo dO) (ok : InOk dc dO)
    (wish : SWish H R vc E (∀ H', Same H H' → StAt K H' CS x dc (itemsD dO) → Q H') (stOut dc dO)) : spStI K CS R [.ref x, vc, vo] (upd (upd H dx (.own x)) x (.ins CS dx [])) (fun v H2 => v = .non ∧ Q H2) E := st_wish (Q := fun _ H2 => Q H2) nx nd hc ho ok wish
section
variable {P : Program} {w : World} {K : PySem.W.Frag} {mg : Str → Option Value} {base : Heap}
theorem ok_ref {CS B f fI : Addr} {R : SEr} {fd dI : FuncData} (F : Fun K "_law_refused" "_law_refused" sRef f fd) (M : Blt mg) (L : StMk P w K mg base CS fI dI R) (X : ErrX24 K mg R B) : FnG P w K mg base 16 f fd ["_law_tree_here", "_law_outs"] (spRef K) := by
  refine Fun.okG F scRef (fun vs H Q h => ?_) (fun cdv A outer s H vs Q gu hr h => ?_)
  · obtain ⟨vc, vo, dc, dO, rfl, _⟩ := h
    rfl
  · obtain ⟨vc, vo, dc, dO, rfl, hc, ho, ok, sh, q⟩ := h
    have un0 : (A.deeper (envOfC "_law_refused" (defScope sRef) s.heap.objs.size f cdv)).units + 100 < cLine := by have := hr.un; omega
    refine ⟨_, pss_cons (ps_try_row (i := 2) (tb := fun W => tDrop (tMakeS CS (spStI K CS R) (WE W) (tCons (tVar 0) (tCons (tVar 1) tNil)))) (Wout := fun _ _ _ _ => False) rfl rfl scRef.nd rfl rfl takes0
        (fun W pn xe tk _ => pss_one (ps_expr (pe_makeS L.make L.ok hr (by rfl) L.gC L.bi (fun σ => passAt tk σ) (pa_cons (pv 0) (pa_cons (pv 1) pa_nil)))))
        (.cons ⟨rfl, by decide, Or.inl X.gT⟩ (fun a oe k d pn hz hf => pss_one (ps_ret (pe_lst (pa_cons pe_str (pa_cons (pe_callB (id := "repr") (r := rReprD K) (call_reprD (by exact gu) (by exact un0)) (by rfl) M.repr (by decide +kernel) (pa_cons (pe_xf X.xT X.nT hz hf (pv 2)) pa_nil)) pa_nil)))))
        (.cons ⟨rfl, by decide, Or.inl X.gO⟩ (fun a oe k d pn hz hf => pss_one (ps_ret (pe_lst (pa_cons pe_str (pa_cons (pe_xf X.xO X.nO hz hf (pv 2)) pa_nil)))))
        (.cons ⟨rfl, by decide, Or.inl X.gM⟩ (fun a oe k d pn hz hf => pss_one (ps_ret (pe_lst (pa_cons pe_str (pa_cons (pe_xf X.xM X.nM hz hf (pv 2)) pa_nil))))) .nil))))
      (pss_one (ps_ret (pe_lst pa_nil))), ?_⟩
    refine ⟨vc, rfl, vo, rfl, fun x dx nx nd ne => ?_⟩
    have two : (2 : Nat) ≤ sizeLine := by decide
    refine st_wish0 nx nd hc ho ok ?_
    cases hb : stOut dc dO with
    | none =>
      rw [hb] at q
      exact fun H' s' _ => ⟨(by show 0 ≤ sizeLine; decide), fun l nl => q l _ (s'.trans (same_upd nl)) upd_same⟩
    | some r =>
      rw [hb] at q sh
      cases r with
      | tree =>
        have sr := sh rfl
        refine fun H1 dd H' s1 left => ⟨true, X.tt, fun _ a na => ?_, fun e => Bool.noConfusion e⟩
        obtain ⟨_, s2, ed⟩ := left
        exact ⟨.ref a, rfl, rfl, rfl, dd, _, vc, rfl, ed, rfl, vc, dc, rfl, dp_same (s1.trans s2) hc, sr.sh, sr.nd, sr.dp, sr.sz, two, fun l nl => q l _ ((s1.trans s2).trans (same_upd nl)) upd_same⟩
      | out i =>
        refine fun H1 dd H' s1 left => ⟨false, X.ot, fun e => Bool.noConfusion e, fun _ => ⟨true, X.oo, fun _ a na => ?_, fun e => Bool.noConfusion e⟩⟩
        obtain ⟨_, s2, ed⟩ := left
        exact ⟨.ref a, rfl, rfl, rfl, dd, _, idxO i, rfl, ed, rfl, two, fun l nl => q l _ ((s1.trans s2).trans (same_upd nl)) upd_same⟩
      | many =>
        refine fun H1 dd H' s1 left => ⟨false, X.mt, fun e => Bool.noConfusion e, fun _ => ⟨false, X.mo, fun e => Bool.noConfusion e, fun _ => ⟨true, X.mm, fun _ a na => ?_, fun e => Bool.noConfusion e⟩⟩⟩
        obtain ⟨_, s2, ed⟩ := left
        exact ⟨.ref a, rfl, rfl, rfl, dd, _, .int 8, rfl, ed, rfl, two, fun l nl => q l _ ((s1.trans s2).trans (same_upd nl)) upd_same⟩
theorem ok_lfits {CS CK C CF CL B f fT : Addr} {R : SEr} {fd dT : FuncData} (F : Fun K "_law_fits" "_law_fits" sLFits f fd) (SC : StC K CS) (mT : Meth K CS "fit" fT) (GT : FnOk P w K mg base (L2.CX P w) 6 fT dT ["self", "book"] (spFit K CS CK C CF CL B)) (bT : Binds K dT ["self", "book"] []) (X : ErrX24 K mg R B) : FnOk P w K mg base CX0 8 f fd ["_law_wanted", "_law_book_here"] (spLFits K CS CK C CF CL) := by
  refine F.ok scLFits (fun vs H Q E h => ?_) (fun cdv A outer s H vs Q E hr h => ?_)
  · obtain ⟨a, bb, dc, ods, cells, fs, rfl, _⟩ := h
    rfl
  · obtain ⟨a, bb, dc, ods, cells, fs, rfl, st, bk, q⟩ := h
    refine ⟨_, pss_cons (ps_set (i := 2) scLFits.nd rfl (.inl rfl) pe_non)
      (pss_cons (ps_try_row (i := 3) (tb := fun W => tAsg (tMethS CS "fit" (spFit K CS CK C CF CL B) (WE W) (tVar 0) (tCons (tVar 1) tNil)) (gName 2)) (Wout := fun _ _ _ _ => False) rfl rfl scLFits.nd rfl rfl takes0
        (fun W pn xe tk _ => pss_one (ps_set (i := 2) scLFits.nd rfl (.inl rfl) (pe_methS (pv 0) SC.cl mT GT (hr.mono (by decide)) bT (fun σ => passAt tk σ) (pa_cons (pv 1) pa_nil))))
        (.cons ⟨rfl, by decide, Or.inl X.gB⟩ (fun a oe k d pn hz hf => pss_one (ps_ret (pe_lst (pa_cons pe_str (pa_cons (pe_xf X.xB X.nB hz hf (pv 3)) pa_nil))))) .nil))
      (pss_one (ps_ret (pe_ifExp (pt_cmp (pc_isN (pv 2))) (pe_lst pa_nil) (pe_lst (pa_cons pe_str pa_nil)))))), ?_⟩
    have two : (2 : Nat) ≤ sizeLine := by decide
    obtain ⟨dx, vc, t, ta, tc, us, as, cs, ea, _⟩ := id st
    refine ⟨.ref a, rfl, a, dx, _, rfl, ea, rfl, .ref bb, rfl, a, bb, dc, ods, cells, fs, rfl, st, bk, ?_⟩
    cases hb : badK fs 0 (allCalls dc ods) with
    | none =>
      rw [hb] at q
      exact fun H' s' => ⟨_, rfl, _, rfl, iteT ⟨(by show 0 ≤ sizeLine; decide), fun l nl => q l _ (s'.trans (same_upd nl)) upd_same⟩⟩
    | some i =>
      rw [hb] at q
      refine fun H1 dd H' s1 left => ⟨true, X.bb, fun _ b nb => ?_, fun e => Bool.noConfusion e⟩
      obtain ⟨_, s2, ed⟩ := left
      exact ⟨.ref b, rfl, rfl, rfl, dd, _, .int (i : Nat), rfl, ed, rfl, two, fun l nl => q l _ ((s1.trans s2).trans (same_upd nl)) upd_same⟩
theorem ok_more {CS B f fT : Addr} {R : SEr} {fd dT : FuncData} (F : Fun K "_law_more" "_law_more" sMore f fd) (SC : StC K CS) (mT : Meth K CS "with_output" fT) (GT : FnOk P w K mg base (L2.CX P w) 16 fT dT ["self", "call", "shown"] (spStW K CS R)) (bT : Binds K dT ["self", "call", "shown"] []) (X : ErrX24 K mg R B) : FnOk P w K mg base CX0 18 f fd ["_law_wanted", "_law_call", "_law_shown"] (spMore K CS) := by
  refine F.ok scMore (fun vs H Q E h => ?_) (fun cdv A outer s H vs Q E hr h => ?_)
  · obtain ⟨a, v1, v2, c, e, dc, ods, i, rfl, _⟩ := h
    rfl
  · obtain ⟨a, v1, v2, c, e, dc, ods, i, rfl, st, h1, h2, z1, z2, hb, q⟩ := h
    refine ⟨_, pss_cons (ps_set (i := 3) scMore.nd rfl (.inl rfl) pe_non)
      (pss_cons (ps_try_row (i := 4) (tb := fun W => tAsg (tMethS CS "with_output" (spStW K CS R) (WE W) (tVar 0) (tCons (tVar 1) (tCons (tVar 2) tNil))) (gName 3)) (Wout := fun _ _ _ _ => False) rfl rfl scMore.nd rfl rfl takes0
        (fun W pn xe tk _ => pss_one (ps_set (i := 3) scMore.nd rfl (.inl rfl) (pe_methS (pv 0) SC.cl mT GT (hr.mono (by decide)) bT (fun σ => passAt tk σ) (pa_cons (pv 1) (pa_cons (pv 2) pa_nil)))))
        (.cons ⟨rfl, by decide, Or.inl X.gO⟩ (fun a oe k d pn hz hf => pss_one (ps_ret (pe_lst (pa_cons pe_str (pa_cons (pe_xf X.xO X.nO hz hf (pv 4)) pa_nil)))))
        (.cons ⟨rfl, by decide, Or.inl X.gM⟩ (fun a oe k d pn hz hf => pss_one (ps_ret (pe_lst (pa_cons pe_str (pa_cons (pe_xf X.xM X.nM hz hf (pv 4)) pa_nil))))) .nil)))
      (pss_one (ps_ret (pe_lst (pa_cons (pv 3) pa_nil))))), ?_⟩
    have two : (2 : Nat) ≤ sizeLine := by decide
    obtain ⟨dx, vc, t, ta, tc, us, as, cs, ea, _⟩ := id st
    refine ⟨.ref a, rfl, a, dx, _, rfl, ea, rfl, v1, rfl, v2, rfl, a, v1, v2, c, e, dc, ods, i, rfl, st, h1, h2, z1, z2, hb, ?_⟩
    refine fun H1 dd H' s1 left => ⟨true, X.oo, fun _ b nb => ?_, fun e => Bool.noConfusion e⟩
    obtain ⟨_, s2, ed⟩ := left
    exact ⟨.ref b, rfl, rfl, rfl, dd, _, .int (i : Nat), rfl, ed, rfl, two, fun l nl => q l _ ((s1.trans s2).trans (same_upd nl)) upd_same⟩
end
/-! ### what is shown, and how long it is -/
structure Sh (n k : Nat) (d : PyData) : Prop where
  sh : d.showable = true
  nd : d.hasDict = false
  dp : d.depth ≤ k
  sz : d.shown.length ≤ n
  ok : PyData.strOk d.shown = true
theorem Sh.up {n k m l : Nat} {d : PyData} (h : Sh n k d) (a : n ≤ m) (b : k ≤ l) : Sh m l d := ⟨h.sh, h.nd, Nat.le_trans h.dp b, Nat.le_trans h.sz a, h.ok⟩
theorem Sh.shown {n k : Nat} {d : PyData} (h : Sh n k d) (a : n ≤ sizeLine) (b : k ≤ 60) : Shown d := ⟨h.sh, h.nd, Nat.le_trans h.dp b, Nat.le_trans h.sz a⟩
theorem strOk_app {a b : Str} (h : PyData.strOk a = true) (k : PyData.strOk b = true) : PyData.strOk (a ++ b) = true := by
  unfold PyData.strOk at *
  rw [Array.all_eq_true_iff_forall_mem] at *
  intro c hc
  have hc2 : c ∈ a.cps ++ b.cps := by simpa [PySem.Str.cps_append] using hc
  rcases Array.mem_append.mp hc2 with m | m
  · exact h c m
  · exact k c m
theorem strOk_join {sep : Str} (hs : PyData.strOk sep = true) : ∀ {ts : List Str}, (∀ t ∈ ts, PyData.strOk t = true) → PyData.strOk (Str.join sep ts) = true
  | [], _ => show PyData.strOk Str.empty = true by decide +kernel
  | [x], h => h x List.mem_cons_self
  | x :: y :: r, h => strOk_app (strOk_app (h x List.mem_cons_self) hs) (strOk_join hs fun t m => h t (List.mem_cons_of_mem _ m))
theorem shownAll_map : ∀ ds : List PyData, PyData.shownAll ds = ds.map PyData.shown
  | [] => rfl
  | d :: ds => by rw [PyData.shownAll, shownAll_map ds, List.map_cons]
theorem showAll_of : ∀ {ds : List PyData}, (∀ d ∈ ds, d.showable = true) → PyData.showableAll ds = true
  | [], _ => rfl
  | d :: ds, h => by
    rw [PyData.showableAll, h d List.mem_cons_self, showAll_of fun e m => h e (List.mem_cons_of_mem _ m)]
    rfl
theorem noDict_of : ∀ {ds : List PyData}, (∀ d ∈ ds, d.hasDict = false) → PyData.hasDictAll ds = false
  | [], _ => rfl
  | d :: ds, h => by
    rw [PyData.hasDictAll, h d List.mem_cons_self, noDict_of fun e m => h e (List.mem_cons_of_mem _ m)]
    rfl
theorem join_len {n : Nat} {ts : List Str} (h : ∀ t ∈ ts, t.length ≤ n) : (Str.join ", " ts).length ≤ ts.length * (n + 2) := by
  induction ts with
  | nil => exact Nat.zero_le _
  | cons x r ih =>
    have h0 := h x List.mem_cons_self
    have i := ih fun t m => h t (List.mem_cons_of_mem _ m)
    rw [List.length_cons, Nat.succ_mul]
    cases r with
    | nil => exact Nat.le_trans h0 (by omega)
    | cons y r =>
      show (x ++ ", " ++ Str.join ", " (y :: r)).length ≤ _
      rw [PySem.Str.length_append, PySem.Str.length_append]
      have : ((", " : Str)).length = 2 := by decide +kernel
      omega
theorem Sh.tup {n k : Nat} {ds : List PyData} (h : ∀ d ∈ ds, Sh n k d) : Sh (ds.length * (n + 2) + 4) (k + 1) (.tuple ds) := by
  have hs : ∀ t ∈ PyData.shownAll ds, ∃ d ∈ ds, d.shown = t := fun t m => by
    rw [shownAll_map] at m
    obtain ⟨d, md, e⟩ := List.mem_map.mp m
    exact ⟨d, md, e⟩
  have ll : (PyData.shownAll ds).length = ds.length := by rw [shownAll_map, List.length_map]
  have e2 : ∃ z : Str, (z = ",)" ∨ z = ")") ∧ (PyData.tuple ds).shown = ("(" : Str) ++ Str.join ", " (PyData.shownAll ds) ++ z := by
    rw [PyData.shown_tuple]
    split
    · exact ⟨_, .inl rfl, rfl⟩
    · exact ⟨_, .inr rfl, rfl⟩
  obtain ⟨z, hz, e2⟩ := e2
  refine ⟨?_, ?_, ?_, ?_, ?_⟩
  · rw [PyData.showable]
    exact showAll_of fun d m => (h d m).sh
  · rw [PyData.hasDict]
    exact noDict_of fun d m => (h d m).nd
  · exact Nat.succ_le_succ (depth_of fun d m => (h d m).dp)
  · rw [e2, PySem.Str.length_append, PySem.Str.length_append]
    have j := join_len (n := n) (ts := PyData.shownAll ds) fun t m => by
      obtain ⟨d, md, rfl⟩ := hs t m
      exact (h d md).sz
    rw [ll] at j
    have l1 : (("(" : Str)).length = 1 := by decide +kernel
    have l2 : z.length ≤ 2 := by rcases hz with rfl | rfl <;> decide +kernel
    omega
  · rw [e2]
    refine strOk_app (strOk_app (by decide +kernel) (strOk_join (by decide +kernel) fun t m => ?_)) (by rcases hz with rfl | rfl <;> decide +kernel)
    obtain ⟨d, md, rfl⟩ := hs t m
    exact (h d md).ok
theorem Sh.lst {n k : Nat} {ds : List PyData} (h : ∀ d ∈ ds, Sh n k d) : Sh (ds.length * (n + 2) + 4) (k + 1) (.list ds) := by
  have hs : ∀ t ∈ PyData.shownAll ds, ∃ d ∈ ds, d.shown = t := fun t m => by
    rw [shownAll_map] at m
    obtain ⟨d, md, e⟩ := List.mem_map.mp m
    exact ⟨d, md, e⟩
  have ll : (PyData.shownAll ds).length = ds.length := by rw [shownAll_map, List.length_map]
  have e2 : (PyData.list ds).shown = ("[" : Str) ++ Str.join ", " (PyData.shownAll ds) ++ "]" := PyData.shown_list ds
  refine ⟨?_, ?_, ?_, ?_, ?_⟩
  · rw [PyData.showable]
    exact showAll_of fun d m => (h d m).sh
  · rw [PyData.hasDict]
    exact noDict_of fun d m => (h d m).nd
  · exact Nat.succ_le_succ (depth_of fun d m => (h d m).dp)
  · rw [e2, PySem.Str.length_append, PySem.Str.length_append]
    have j := join_len (n := n) (ts := PyData.shownAll ds) fun t m => by
      obtain ⟨d, md, rfl⟩ := hs t m
      exact (h d md).sz
    rw [ll] at j
    have l1 : (("[" : Str)).length = 1 := by decide +kernel
    have l2 : (("]" : Str)).length = 1 := by decide +kernel
    omega
  · rw [e2]
    refine strOk_app (strOk_app (by decide +kernel) (strOk_join (by decide +kernel) fun t m => ?_)) (by decide +kernel)
    obtain ⟨d, md, rfl⟩ := hs t m
    exact (h d md).ok
theorem char_low {q : Nat} (hq : q = 39 ∨ q = 34) {c : Nat} (h : lowCode c = true) : PySem.Builtin.Str.reprChar q c = [c] := by
  have a : ∀ c, c < 123 → 97 ≤ c → PySem.Builtin.Str.reprChar 39 c = [c] ∧ PySem.Builtin.Str.reprChar 34 c = [c] := by decide +kernel
  unfold lowCode at h
  simp only [Bool.and_eq_true, decide_eq_true_eq] at h
  rcases hq with rfl | rfl
  · exact (a c (by omega) h.1).1
  · exact (a c (by omega) h.1).2
theorem fold_low {q : Nat} (hq : q = 39 ∨ q = 34) : ∀ (l : List Nat) (acc : Array Nat), (∀ c ∈ l, lowCode c = true) → l.foldl (fun out c => out ++ (PySem.Builtin.Str.reprChar q c).toArray) acc = acc ++ l.toArray
  | [], acc, _ => by simp
  | c :: r, acc, h => by
    rw [List.foldl_cons, char_low hq (h c List.mem_cons_self), fold_low hq r _ fun d hd => h d (List.mem_cons_of_mem _ hd)]
    simp
theorem quote_two (x : Str) : PySem.reprQuote x = 39 ∨ PySem.reprQuote x = 34 := by
  unfold PySem.reprQuote
  split
  · exact .inr rfl
  · exact .inl rfl
theorem name_cps {z : Str} (h : isName (.str z) = true) : z.length ≤ 8 ∧ ∀ c ∈ z.cps.toList, lowCode c = true := by
  have h2 : (decide (1 ≤ (z.length : Int)) && decide ((z.length : Int) ≤ 8) && z.cps.toList.all lowCode) = true := h
  simp only [Bool.and_eq_true, decide_eq_true_eq, List.all_eq_true] at h2
  exact ⟨by omega, h2.2⟩
theorem name_repr {z : Str} (h : isName (.str z) = true) : (PyData.shown (.str z)).cps = ((#[PySem.reprQuote z] ++ z.cps.toList.toArray).push (PySem.reprQuote z)) := by
  obtain ⟨_, low⟩ := name_cps h
  show (PySem.reprText z).cps = _
  unfold PySem.reprText
  show ((z.cps.foldl (fun out c => out ++ (PySem.Builtin.Str.reprChar (PySem.reprQuote z) c).toArray) #[PySem.reprQuote z]).push (PySem.reprQuote z)) = _
  rw [← Array.foldl_toList, fold_low (quote_two z) _ _ low]
theorem name_sh {z : Str} (h : isName (.str z) = true) : Sh 100 0 (.str z) := by
  obtain ⟨l8, low⟩ := name_cps h
  have e := name_repr h
  refine ⟨rfl, rfl, Nat.zero_le _, ?_, ?_⟩
  · show (PyData.shown (.str z)).cps.size ≤ _
    rw [e]
    have lz : z.cps.size ≤ 8 := l8
    simp only [Array.size_push, Array.size_append, List.size_toArray, Array.length_toList]
    simp only [List.size_toArray, List.length_cons, List.length_nil]
    omega
  · unfold PyData.strOk
    rw [e, Array.all_eq_true_iff_forall_mem]
    intro c hc
    rcases Array.mem_push.mp hc with hc | rfl
    · rcases Array.mem_append.mp hc with hc | hc
      · have e2 : c = PySem.reprQuote z := by simpa using hc
        rw [e2]
        rcases quote_two z with q | q <;> rw [q] <;> decide
      · have h2 := low c (by simpa using hc)
        unfold lowCode at h2
        simp only [Bool.and_eq_true, decide_eq_true_eq] at h2
        exact decide_eq_true (by omega)
    · rcases quote_two z with q | q <;> rw [q] <;> decide
theorem sh_of {d : PyData} (h : d.showable = true ∧ d.hasDict = false ∧ d.depth ≤ 5 ∧ d.shown.length ≤ 100 ∧ PyData.strOk d.shown = true) : Sh 100 5 d := ⟨h.1, h.2.1, h.2.2.1, h.2.2.2.1, h.2.2.2.2⟩
theorem given_sh {d : PyData} (h : givenB d = true) : Sh 100 5 d := by
  unfold givenB at h
  cases d with
  | int i =>
    have h2 : (decide (0 ≤ i) && decide (i < 3)) = true := (Bool.or_false _).symm.trans h
    simp only [Bool.and_eq_true, decide_eq_true_eq] at h2
    rcases (show i = 0 ∨ i = 1 ∨ i = 2 by omega) with rfl | rfl | rfl <;> exact sh_of (by decide +kernel)
  | str z =>
    have h2 : z = "x" ∨ z = "y" := of_decide_eq_true (show decide (z = "x" ∨ z = "y") = true from h)
    rcases h2 with rfl | rfl <;> exact sh_of (by decide +kernel)
  | _ => cases h
theorem call_sh {d : PyData} (h : callB d = true) : Sh 1000 7 d := by
  obtain ⟨n, as, rfl, hn, l2, hg⟩ := call_shape h
  obtain ⟨z, rfl⟩ := isName_str hn
  refine Sh.up (n := 2 * (300 + 2) + 4) (k := 7) ?_ (by decide) (Nat.le_refl _)
  refine Sh.tup (n := 300) (k := 6) (ds := [.str z, .tuple as]) fun d m => ?_
  simp only [List.mem_cons, List.not_mem_nil, or_false] at m
  rcases m with rfl | rfl
  · exact (name_sh hn).up (by decide) (by decide)
  · refine (Sh.tup (n := 100) (k := 5) fun d m => given_sh (hg d m)).up ?_ (by decide)
    have : as.length * 102 ≤ 2 * 102 := Nat.mul_le_mul_right _ l2
    omega
theorem two_sh {n k : Nat} {a b : PyData} (h : Sh n k a) (i : Sh n k b) : Sh (2 * (n + 2) + 4) (k + 1) (.tuple [a, b]) := Sh.tup (n := n) (k := k) (ds := [a, b]) fun d m => by
  simp only [List.mem_cons, List.not_mem_nil, or_false] at m
  rcases m with rfl | rfl
  · exact h
  · exact i
theorem leaf_sh {d : PyData} (h : callB d = true) : (Sh 4000 8 (.tuple [.str "is", d, .int 0])) ∧ (Sh 4000 8 (.list [.str "is", d, .int 0])) := by
  have a : ∀ e ∈ [.str "is", d, .int 0], Sh 1000 7 e := fun e m => by
    simp only [List.mem_cons, List.not_mem_nil, or_false] at m
    rcases m with rfl | rfl | rfl
    · exact (sh_of (d := .str "is") (by decide +kernel)).up (by decide) (by decide)
    · exact call_sh h
    · exact (sh_of (d := .int 0) (by decide +kernel)).up (by decide) (by decide)
  exact ⟨(Sh.tup a).up (by show 3 * 1002 + 4 ≤ _; decide) (Nat.le_refl _), (Sh.lst a).up (by show 3 * 1002 + 4 ≤ _; decide) (Nat.le_refl _)⟩
theorem not_sh {n k : Nat} {d : PyData} (h : Sh n k d) (hn : 100 ≤ n) (hk : 5 ≤ k) : Sh (2 * n + 8) (k + 1) (.tuple [.str "not", d]) := (two_sh ((sh_of (d := .str "not") (by decide +kernel)).up hn hk) h).up (by omega) (Nat.le_refl _)
/-! ### forms, right and wrong -/
/-- te makes a datum, over all that H0 has -/
def DatS (K : PySem.W.Frag) (H0 : Hp) (te : TE) (σ : L2.St) (d : PyData) : Prop := ∀ (H : Hp) (Q : VK), Same H0 H → (∀ v H', Same H H' → Dp K H' v d → Q v H') → te σ H Q
def DatSA (K : PySem.W.Frag) (H0 : Hp) (ta : TA) (σ : L2.St) (ds : List PyData) : Prop := ∀ (H : Hp) (Q : List V → Hp → Prop), Same H0 H → (∀ vs H', Same H H' → DpAll K H' vs ds → Q vs H') → ta σ H Q
section
variable {K : PySem.W.Frag} {H0 : Hp} {σ : L2.St}
theorem ds_non : DatS K H0 (tC .non) σ .none := fun H Q _ q => q _ H (Same.refl H) .non
theorem ds_bl {b : Bool} : DatS K H0 (tC (.bl b)) σ (.bool b) := fun H Q _ q => q _ H (Same.refl H) (.bl b)
theorem ds_int {i : Int} : DatS K H0 (tC (.int i)) σ (.int i) := fun H Q _ q => q _ H (Same.refl H) (.int i)
theorem ds_str {z : Str} : DatS K H0 (tC (.str z)) σ (.str z) := fun H Q _ q => q _ H (Same.refl H) (.str z)
theorem ds_var {i : Nat} {v : V} {d : PyData} (e : σ[i]? = some (some v)) (h : Dp K H0 v d) : DatS K H0 (tVar i) σ d := fun H Q s q => ⟨v, e, q v H (Same.refl H) (dp_same s h)⟩
theorem dsa_nil : DatSA K H0 tNil σ [] := fun H Q _ q => q _ H (Same.refl H) .nil
theorem dsa_cons {te : TE} {ta : TA} {d : PyData} {ds : List PyData} (h : DatS K H0 te σ d) (r : DatSA K H0 ta σ ds) : DatSA K H0 (tCons te ta) σ (d :: ds) := fun H Q s q => h H _ s fun v H1 s1 hv => r H1 _ (s.trans s1) fun vs H2 s2 hs => q _ H2 (s1.trans s2) (.cons (dp_same s2 hv) hs)
theorem ds_tup {ta : TA} {ds : List PyData} (h : DatSA K H0 ta σ ds) (n : ds.length ≤ sizeLine) : DatS K H0 (tTup ta) σ (.tuple ds) := fun H Q s q => h H _ s fun vs H1 s1 hs => ⟨by rw [dpA_len hs]; exact n, fun p np => q _ _ (s1.trans (same_upd np)) (.tup (.inl (.inl upd_same)) (dpA_same (same_upd np) hs))⟩
theorem ds_lst {ta : TA} {ds : List PyData} (h : DatSA K H0 ta σ ds) (n : ds.length ≤ sizeLine) : DatS K H0 (tLst ta) σ (.list ds) := fun H Q s q => h H _ s fun vs H1 s1 hs => ⟨by rw [dpA_len hs]; exact n, fun p np => q _ _ (s1.trans (same_upd np)) (.lst (.inl (.inl upd_same)) (dpA_same (same_upd np) hs))⟩
theorem dpA_rep {H : Hp} {v : V} {d : PyData} (h : Dp K H v d) : ∀ k : Nat, DpAll K H (List.replicate k [v]).flatten (List.replicate k d)
  | 0 => .nil
  | k + 1 => .cons h (dpA_rep h k)
theorem ds_repT {te : TE} {d : PyData} {k : Int} {m : Nat} (h : DatS K H0 te σ d) (k2 : 2 ≤ k) (k3 : k ≤ 1000) (hm : k.toNat = m) : DatS K H0 (tOp (rRepT K) (tTup (tCons te tNil)) (tC (.int k))) σ (.tuple (List.replicate m d)) := fun H Q s q => h H _ s fun v H1 s1 hv => ⟨(by show 1 ≤ sizeLine; decide), fun p np => ⟨p, k, [v], rfl, rfl, .inl (.inl upd_same), List.cons_ne_nil _ _, k2, k3, by show 1 ≤ 1000; decide, fun p2 np2 => by
  have s2 := (same_upd (o := HO.tup [v]) np).trans (same_upd (o := HO.tup (List.replicate k.toNat [v]).flatten) np2)
  exact q _ _ (s1.trans s2) (.tup (.inl (.inl upd_same)) (hm ▸ dpA_rep (dp_same s2 hv) _))⟩⟩
theorem ds_repL {te : TE} {d : PyData} {k : Int} {m : Nat} (h : DatS K H0 te σ d) (k2 : 0 ≤ k) (k3 : k ≤ 1000) (hm : k.toNat = m) : DatS K H0 (tOp rRep (tLst (tCons te tNil)) (tC (.int k))) σ (.list (List.replicate m d)) := fun H Q s q => h H _ s fun v H1 s1 hv => ⟨(by show 1 ≤ sizeLine; decide), fun p np => ⟨p, k, [v], rfl, rfl, upd_same, by omega, by omega, Nat.le_trans (show 1 * k.toNat ≤ 1000 by omega) (by decide), fun p2 np2 => by
  have s2 := (same_upd (o := HO.lst [v]) np).trans (same_upd (o := HO.lst (List.replicate k.toNat [v]).flatten) np2)
  exact q _ _ (s1.trans s2) (.lst (.inl (.inl upd_same)) (hm ▸ dpA_rep (dp_same s2 hv) _))⟩⟩
/-- a new list, with its items -/
theorem dsl_new {ta : TA} {ds : List PyData} (h : DatSA K H0 ta σ ds) (n : ds.length ≤ sizeLine) {H : Hp} {Q : VK} (s : Same H0 H) (q : ∀ l xs H', Same H H' → H' l = some (.lst xs) → DpAll K H' xs ds → Q (.ref l) H') : tLst ta σ H Q :=
  h H _ s fun vs H1 s1 hs => ⟨by rw [dpA_len hs]; exact n, fun p np => q p vs _ (s1.trans (same_upd np)) upd_same (dpA_same (same_upd np) hs)⟩
/-- f(e) of a datum -/
theorem ds_ask {g : PyData → Bool} {te : TE} {d : PyData} (h : DatS K H0 te σ d) (z : szD d = true) {H : Hp} {Q : VK} (s : Same H0 H) (q : ∀ H', Same H H' → Q (.bl (g d)) H') : tCall (spB K g) [] E0 (tCons te tNil) σ H Q := h H _ s fun v H1 s1 hv => ⟨v, d, rfl, hv, z, fun H2 s2 => q H2 (s1.trans s2)⟩
end
def NF (te : TE) (σ : L2.St) (H : Hp) : Prop := ∀ Q : VK, (∀ H', Same H H' → Q (.bl false) H') → te σ H Q
/-! ### what the law compares -/
theorem nfs_if {te : TE} {t1 tz : TS} {D : Ends} {σ : L2.St} {H : Hp} (h : NF te σ H) (k : ∀ H', Same H H' → tz D σ H') : tSeq (tIfS (tTest te) t1 tNext) tz D σ H := h _ fun H' s => ⟨false, rfl, iteF (k H' s)⟩
theorem nfs_or {te te2 : TE} {t1 tz : TS} {D : Ends} {σ : L2.St} {H : Hp} (h : NF te σ H) (h2 : ∀ H', Same H H' → NF te2 σ H') (k : ∀ H', Same H H' → tz D σ H') : tSeq (tIfS (tOr (tTest te) (tTest te2)) t1 tNext) tz D σ H := h _ fun H1 s1 => ⟨false, rfl, iteF (h2 H1 s1 _ fun H2 s2 => ⟨false, rfl, iteF (k H2 (s1.trans s2))⟩)⟩
/-- a loop over odd things -/
theorem odd_loopG {K : PySem.W.Frag} {tl te : TE} {tr tz : TS} {D : Ends} {H : Hp} {ds : List PyData} {σ : L2.St} {i : Nat} (h0 : ∃ o, σ = σ.set i o)
    (hl : ∀ R : VK, (∀ l xs H', Same H H' → H' l = some (.lst xs) → DpAll K H' xs ds → R (.ref l) H') → tl σ H R)
    (hc : ∀ (x : V) (d : PyData) (H1 : Hp), Same H H1 → d ∈ ds → Dp K H1 x d → NF te (σ.set i (some x)) H1)
    (k : ∀ o H', Same H H' → tz D (σ.set i o) H') : tSeq (tFor (iList K tl) (gName i) (tIfS (tTest te) tr tNext)) tz D σ H := by
  obtain ⟨o0, e0⟩ := h0
  refine hl _ fun l xs H1 s1 el hxs => ?_
  refine ⟨l, rfl, ⟨_, .inl (.inl el)⟩, ?_⟩
  refine for_list (K := K) (a := l) (xs := xs) (fun j σ' H' => ∃ o, σ' = σ.set i o ∧ Same H1 H') ⟨_, e0, Same.refl _⟩ (fun j σ' H' _ pr => ?_) (fun j x σ' H' hx pr => ?_) (fun σ' H' pr => ?_)
  · obtain ⟨_, _, s'⟩ := pr
    exact .inl (.inl (s' _ _ el))
  · obtain ⟨o, rfl, s'⟩ := pr
    obtain ⟨d, hd, hv⟩ := dpA_at hxs hx
    unfold gName
    rw [List.set_set]
    exact hc x d H' (s1.trans s') (List.mem_of_getElem? hd) (dp_same s' hv) _ fun H2 s2 => ⟨false, rfl, iteF ⟨_, rfl, s'.trans s2⟩⟩
  · obtain ⟨o, rfl, s'⟩ := pr
    exact k o H' (s1.trans s')
def idxD : Option Nat → PyData
  | some i => .int (i : Nat)
  | none => .none
def toldD (dc : PyData) : Option SErr → List PyData
  | none => []
  | some .tree => [.str "tree", .str dc.shown]
  | some (.out i) => [.str "output", idxD i]
  | some .many => [.str "many", .int 8]
theorem toldS_dp {K : PySem.W.Frag} {H : Hp} {dc : PyData} : ∀ r : Option SErr, DpAll K H (toldS dc r) (toldD dc r)
  | none => .nil
  | some .tree => .cons (.str _) (.cons (.str _) .nil)
  | some (.out (some i)) => .cons (.str _) (.cons (.int _) .nil)
  | some (.out none) => .cons (.str _) (.cons .non .nil)
  | some .many => .cons (.str _) (.cons (.int _) .nil)
theorem toldD_sh {dc : PyData} {r : Option SErr} (h : r = some .tree → PyData.strOk dc.shown = true) : SeqAt.shaped (.list (toldD dc r)) = true ∧ PyData.eqv (.list (toldD dc r)) (.list (toldD dc r)) = true := by
  have z := (shaped_of (ds := toldD dc r) fun d m => by
    have lay : ∀ z : Str, PyData.strOk z = true → (PyData.str z).canLay0 = true ∧ (PyData.str z).depth ≤ 40 := fun z e => ⟨e, Nat.zero_le _⟩
    have layI : ∀ i : Int, (PyData.int i).canLay0 = true ∧ (PyData.int i).depth ≤ 40 := fun i => ⟨rfl, Nat.zero_le _⟩
    match r with
    | none => cases m
    | some .tree =>
      rcases List.mem_cons.mp m with rfl | m
      · exact lay _ (by decide +kernel)
      · rw [List.mem_singleton.mp m]
        exact lay _ (h rfl)
    | some (.out (some i)) =>
      rcases List.mem_cons.mp m with rfl | m
      · exact lay _ (by decide +kernel)
      · rw [List.mem_singleton.mp m]
        exact layI _
    | some (.out none) =>
      rcases List.mem_cons.mp m with rfl | m
      · exact lay _ (by decide +kernel)
      · rw [List.mem_singleton.mp m]
        exact ⟨rfl, Nat.zero_le _⟩
    | some .many =>
      rcases List.mem_cons.mp m with rfl | m
      · exact lay _ (by decide +kernel)
      · rw [List.mem_singleton.mp m]
        exact layI _).1
  exact ⟨z, SeqAt.eqv_refl _ (SeqAt.canLay_of_shaped z)⟩
section
variable {K : PySem.W.Frag} {H0 : Hp} {σ : L2.St}
theorem ds_repr {te : TE} {d : PyData} (h : DatS K H0 te σ d) (sh : Shown d) : DatS K H0 (tCB (rReprD K) (tCons te tNil)) σ (.str d.shown) := fun H Q s q => h H _ s fun v H1 s1 hv => ⟨v, d, rfl, hv, sh.sh, sh.nd, sh.dp, sh.sz, q _ H1 s1 (.str _)⟩
theorem ds_dget {g : Addr} {i : Nat} {kvs : List (Key × V)} {v : V} {z : Str} {d : PyData} (at_ : σ[i]? = some (some (V.ref g))) (eg : H0 g = some (.dK kvs)) (n : valV kvs (.inr z : Key) = some v) (h : Dp K H0 v d) : DatS K H0 (tDGet (tVar i) (tC (.str z))) σ d := fun H Q s q => ⟨_, at_, g, v, rfl, dg (s _ _ eg) z n, q v H (Same.refl H) (dp_same s h)⟩
theorem ds_catL {ta : TA} {i : Nat} {lo : Addr} {us : List V} {ods es : List PyData} (at_ : σ[i]? = some (some (V.ref lo))) (e : H0 lo = some (.lst us)) (hd : DpAll K H0 us ods) (h : DatSA K H0 ta σ es) (n : ods.length ≤ 100) (m : es.length ≤ 100) : DatS K H0 (tOp rCat (tVar i) (tLst ta)) σ (.list (ods ++ es)) := fun H Q s q =>
  ⟨_, at_, dsl_new h (Nat.le_trans m (by decide)) s fun l xs H1 s1 el hx => ⟨lo, l, us, xs, rfl, rfl, s1 _ _ (s _ _ e), el, by rw [dpA_len hd, dpA_len hx]; exact Nat.le_trans (show ods.length + es.length ≤ 200 by omega) (by decide), fun p np => q _ _ (s1.trans (same_upd np)) (.lst (.inl (.inl upd_same)) (dpA_same (same_upd np) (dpA_app (dpA_same (s.trans s1) hd) hx)))⟩⟩
theorem ds_lenL {i : Nat} {lo : Addr} {us : List V} {n : Nat} (at_ : σ[i]? = some (some (V.ref lo))) (e : H0 lo = some (.lst us)) (l : us.length = n) : DatS K H0 (tCB (fun xs H Q => ∃ p ys, xs = [.ref p] ∧ (SqL K H p ys ∨ SqT K H p ys) ∧ Q (.int ys.length) H) (tCons (tVar i) tNil)) σ (.int (n : Nat)) := fun H Q s q => ⟨_, at_, lo, us, rfl, .inl (.inl (.inl (s _ _ e))), by rw [l]; exact q _ H (Same.refl H) (.int _)⟩
/-- what is refused, and what the law wants -/
theorem nf_ref {H : Hp} {te1 te2 ty : TE} {dc dO : PyData} (h1 : DatS K H0 te1 σ dc) (h2 : DatS K H0 te2 σ dO) (s : Same H0 H) (ok : InOk dc dO) (sh : stOut dc dO = some .tree → Shown dc ∧ PyData.strOk dc.shown = true) (hy : DatS K H0 ty σ (.list (toldD dc (stOut dc dO)))) : NF (tOp (rNeD K) (tCall (spRef K) [] E0 (tCons te1 (tCons te2 tNil))) ty) σ H := fun Q q =>
  h1 H _ s fun v1 H1 s1 d1 => h2 H1 _ (s.trans s1) fun v2 H2 s2 d2 => ⟨v1, v2, dc, dO, rfl, dp_same s2 d1, d2, ok, fun e => (sh e).1, fun l H3 s3 el => by
    refine hy H3 _ (((s.trans s1).trans s2).trans s3) fun v4 H4 s4 d4 => ?_
    have z := toldD_sh fun e => (sh e).2
    exact ⟨_, _, .lst (.inl (.inl (s4 _ _ el))) (toldS_dp _), d4, z.1, z.1, by rw [z.2]; exact q _ (((s1.trans s2).trans s3).trans s4)⟩⟩
end
/-! ### the odd things -/
def leafD (c : PyData) : PyData := .tuple [.str "is", c, .int 0]
def deepD (c : PyData) : Nat → PyData
  | 0 => leafD c
  | n + 1 => .tuple [.str "not", deepD c n]
theorem deep_lt {c : PyData} (hc : callB c = true) : ∀ n, LT (fun _ => True) (n + 1) 1 (n + 1) (deepD c n)
  | 0 => LT.leaf hc True.intro (by decide) (by decide)
  | n + 1 => (deep_lt hc n).not
theorem deep_sh {c : PyData} (hc : callB c = true) : Sh 2000000 16 (deepD c 8) := by
  have a0 : Sh 4000 8 (deepD c 0) := (leaf_sh hc).1
  have a1 : Sh _ 9 (deepD c 1) := not_sh a0 (by decide) (by decide)
  have a2 : Sh _ 10 (deepD c 2) := not_sh a1 (by decide) (by decide)
  have a3 : Sh _ 11 (deepD c 3) := not_sh a2 (by decide) (by decide)
  have a4 : Sh _ 12 (deepD c 4) := not_sh a3 (by decide) (by decide)
  have a5 : Sh _ 13 (deepD c 5) := not_sh a4 (by decide) (by decide)
  have a6 : Sh _ 14 (deepD c 6) := not_sh a5 (by decide) (by decide)
  have a7 : Sh _ 15 (deepD c 7) := not_sh a6 (by decide) (by decide)
  have a8 : Sh _ 16 (deepD c 8) := not_sh a7 (by decide) (by decide)
  exact a8.up (by decide) (Nat.le_refl _)
theorem deep_sz {c : PyData} (hc : callB c = true) : ∀ n, szD (deepD c n) = true
  | 0 => (tree_ok 1 (deep_lt hc 0).tr).2.2.2
  | n + 1 => (tree_ok _ (deep_lt hc (n + 1)).tr).2.2.2
theorem deep_no {c : PyData} : ∀ n m, n ≤ m → treeB n (deepD c m) = false
  | 0, m, _ => by cases m <;> rfl
  | n + 1, 0, h => by omega
  | n + 1, m + 1, h => deep_no n m (by omega)
/-- what a right tree asks -/
theorem in_tree {G : PyData → Prop} {f n s : Nat} {d dO : PyData} (h : LT G f n s d) (k : f ≤ 8) (l : s ≤ 1000) (m : n ≤ 8) (zo : szD dO = true) (lo : (itemsD dO).length ≤ 20) : InOk d dO ∧ CondOk d ∧ (condCalls d).length = n := by
  have u := h.up k l
  exact ⟨⟨(tree_ok 8 u.tr).2.2.2, zo, lo, fun _ => ⟨u.sz, by rw [u.cn]; exact m⟩⟩, .inr ⟨u.tr, u.sz⟩, u.cn⟩
theorem in_no {d dO : PyData} (zd : szD d = true) (t : treeB 8 d = false) (zo : szD dO = true) (lo : (itemsD dO).length ≤ 20) : InOk d dO := ⟨zd, zo, lo, fun e => by rw [t] at e; cases e⟩
def oddT (c : PyData) : List PyData := [.int 5, .str "is", .tuple [], .tuple [.str "is", c], .tuple [.str "and", .tuple []], .list [.str "is", c, .int 0], .tuple [.str "not", .none], .tuple [.str "or", .tuple [leafD c, .none]]]
theorem oddT_bad {c : PyData} (hc : callB c = true) : ∀ e ∈ oddT c, noTree e = true ∧ treeB 8 e = false ∧ szD e = true ∧ Sh 20000 20 e := by
  have zc := (call_ok hc).2.2.2
  have sc := call_sh hc
  have zl := deep_sz hc 0
  have s5 : ∀ {d : PyData}, (d.showable = true ∧ d.hasDict = false ∧ d.depth ≤ 5 ∧ d.shown.length ≤ 100 ∧ PyData.strOk d.shown = true) → Sh 20000 20 d := fun h => (sh_of h).up (by decide) (by decide)
  intro e m
  simp only [oddT, List.mem_cons, List.not_mem_nil, or_false] at m
  rcases m with rfl | rfl | rfl | rfl | rfl | rfl | rfl | rfl
  · exact ⟨rfl, rfl, by decide +kernel, s5 (by decide +kernel)⟩
  · exact ⟨rfl, rfl, by decide +kernel, s5 (by decide +kernel)⟩
  · exact ⟨rfl, rfl, by decide +kernel, s5 (by decide +kernel)⟩
  · refine ⟨rfl, rfl, sz_tupof (by show 2 ≤ 1000; decide) fun u m => ?_, ((two_sh ((sh_of (d := .str "is") (by decide +kernel)).up (by decide) (by decide)) sc).up (by decide) (by decide))⟩
    simp only [List.mem_cons, List.not_mem_nil, or_false] at m
    rcases m with rfl | rfl
    · decide +kernel
    · exact zc
  · exact ⟨rfl, rfl, by decide +kernel, s5 (by decide +kernel)⟩
  · refine ⟨rfl, rfl, (sz_listof (by show 3 ≤ 1000; decide) (szDs_of9 fun u m => ?_)).1, (leaf_sh hc).2.up (by decide) (by decide)⟩
    simp only [List.mem_cons, List.not_mem_nil, or_false] at m
    rcases m with rfl | rfl | rfl
    · decide +kernel
    · exact zc
    · rfl
  · exact ⟨rfl, rfl, by decide +kernel, s5 (by decide +kernel)⟩
  · have t7 : treeB 7 (leafD c) = true := ((deep_lt hc 0).up (show 1 ≤ 7 by decide) (Nat.le_refl _)).tr
    have t : treeB 8 (.tuple [.str "or", .tuple [leafD c, .none]]) = false := by
      show (decide (1 ≤ 2) && (decide (2 ≤ 8) && (treeB 7 (leafD c) && (treeB 7 .none && true)))) = false
      rw [t7]
      rfl
    have zi : szD (.tuple [leafD c, .none]) = true := sz_tupof (by show 2 ≤ 1000; decide) fun u m => by
      simp only [List.mem_cons, List.not_mem_nil, or_false] at m
      rcases m with rfl | rfl
      · exact zl
      · rfl
    refine ⟨?_, t, sz_tupof (by show 2 ≤ 1000; decide) fun u m => ?_, ?_⟩
    · show (!treeB 8 (.tuple [.str "or", .tuple [leafD c, .none]])) = true
      rw [t]
      rfl
    · simp only [List.mem_cons, List.not_mem_nil, or_false] at m
      rcases m with rfl | rfl
      · decide +kernel
      · exact zi
    · exact (two_sh ((sh_of (d := .str "or") (by decide +kernel)).up (n := 100) (m := 9000) (l := 9) (by decide) (by decide)) ((two_sh (leaf_sh hc).1 ((sh_of (d := .none) (by decide +kernel)).up (by decide) (by decide))).up (by decide) (by decide))).up (by decide) (by decide)
def oddO (c : PyData) : List PyData := [.none, .tuple [c], .tuple [c, .int 1], .list [c, .bool true], .tuple [.none, .bool true], .tuple [c, .none], .tuple [c, .bool true, .bool true]]
theorem oddO_bad {c : PyData} (hc : callB c = true) : ∀ e ∈ oddO c, outB e = false ∧ szD e = true := by
  have zc := (call_ok hc).2.2.2
  intro e m
  simp only [oddO, List.mem_cons, List.not_mem_nil, or_false] at m
  rcases m with rfl | rfl | rfl | rfl | rfl | rfl | rfl
  · exact ⟨rfl, rfl⟩
  · exact ⟨rfl, sz_tupof (by show 1 ≤ 1000; decide) fun u m => by rw [List.mem_singleton.mp m]; exact zc⟩
  all_goals refine ⟨rfl, ?_⟩
  case inr.inr.inr.inl =>
    refine (sz_listof (by show 2 ≤ 1000; decide) (szDs_of9 fun u m => ?_)).1
    simp only [List.mem_cons, List.not_mem_nil, or_false] at m
    rcases m with rfl | rfl
    · exact zc
    · rfl
  all_goals
    refine sz_tupof (Nat.le_of_ble_eq_true rfl) fun u m => ?_
    simp only [List.mem_cons, List.not_mem_nil, or_false] at m
    first
      | (rcases m with rfl | rfl | rfl <;> first | exact zc | rfl)
      | (rcases m with rfl | rfl <;> first | exact zc | rfl)
theorem badO_at {e : PyData} {r : List PyData} (he : outB e = false) : ∀ {ds : List PyData} {i : Nat}, (∀ d ∈ ds, outB d = true) → badO i (ds ++ e :: r) = some (i + ds.length)
  | [], i, _ => by
    show (if outB e = true then _ else some i) = _
    rw [if_neg (by rw [he]; decide)]
    rfl
  | d :: ds, i, h => by
    show (if outB d = true then badO (i + 1) (ds ++ e :: r) else _) = _
    rw [if_pos (h d List.mem_cons_self), badO_at he fun u m => h u (List.mem_cons_of_mem _ m), List.length_cons]
    exact congrArg some (by omega)
/-! ### calls of the drawn book -/
def namesF (fs : List FX) : List Str := fs.map fun F => F.d.nm
theorem namesF_fx (fs : List FDr) : namesF (fs.map fxOf) = fs.map (·.nm) := by
  unfold namesF
  rw [List.map_map]
  rfl
theorem atName_nd {fs : List FX} (n : (namesF fs).Nodup) {F : FX} (h : F ∈ fs) : atName fs F.d.nm = some F := by
  have : ∀ l : List FX, (namesF l).Nodup → F ∈ l → atName l F.d.nm = some F := by
    refine fun l => snoc_ind (P := fun l => (namesF l).Nodup → F ∈ l → atName l F.d.nm = some F) (fun _ h => by cases h) (fun l G ih n h => ?_) l
    rw [atName_snoc]
    unfold namesF at n
    rw [List.map_append, List.nodup_append] at n
    rcases List.mem_append.mp h with h | h
    · rw [if_neg (fun e => n.2.2 _ (List.mem_map.mpr ⟨F, h, rfl⟩) _ (List.mem_singleton.mpr rfl) e.symm)]
      exact ih n.1 h
    · rw [List.mem_singleton.mp h, if_pos rfl]
  exact this fs n h
theorem atName_none {fs : List FX} {z : Str} (h : z ∉ namesF fs) : atName fs z = none := by
  cases e : atName fs z with
  | none => rfl
  | some F =>
    obtain ⟨e1, e2⟩ := atName_nm e
    exact absurd (List.mem_map.mpr ⟨F, e2, e1⟩) h
theorem BookAt.but {K : PySem.W.Frag} {H H' : Hp} {CK C CF CL a p : Addr} {zs : List V} {cells : List (Str × Str)} {fs : List FX} (h : BookAt K H CK C CF CL a cells fs) (ep : H p = some (.lst zs)) (b : But p H H') : BookAt K H' CK C CF CL a cells fs := by
  obtain ⟨dx, t1, t2, D, xs, ys, e, h1, r1, h2, r2, h3, l⟩ := h
  have np : ∀ {q : Addr} {o : HO}, H q = some o → (∀ zs, o ≠ .lst zs) → H' q = some o := fun {q o} e n => b _ _ e (fun z => n zs (by rw [z, ep] at e; exact (Option.some.inj e).symm))
  refine ⟨dx, t1, t2, D, xs, ys, np e (fun _ z => nomatch z), but_sqT ep b h1, r1.mono fun v c h => ?_, but_sqT ep b h2, r2.mono fun v F h => ?_, np h3 (fun _ z => nomatch z), l⟩
  · obtain ⟨q, e, dc, gs, eq, r⟩ := h
    exact ⟨q, e, dc, gs, np eq (fun _ z => nomatch z), r⟩
  · obtain ⟨q, e, h⟩ := h
    exact ⟨q, e, h.but ep b⟩
theorem turns4 {L i : Nat} (h : i < (if (if (4 : Int) < (L : Int) then (4 : Int) else (L : Int)) > 1 then (if (4 : Int) < (L : Int) then (4 : Int) else (L : Int)) else 1).toNat) : i ≤ 3 ∧ (i < L ∨ L = 0) := by
  split at h <;> split at h <;> omega
theorem range_bounds4 {L : Nat} : -(2 ^ 62) ≤ (if (if (4 : Int) < (L : Int) then (4 : Int) else (L : Int)) > 1 then (if (4 : Int) < (L : Int) then (4 : Int) else (L : Int)) else 1) ∧ (if (if (4 : Int) < (L : Int) then (4 : Int) else (L : Int)) > 1 then (if (4 : Int) < (L : Int) then (4 : Int) else (L : Int)) else 1) < 2 ^ 62 := by
  split <;> split <;> omega
structure LFn (P : Program) (w : World) (K : PySem.W.Frag) (mg : Str → Option Value) (base : Heap) (x : Str) (n : Nat) (f : Addr) (fd : FuncData) (ps : List Str) (sp : Sp) : Prop where
  ok : FnOk P w K mg base CX0 n f fd ps sp
  k : PySem.W.keepIn K (.ref f) = true
  b : Binds K fd ps []
  g : mg x = some (.ref f)
structure Mth (P : Program) (w : World) (K : PySem.W.Frag) (mg : Str → Option Value) (base : Heap) (C : Addr) (x : Str) (n : Nat) (f : Addr) (fd : FuncData) (ps : List Str) (sp : Sp) : Prop where
  ok : FnOk P w K mg base CX0 n f fd ps sp
  m : Meth K C x f
  b : Binds K fd ps []
theorem cal_of {cells : List (Str × Str)} {fs : List FDr} (nf : (fs.map (·.nm)).Nodup) {c : PyData} (h : CallOf (lbOf cells fs) c) : ∃ z gs F, c = .tuple [.str z, .tuple gs] ∧ F ∈ fs ∧ F.nm = z ∧ gs.length = F.many ∧ atName (fs.map fxOf) z = some (fxOf F) ∧ calFit (fs.map fxOf) c = true := by
  obtain ⟨_, z, gs, m, rfl, hm, hl⟩ := h
  obtain ⟨F, mF, e⟩ := List.mem_map.mp (show (z, m) ∈ fs.map fun F => (F.nm, F.many) from hm)
  injection e with e1 e2
  subst e1
  subst e2
  have nd : (namesF (fs.map fxOf)).Nodup := by
    rw [namesF_fx]
    exact nf
  have a : atName (fs.map fxOf) F.nm = some (fxOf F) := atName_nd nd (F := fxOf F) (List.mem_map.mpr ⟨F, mF, rfl⟩)
  refine ⟨_, gs, F, rfl, mF, rfl, hl, a, ?_⟩
  show (match atName (fs.map fxOf) F.nm with
    | some F => decide (F.d.ar = (gs.length : Nat))
    | none => false) = true
  rw [a]
  exact decide_eq_true (by rw [hl]; rfl)
theorem badK_none {fs : List FX} : ∀ {ds : List PyData} {i : Nat}, (∀ d ∈ ds, calFit fs d = true) → badK fs i ds = none
  | [], _, _ => rfl
  | d :: r, i, h => by
    unfold badK
    rw [if_pos (h d List.mem_cons_self)]
    exact badK_none fun e m => h e (List.mem_cons_of_mem _ m)
theorem badK_at {fs : List FX} {e : PyData} {r : List PyData} (he : calFit fs e = false) : ∀ {ds : List PyData} {i : Nat}, (∀ d ∈ ds, calFit fs d = true) → badK fs i (ds ++ e :: r) = some (i + ds.length)
  | [], i, _ => by
    show (if calFit fs e = true then _ else some i) = _
    rw [if_neg (by rw [he]; decide)]
    rfl
  | d :: ds, i, h => by
    show (if calFit fs d = true then badK fs (i + 1) (ds ++ e :: r) else _) = _
    rw [if_pos (h d List.mem_cons_self), badK_at he fun u m => h u (List.mem_cons_of_mem _ m), List.length_cons]
    exact congrArg some (by omega)
theorem all_cat (dc : PyData) (ods es : List PyData) : allCalls dc (ods ++ es) = allCalls dc ods ++ es.map fstD := by
  unfold allCalls
  rw [List.map_append, ← List.append_assoc]
def zz5 : PyData := .tuple [.str "zzzzz", .tuple []]
def zz6 : PyData := .tuple [.str "zzzzzz", .tuple []]
/-- the calls that the book hasn't -/
def oddC (c : PyData) : PyData := match c with
  | .tuple [n, .tuple gs] => if gs.length < 2 then .tuple [n, .tuple (gs ++ [.str "x"])] else .tuple [n, .tuple (gs.take 1)]
  | _ => .none
theorem odd_call {cells : List (Str × Str)} {fs : List FDr} (nf : (fs.map (·.nm)).Nodup) {c : PyData} (h : CallOf (lbOf cells fs) c) : callB (oddC c) = true ∧ calFit (fs.map fxOf) (oddC c) = false := by
  obtain ⟨z, gs, F, rfl, mF, e, hl, a, _⟩ := cal_of nf h
  obtain ⟨n, as, e2, hn, l2, hg⟩ := call_shape h.1
  injection e2 with e2
  injection e2 with e2 e3
  injection e3 with e3 _
  injection e3 with e3
  subst e2
  subst e3
  have cf : ∀ gs' : List PyData, gs'.length ≠ gs.length → calFit (fs.map fxOf) (.tuple [.str z, .tuple gs']) = false := fun gs' ne => by
    show (match atName (fs.map fxOf) z with
      | some F => decide (F.d.ar = (gs'.length : Nat))
      | none => false) = false
    rw [a]
    exact decide_eq_false fun q => ne (by rw [hl]; exact (Int.ofNat.inj (show Int.ofNat F.many = Int.ofNat gs'.length from q)).symm)
  show callB (if gs.length < 2 then _ else _) = true ∧ calFit _ (if gs.length < 2 then _ else _) = false
  by_cases q : gs.length < 2
  · rw [if_pos q]
    refine ⟨call_mk hn (by rw [List.length_append]; exact q) fun d m => ?_, cf _ (by rw [List.length_append]; show gs.length + 1 ≠ _; omega)⟩
    rcases List.mem_append.mp m with m | m
    · exact hg d m
    · rw [List.mem_singleton.mp m]
      decide +kernel
  · rw [if_neg q]
    have l : (gs.take 1).length = 1 := by rw [List.length_take]; omega
    exact ⟨call_mk hn (by omega) fun d m => hg d (List.mem_of_mem_take m), cf _ (by omega)⟩
theorem zz_fit {fs : List FDr} (h : ∀ F ∈ fs, F.nm.length ≤ 4 ∨ F.nm.length = 8) : calFit (fs.map fxOf) zz5 = false := by
  have a : atName (fs.map fxOf) "zzzzz" = none := atName_none (by
    rw [namesF_fx]
    intro m
    obtain ⟨F, mF, e⟩ := List.mem_map.mp m
    have l := h F mF
    rw [e] at l
    have : ("zzzzz" : Str).length = 5 := by decide +kernel
    omega)
  show (match atName (fs.map fxOf) "zzzzz" with
    | some F => decide (F.d.ar = (0 : Nat))
    | none => false) = false
  rw [a]
/-! ### the law of statements refused -/
abbrev sLaw : Stmt := topS 83
theorem scLaw : FnScope ["_law_script", "_law_k", "_law_pool_here", "_law_b", "_law_st", "_law_book_here", "_law_good", "_law_outs", "_law_leaf", "_law_deep", "_law_turn", "_law_odd", "_law_wanted", "_law_many", "_law_call", "_law_longer"] ["_law_script"] (defScope sLaw) := ⟨rfl, rfl, rfl, by decide +kernel, rfl, by decide +kernel, by decide +kernel⟩
def spLaw (K : PySem.W.Frag) : Sp := fun vs H Q _ => ∃ (a : Addr) (ns : List Int), vs = [.ref a] ∧ SqL K H a (ns.map V.int) ∧ ns.length ≤ 63 ∧ ∀ H', Q (.bl true) H'
/-- what the law has drawn and made -/
theorem nf_refE {K : PySem.W.Frag} {H0 : Hp} {σ : L2.St} {H : Hp} {te1 te2 ty : TE} {dc dO : PyData} {r : Option SErr} (e : stOut dc dO = r) (h1 : DatS K H0 te1 σ dc) (h2 : DatS K H0 te2 σ dO) (s : Same H0 H) (ok : InOk dc dO) (sh : r = some .tree → Shown dc ∧ PyData.strOk dc.shown = true) (hy : DatS K H0 ty σ (.list (toldD dc r))) : NF (tOp (rNeD K) (tCall (spRef K) [] E0 (tCons te1 (tCons te2 tNil))) ty) σ H := by
  subst e
  exact nf_ref h1 h2 s ok sh hy
theorem row_lt {c : PyData} (hc : callB c = true) {n : Nat} (n1 : 1 ≤ n) (n8 : n ≤ 8) : LT (fun _ => True) 2 n (n + 1) (.tuple [.str "and", .tuple (List.replicate n (leafD c))]) := by
  have ht : ∀ t ∈ List.replicate n (leafD c), LT (fun _ => True) 1 1 1 t := fun t m => by
    rw [(List.mem_replicate.mp m).2]
    exact deep_lt hc 0
  have o := ones ht
  rw [List.length_replicate] at o
  exact LT.row (fun t m => (ht t m).cl) (.inl rfl) (by rw [List.length_replicate]; exact n1) (by rw [List.length_replicate]; exact n8) (fun t m => (ht t m).tr) o.1 (by have := o.2; omega)
def toldKD : Option Nat → List PyData
  | none => []
  | some i => [.str "call", .int (i : Nat)]
theorem toldK_dp {K : PySem.W.Frag} {H : Hp} : ∀ r : Option Nat, DpAll K H (toldK r) (toldKD r)
  | none => .nil
  | some i => .cons (.str _) (.cons (.int _) .nil)
theorem list_sh {ds : List PyData} (h : ∀ d ∈ ds, d.canLay0 = true ∧ d.depth ≤ 40) : SeqAt.shaped (.list ds) = true ∧ PyData.eqv (.list ds) (.list ds) = true := by
  have z := (shaped_of h).1
  exact ⟨z, SeqAt.eqv_refl _ (SeqAt.canLay_of_shaped z)⟩
theorem pair_sh {z : Str} {i : Int} (hz : PyData.strOk z = true) : SeqAt.shaped (.list [.str z, .int i]) = true ∧ PyData.eqv (.list [.str z, .int i]) (.list [.str z, .int i]) = true := list_sh fun d m => by
  simp only [List.mem_cons, List.not_mem_nil, or_false] at m
  rcases m with rfl | rfl
  · exact ⟨hz, Nat.zero_le _⟩
  · exact ⟨rfl, Nat.zero_le _⟩
/-- te gives a list of these data, and so does ty -/
theorem nf_list {K : PySem.W.Frag} {σ : L2.St} {H : Hp} {te ty : TE} {ds : List PyData} (sh : SeqAt.shaped (.list ds) = true ∧ PyData.eqv (.list ds) (.list ds) = true) (h : ∀ Q : VK, (∀ l xs H', Same H H' → H' l = some (.lst xs) → DpAll K H' xs ds → Q (.ref l) H') → te σ H Q) (hy : DatS K H ty σ (.list ds)) : NF (tOp (rNeD K) te ty) σ H := fun Q q =>
  h _ fun l xs H1 s1 el hx => hy H1 _ s1 fun v H2 s2 hv => ⟨_, _, .lst (.inl (.inl (s2 _ _ el))) (dpA_same s2 hx), hv, sh.1, sh.1, by rw [sh.2]; exact q _ (s1.trans s2)⟩
theorem nfl_if {te : TE} {t1 : TS} {D : Ends} {σ : L2.St} {H : Hp} (h : NF te σ H) (k : ∀ H', Same H H' → D.nx σ H') : tIfS (tTest te) t1 tNext D σ H := h _ fun H' s => ⟨false, rfl, iteF (k H' s)⟩
structure Sit24 (K : PySem.W.Frag) (H : Hp) (CS CK C CF CL g bb lo : Addr) (vg vl vd : V) (us : List V) (dc : PyData) (ods : List PyData) (c : PyData) (cells : List (Str × Str)) (fs : List FDr) : Prop where
  st : LSt K H g dc ods
  ok : LSok dc ods
  lof : LOf (lbOf cells fs) dc ods
  nf : (fs.map (·.nm)).Nodup
  zz : ∀ F ∈ fs, F.nm.length ≤ 4 ∨ F.nm.length = 8
  bk : BookAt K H CK C CF CL bb cells (fs.map fxOf)
  gd : Dp K H vg c
  gc : CallOf (lbOf cells fs) c
  el : H lo = some (.lst us)
  hu : DpAll K H us ods
  lf : Dp K H vl (leafD c)
  dp : Dp K H vd (deepD c 7)
theorem Sit24.same {K : PySem.W.Frag} {H H' : Hp} {CS CK C CF CL g bb lo : Addr} {vg vl vd : V} {us : List V} {dc : PyData} {ods : List PyData} {c : PyData} {cells : List (Str × Str)} {fs : List FDr} (h : Sit24 K H CS CK C CF CL g bb lo vg vl vd us dc ods c cells fs) (s : Same H H') : Sit24 K H' CS CK C CF CL g bb lo vg vl vd us dc ods c cells fs :=
  ⟨h.st.same s, h.ok, h.lof, h.nf, h.zz, h.bk.same s, dp_same s h.gd, h.gc, s _ _ h.el, dpA_same s h.hu, dp_same s h.lf, dp_same s h.dp⟩
section
variable {P : Program} {w : World} {K : PySem.W.Frag} {mg : Str → Option Value} {base : Heap}
theorem ok_law {CS CK C CF CL fPl fB fS fI fA fM fK fC fR fT fW f : Addr} {R : SEr} {fd dPl dB dS dI dA dM dK dC dR dT dW : FuncData} (F0 : Fun K "law" "law" sLaw f fd) (M : Blt mg)
    (FPl : Fun K "_law_pool" "_law_pool" sPool fPl dPl) (bPl : Binds K dPl ["_law_script", "_law_k"] []) (gPl : mg "_law_pool" = some (.ref fPl))
    (LB : LFn P w K mg base "_law_book" 8 fB dB ["_law_pool_here", "_law_most", "_law_deep"] (spLB K)) (LS : LFn P w K mg base "_law_statement" 7 fS dS ["_law_pool_here", "_law_b", "_law_most"] (spLS K)) (SM : StMk P w K mg base CS fI dI R)
    (LA : LFn P w K mg base "_law_all_calls" 10 fA dA ["_law_st"] (spLA K)) (LM : LFn P w K mg base "_law_made_statement" 16 fM dM ["_law_st"] (spLMS K CS)) (LK : LFn P w K mg base "_law_made_book" 13 fK dK ["_law_b"] (spMade K CK C CF CL))
    (LD : LFn P w K mg base "_law_draw_call" 3 fC dC ["_law_pool_here", "_law_b"] (spDC K)) (GR : FnG P w K mg base 16 fR dR ["_law_tree_here", "_law_outs"] (spRef K)) (kR : PySem.W.keepIn K (.ref fR) = true) (bR : Binds K dR ["_law_tree_here", "_law_outs"] []) (gR : mg "_law_refused" = some (.ref fR))
    (LT : LFn P w K mg base "_law_fits" 8 fT dT ["_law_wanted", "_law_book_here"] (spLFits K CS CK C CF CL)) (LW : LFn P w K mg base "_law_more" 18 fW dW ["_law_wanted", "_law_call", "_law_shown"] (spMore K CS)) : FnG P w K mg base 20 f fd ["_law_script"] (spLaw K) := by
  have GP := ok_pool (P := P) (w := w) (base := base) FPl M
  refine Fun.okG F0 scLaw (fun vs H Q h => ?_) (fun cdv A outer s H vs Q gu hr h => ?_)
  · obtain ⟨a, ns, rfl, _⟩ := h
    rfl
  · obtain ⟨a, ns, rfl, hS, hlen, q⟩ := h
    have hrX : ∀ {n : Nat}, n ≤ 19 → Room n (A.deeper (envOfC "law" (defScope sLaw) s.heap.objs.size f cdv)) := fun h => hr.mono h
    have un0 : (A.deeper (envOfC "law" (defScope sLaw) s.heap.objs.size f cdv)).units + 100 < cLine := by have := hr.un; omega
    have hu := hu_of hr
    refine ⟨_, pss_cons (ps_for PassesOwn.never rfl (pi_range1 (by rfl) M.range (pa_cons (pe_callB (call_max2 rfl) (by rfl) M.max (by decide +kernel) (pa_cons pe_int (pa_cons (pe_callB (call_min2 rfl) (by rfl) M.min (by decide +kernel) (pa_cons (pe_callB call_len_seq (by rfl) M.len PySem.boot_len (pa_cons (pv 0) pa_nil)) (pa_cons pe_int pa_nil))) pa_nil))) pa_nil)) (pg_name (i := 1) scLaw.nd rfl (.inl rfl))
        (pss_cons (ps_set (i := 2) scLaw.nd rfl (.inl rfl) (pe_call GP (hrX (by decide)) (by rfl) gPl FPl.kp bPl .nil pass0 (pa_cons (pv 0) (pa_cons (pv 1) pa_nil))))
        (pss_cons (ps_set (i := 3) scLaw.nd rfl (.inl rfl) (pe_call LB.ok (hrX (by decide)) (by rfl) LB.g LB.k LB.b .nil pass0 (pa_cons (pv 2) (pa_cons pe_int (pa_cons pe_int pa_nil)))))
        (pss_cons (ps_par3 (i := 4) (j := 5) (l := 6) (by rfl) scLaw.nd rfl rfl rfl (by decide) (by decide) (by decide) rfl rfl rfl (pa_cons (pe_call LS.ok (hrX (by decide)) (by rfl) LS.g LS.k LS.b .nil pass0 (pa_cons (pv 2) (pa_cons (pv 3) (pa_cons pe_int pa_nil)))) (pa_cons (pe_call LK.ok (hrX (by decide)) (by rfl) LK.g LK.k LK.b .nil pass0 (pa_cons (pv 3) pa_nil))
            (pa_cons (pe_call LD.ok (hrX (by decide)) (by rfl) LD.g LD.k LD.b .nil pass0 (pa_cons (pv 2) (pa_cons (pv 3) pa_nil))) pa_nil))) rfl)
        (pss_cons (ps_par (i := 7) (j := 8) (by rfl) scLaw.nd rfl rfl (by decide) rfl rfl (pa_cons (pe_callTy call_list_of (by rfl) M.list (by decide +kernel) (pa_cons (pe_dget hu (pv 4) pe_str (fun _ _ => rfl)) pa_nil)) (pa_cons (pe_tup (pa_cons pe_str (pa_cons (pv 6) (pa_cons pe_int pa_nil)))) pa_nil)) rfl)
        (pss_cons (ps_set (i := 9) scLaw.nd rfl (.inl rfl) (pv 8))
        (pss_cons (ps_for PassesOwn.never rfl (pi_range1 (by rfl) M.range (pa_cons pe_int pa_nil)) (pg_name (i := 10) scLaw.nd rfl (.inl rfl)) (pss_one (ps_set (i := 9) scLaw.nd rfl (.inl rfl) (pe_tup (pa_cons pe_str (pa_cons (pv 9) pa_nil))))))
        (pss_cons (ps_if (PW.pt (pw_or (pt_cmpR (op_neD hr.units) (pe_callG GR gu (hrX (by decide)) (by rfl) gR kR bR (pa_cons (pv 9) (pa_cons (pe_lst pa_nil) pa_nil))) (pe_lst pa_nil) (nomark _))
            (pw_or1 (pt_cmpR (op_neD hr.units) (pe_callG GR gu (hrX (by decide)) (by rfl) gR kR bR (pa_cons (pe_tup (pa_cons pe_str (pa_cons (pe_tup (pa_cons (pv 8) pa_nil)) pa_nil))) (pa_cons (pe_lst pa_nil) pa_nil))) (pe_lst pa_nil) (nomark _))))) (pss_one (ps_ret pe_bl)) pss_nil)
        (pss_cons (ps_if (pt_cmpR (op_neD hr.units) (pe_callG GR gu (hrX (by decide)) (by rfl) gR kR bR (pa_cons (pe_tup (pa_cons pe_str (pa_cons (pv 9) pa_nil))) (pa_cons pe_non pa_nil)))
            (pe_lst (pa_cons pe_str (pa_cons (pe_callB (id := "repr") (r := rReprD K) (call_reprD (by exact gu) (by exact un0)) (by rfl) M.repr (by decide +kernel) (pa_cons (pe_tup (pa_cons pe_str (pa_cons (pv 9) pa_nil))) pa_nil)) pa_nil))) (nomark _)) (pss_one (ps_ret pe_bl)) pss_nil)
        (pss_cons (ps_for PassesOwn.never rfl (pi_list (pe_lst (pa_cons pe_int (pa_cons pe_str (pa_cons (pe_tup pa_nil) (pa_cons (pe_tup (pa_cons pe_str (pa_cons (pv 6) pa_nil))) (pa_cons (pe_tup (pa_cons pe_str (pa_cons (pe_tup pa_nil) pa_nil))) (pa_cons (pe_lst (pa_cons pe_str (pa_cons (pv 6) (pa_cons pe_int pa_nil)))) (pa_cons (pe_tup (pa_cons pe_str (pa_cons pe_non pa_nil))) (pa_cons (pe_tup (pa_cons pe_str (pa_cons (pe_tup (pa_cons (pv 8) (pa_cons pe_non pa_nil))) pa_nil))) pa_nil)))))))))) (pg_name (i := 11) scLaw.nd rfl (.inl rfl))
          (pss_one (ps_if (pt_cmpR (op_neD hr.units) (pe_callG GR gu (hrX (by decide)) (by rfl) gR kR bR (pa_cons (pv 11) (pa_cons pe_non pa_nil)))
            (pe_lst (pa_cons pe_str (pa_cons (pe_callB (id := "repr") (r := rReprD K) (call_reprD (by exact gu) (by exact un0)) (by rfl) M.repr (by decide +kernel) (pa_cons (pv 11) pa_nil)) pa_nil))) (nomark _)) (pss_one (ps_ret pe_bl)) pss_nil)))
        (pss_cons (ps_for PassesOwn.never rfl (pi_list (pe_lst (pa_cons pe_non (pa_cons pe_int (pa_cons pe_str pa_nil))))) (pg_name (i := 11) scLaw.nd rfl (.inl rfl))
          (pss_one (ps_if (pt_cmpR (op_neD hr.units) (pe_callG GR gu (hrX (by decide)) (by rfl) gR kR bR (pa_cons (pe_dget hu (pv 4) pe_str (fun _ _ => rfl)) (pa_cons (pv 11) pa_nil))) (pe_lst (pa_cons pe_str (pa_cons pe_non pa_nil))) (nomark _)) (pss_one (ps_ret pe_bl)) pss_nil)))
        (pss_cons (ps_for PassesOwn.never rfl (pi_list (pe_lst (pa_cons pe_non (pa_cons (pe_tup (pa_cons (pv 6) pa_nil)) (pa_cons (pe_tup (pa_cons (pv 6) (pa_cons pe_int pa_nil))) (pa_cons (pe_lst (pa_cons (pv 6) (pa_cons pe_bl pa_nil))) (pa_cons (pe_tup (pa_cons pe_non (pa_cons pe_bl pa_nil))) (pa_cons (pe_tup (pa_cons (pv 6) (pa_cons pe_non pa_nil))) (pa_cons (pe_tup (pa_cons (pv 6) (pa_cons pe_bl (pa_cons pe_bl pa_nil)))) pa_nil))))))))) (pg_name (i := 11) scLaw.nd rfl (.inl rfl))
          (pss_one (ps_if (pt_cmpR (op_neD hr.units) (pe_callG GR gu (hrX (by decide)) (by rfl) gR kR bR (pa_cons (pe_dget hu (pv 4) pe_str (fun _ _ => rfl)) (pa_cons (pe_op op_cat (pv 7) (pe_lst (pa_cons (pv 11) (pa_cons pe_non pa_nil)))) pa_nil))) (pe_lst (pa_cons pe_str (pa_cons (pe_callB call_len_seq (by rfl) M.len PySem.boot_len (pa_cons (pv 7) pa_nil)) pa_nil))) (nomark _)) (pss_one (ps_ret pe_bl)) pss_nil)))
        (pss_cons (ps_if (pt_cmpR (op_neD hr.units) (pe_callG GR gu (hrX (by decide)) (by rfl) gR kR bR (pa_cons (pe_tup (pa_cons pe_str (pa_cons (pe_op op_repT (pe_tup (pa_cons (pv 8) pa_nil)) pe_int) pa_nil))) (pa_cons (pe_lst (pa_cons (pe_tup (pa_cons (pv 6) (pa_cons pe_bl pa_nil))) pa_nil)) pa_nil))) (pe_lst (pa_cons pe_str (pa_cons pe_int pa_nil))) (nomark _)) (pss_one (ps_ret pe_bl)) pss_nil)
        (pss_cons (ps_if (pt_cmpR (op_neD hr.units) (pe_callG GR gu (hrX (by decide)) (by rfl) gR kR bR (pa_cons (pe_tup (pa_cons pe_str (pa_cons (pe_op op_repT (pe_tup (pa_cons (pv 8) pa_nil)) pe_int) pa_nil))) (pa_cons (pe_lst pa_nil) pa_nil))) (pe_lst pa_nil) (nomark _)) (pss_one (ps_ret pe_bl)) pss_nil)
        (pss_cons (ps_par (i := 12) (j := 13) (by rfl) scLaw.nd rfl rfl (by decide) rfl rfl (pa_cons (pe_call LM.ok (hrX (by decide)) (by rfl) LM.g LM.k LM.b .nil pass0 (pa_cons (pv 4) pa_nil)) (pa_cons (pe_callB call_len_seq (by rfl) M.len PySem.boot_len (pa_cons (pe_call LA.ok (hrX (by decide)) (by rfl) LA.g LA.k LA.b .nil pass0 (pa_cons (pv 4) pa_nil)) pa_nil)) pa_nil)) rfl)
        (pss_cons (ps_if (PW.pt (pw_or (pt_cmpR (op_neD hr.units) (pe_call LT.ok (hrX (by decide)) (by rfl) LT.g LT.k LT.b .nil pass0 (pa_cons (pv 12) (pa_cons (pv 5) pa_nil))) (pe_lst pa_nil) (nomark _))
            (pw_or1 (pt_cmpR (op_neD hr.units) (pe_call LW.ok (hrX (by decide)) (by rfl) LW.g LW.k LW.b .nil pass0 (pa_cons (pv 12) (pa_cons (pv 6) (pa_cons pe_int pa_nil)))) (pe_lst (pa_cons pe_str (pa_cons (pe_callB call_len_seq (by rfl) M.len PySem.boot_len (pa_cons (pv 7) pa_nil)) pa_nil))) (nomark _))))) (pss_one (ps_ret pe_bl)) pss_nil)
        (pss_one (ps_for PassesOwn.never rfl (pi_list (pe_lst (pa_cons (pe_tup (pa_cons pe_str (pa_cons (pe_tup pa_nil) pa_nil))) (pa_cons (pe_ifExp (pt_cmpR op_lt (pe_callB call_len_seq (by rfl) M.len PySem.boot_len (pa_cons (pe_ix ix_tup (pv 6) pe_int (fun _ _ => rfl)) pa_nil)) pe_int (nomark _))
              (pe_tup (pa_cons (pe_ix ix_tup (pv 6) pe_int (fun _ _ => rfl)) (pa_cons (pe_op op_catA (pe_ix ix_tup (pv 6) pe_int (fun _ _ => rfl)) (pe_tup (pa_cons pe_str pa_nil))) pa_nil)))
              (pe_tup (pa_cons (pe_ix ix_tup (pv 6) pe_int (fun _ _ => rfl)) (pa_cons (pe_slice sl_tup (pe_ix ix_tup (pv 6) pe_int (fun _ _ => rfl)) po_none (po_some pe_int)) pa_nil)))) pa_nil)))) (pg_name (i := 14) scLaw.nd rfl (.inl rfl))
          (pss_cons (ps_set (i := 15) scLaw.nd rfl (.inl rfl) (pe_op op_cat (pv 7) (pe_lst (pa_cons (pe_tup (pa_cons (pv 14) (pa_cons pe_bl pa_nil))) (pa_cons (pe_tup (pa_cons (pe_tup (pa_cons pe_str (pa_cons (pe_tup pa_nil) pa_nil))) (pa_cons pe_bl pa_nil))) pa_nil)))))
          (pss_one (ps_if (pt_cmpR (op_neD hr.units) (pe_call LT.ok (hrX (by decide)) (by rfl) LT.g LT.k LT.b .nil pass0 (pa_cons (pe_make (E := E0) (dvs := []) SM.make SM.ok (hrX (by decide)) (by rfl) SM.gC SM.bi .nil pass00 (pa_cons (pe_dget hu (pv 4) pe_str (fun _ _ => rfl)) (pa_cons (pv 15) pa_nil))) (pa_cons (pv 5) pa_nil))) (pe_lst (pa_cons pe_str (pa_cons (pv 13) pa_nil))) (nomark _)) (pss_one (ps_ret pe_bl)) pss_nil)))))))))))))))))))))
      (pss_one (ps_ret pe_bl)), ?_⟩
    refine ⟨.ref a, rfl, a, _, rfl, .inl hS, _, _, rfl, _, _, rfl, _, rfl, range_bounds4.1, range_bounds4.2, ?_⟩
    refine for_range (lo := 0) (n := _) (fun i σ H' => ∃ y1 y2 y3 y4 y5 y6 y7 y8 y9 y10 y11 y12 y13 y14 y15, σ = [some (.ref a), y1, y2, y3, y4, y5, y6, y7, y8, y9, y10, y11, y12, y13, y14, y15] ∧ Same H H')
      ⟨none, none, none, none, none, none, none, none, none, none, none, none, none, none, none, rfl, Same.refl H⟩ (fun i σ H0 hi hW => ?_) (fun σ H0 hW => q H0)
    obtain ⟨y1, y2, y3, y4, y5, y6, y7, y8, y9, y10, y11, y12, y13, y14, y15, rfl, s0⟩ := hW
    have ht := turns4 hi
    rw [List.length_map] at ht
    refine ⟨.ref a, rfl, _, rfl, a, ns, i, (by show ([V.ref a, V.int (0 + (i : Int))] : List V) = _; rw [Int.zero_add]), s0.seq hS, ht.1, ht.2.imp id (fun e => List.eq_nil_of_length_eq_zero e), fun H1 p np s1 hp => ?_⟩
    have nHp : H p = none := s0.free np
    dsimp only [gName, List.set]
    refine ⟨.ref p, rfl, p, 3, 1, rfl, hp, by decide, by decide, by decide, fun b words cells fs H2 b2 hp2 lw wn wnd wz bk ok lf nb => ?_⟩
    have s2 : Same H H2 := same_but (s0.trans s1) nHp b2
    have N := ok.lok wn
    have bl := bk.lbk
    have fit := ok.fit (by decide) wn wnd lf
    have zz : ∀ F ∈ fs, F.nm.length ≤ 4 ∨ F.nm.length = 8 := fun F m => by
      obtain ⟨j, e⟩ := List.mem_iff_getElem?.mp m
      exact wz _ (List.mem_of_getElem? (ok.fn j F e).1)
    have l1 : 1 ≤ (lbOf cells fs).fns.length := by
      show 1 ≤ (fs.map _).length
      rw [List.length_map]
      exact lf
    clear lw wn wnd wz nb
    dsimp only [gName, List.set]
    refine ⟨.ref p, rfl, .ref b, rfl, lbOf cells fs, p, b, 3, rfl, N, l1, hp2, bl, by decide, fun g dc ods H3 b3 hp3 ng ls3 ok1 lof => ?_⟩
    refine ⟨.ref b, rfl, b, cells, fs, rfl, bk.but hp2 b3, fit, fun bb H4 s4 nb4 hB => ?_⟩
    have hp4 := hp3.same s4
    have b4 : But p H2 H4 := but_sameN b3 s4
    obtain ⟨x4, z4, ep4, _⟩ := id hp4
    refine ⟨.ref p, rfl, .ref b, rfl, lbOf cells fs, p, b, rfl, N, l1, hp4, bl.but hp2 b4, fun vg c H5 b5 hp5 dg5 gc => ⟨_, _, _, rfl, ?_⟩⟩
    have st5 := (ls3.same s4).but ok1 hp4 b5
    have bk5 := hB.but ep4 b5
    have s5 : Same H H5 := same_but s2 nHp (b4.trans b5)
    clear b5 hp5 hB b4 hp4 s4 nb4 ls3 b3 hp3 ng bk b2 hp2 s2 ep4
    dsimp only [List.set]
    obtain ⟨vc, t, us, eg, dvc, ht5, hus⟩ := id st5
    refine ⟨.ref g, rfl, g, .ref t, rfl, dg eg "outputs" rfl, t, us, rfl, .inr ht5, fun lo nlo => ⟨vg, rfl, (by show 3 ≤ sizeLine; decide), fun tl ntl => ⟨_, _, rfl, ?_⟩⟩⟩
    have so := same_upd (o := HO.lst us) nlo
    have st' := same_upd (o := HO.tup [V.str "is", vg, .int 0]) ntl
    have elo : (upd (upd H5 lo (.lst us)) tl (.tup [V.str "is", vg, .int 0])) lo = some (.lst us) := st' _ _ upd_same
    have lf6 : Dp K (upd (upd H5 lo (.lst us)) tl (.tup [V.str "is", vg, .int 0])) (.ref tl) (leafD c) := dpT ntl (.cons (.str _) (.cons (dp_same so dg5) (.cons (.int 0) .nil)))
    have s6 := so.trans st'
    generalize upd (upd H5 lo (.lst us)) tl (.tup [V.str "is", vg, .int 0]) = H6 at elo lf6 s6 ⊢
    have sH6 := s5.trans s6
    have sit0 := fun (vd : V) (G : Hp) (sG : Same H6 G) (hd : Dp K G vd (deepD c 7)) => (⟨(st5.same s6).same sG, ok1, lof, fit.nf, zz, (bk5.same s6).same sG, dp_same sG (dp_same s6 dg5), gc, sG _ _ elo, dpA_same sG (dpA_same s6 hus), dp_same sG lf6, hd⟩ : Sit24 K G CS CK C CF CL g bb lo vg (.ref tl) vd us dc ods c cells fs)
    have cb := gc.1
    clear so st' nlo ntl
    dsimp only [List.set]
    refine ⟨.ref tl, rfl, ?_⟩
    dsimp only [gName, List.set]
    refine ⟨7, rfl, by decide, by decide, ?_⟩
    refine for_range (lo := 0) (n := _) (fun j σ H' => ∃ vd z10, σ = [some (.ref a), some (.int ((0 : Int) + (i : Nat))), some (.ref p), some (.ref b), some (.ref g), some (.ref bb), some vg, some (.ref lo), some (.ref tl), some vd, z10, y11, y12, y13, y14, y15] ∧ Same H6 H' ∧ Dp K H' vd (deepD c j))
      ⟨_, _, rfl, Same.refl _, lf6⟩ (fun j σ G hj hW => ?_) (fun σ G hW => ?_)
    · obtain ⟨vd, z10, rfl, sG, hd⟩ := hW
      refine ⟨vd, rfl, (by show 2 ≤ sizeLine; decide), fun t2 nt2 => ?_⟩
      exact ⟨_, _, rfl, sG.trans (same_upd nt2), dpT nt2 (.cons (.str _) (.cons hd .nil))⟩
    obtain ⟨vd, z10, rfl, sG, hd⟩ := hW
    have S := sit0 vd G sG hd
    have sHG := sH6.trans sG
    clear sit0 sG hd
    have noT : ∀ {r : Option SErr} {A : Prop}, r = none → r = some .tree → A := fun e1 e2 => by rw [e1] at e2; cases e2
    obtain ⟨iD, cD, nD⟩ := in_tree (dO := .list []) (deep_lt cb 7) (by decide) (by decide) (by decide) rfl (by decide)
    obtain ⟨iA, cA, nA⟩ := in_tree (dO := .list []) (row_lt cb (n := 1) (by decide) (by decide)) (by decide) (by decide) (by decide) rfl (by decide)
    have eD : stOut (deepD c 7) (.list []) = none := stOut_ok cD rfl (fun d m => by cases m) (by rw [show allCalls (deepD c 7) (itemsD (.list [])) = condCalls (deepD c 7) from List.append_nil _, nD]; decide)
    have eA : stOut (.tuple [.str "and", .tuple (List.replicate 1 (leafD c))]) (.list []) = none := stOut_ok cA rfl (fun d m => by cases m) (by rw [show allCalls (.tuple [.str "and", .tuple (List.replicate 1 (leafD c))]) (itemsD (.list [])) = condCalls (.tuple [.str "and", .tuple (List.replicate 1 (leafD c))]) from List.append_nil _, nA]; decide)
    refine nfs_or (nf_refE (H0 := G) eD (ds_var rfl S.dp) (ds_lst dsa_nil (by decide)) (Same.refl G) iD (fun e => by cases e) (ds_lst dsa_nil (by show 0 ≤ sizeLine; decide)))
      (fun H7 s7 => nf_refE (H0 := G) eA (ds_tup (dsa_cons ds_str (dsa_cons (ds_tup (dsa_cons (ds_var rfl S.lf) dsa_nil) (by show 1 ≤ sizeLine; decide)) dsa_nil)) (by show 2 ≤ sizeLine; decide)) (ds_lst dsa_nil (by decide)) s7 iA (fun e => by cases e) (ds_lst dsa_nil (by show 0 ≤ sizeLine; decide))) fun H8 s8 => ?_
    have S8 := S.same s8
    have sH8 := sHG.trans s8
    clear S sHG s8 eD eA iD cD nD iA cA nA
    -- the tree that is too deep
    have no8 : treeB 8 (deepD c 8) = false := deep_no 8 8 (Nat.le_refl _)
    have nt8 : noTree (deepD c 8) = true := by
      show (!treeB 8 (deepD c 8)) = true
      rw [no8]
      rfl
    refine nfs_if (nf_refE (H0 := H8) (dc := deepD c 8) (dO := .none) (stOut_tree nt8) (ds_tup (dsa_cons ds_str (dsa_cons (ds_var rfl S8.dp) dsa_nil)) (by show 2 ≤ sizeLine; decide)) ds_non (Same.refl H8) (in_no (deep_sz cb 8) no8 rfl (by decide)) (fun _ => ⟨(deep_sh cb).shown (by decide) (by decide), (deep_sh cb).ok⟩)
      (ds_lst (dsa_cons ds_str (dsa_cons (ds_repr (d := deepD c 8) (ds_tup (dsa_cons ds_str (dsa_cons (ds_var rfl S8.dp) dsa_nil)) (by show 2 ≤ sizeLine; decide)) ((deep_sh cb).shown (by decide) (by decide))) dsa_nil)) (by show 2 ≤ sizeLine; decide))) fun H9 s9 => ?_
    have S9 := S8.same s9
    have sH9 := sH8.trans s9
    clear S8 sH8 s9 no8 nt8
    -- what is no tree
    refine odd_loopG (i := 11) (ds := oddT c) ⟨_, rfl⟩ (fun Rr r => dsl_new (K := K) (H0 := H9) (ds := oddT c) (dsa_cons ds_int (dsa_cons ds_str (dsa_cons (ds_tup dsa_nil (by decide)) (dsa_cons (ds_tup (dsa_cons ds_str (dsa_cons (ds_var rfl S9.gd) dsa_nil)) (by show 2 ≤ sizeLine; decide)) (dsa_cons (ds_tup (dsa_cons ds_str (dsa_cons (ds_tup dsa_nil (by decide)) dsa_nil)) (by show 2 ≤ sizeLine; decide)) (dsa_cons (ds_lst (dsa_cons ds_str (dsa_cons (ds_var rfl S9.gd) (dsa_cons ds_int dsa_nil))) (by show 3 ≤ sizeLine; decide)) (dsa_cons (ds_tup (dsa_cons ds_str (dsa_cons ds_non dsa_nil)) (by show 2 ≤ sizeLine; decide))
        (dsa_cons (ds_tup (dsa_cons ds_str (dsa_cons (ds_tup (dsa_cons (ds_var rfl S9.lf) (dsa_cons ds_non dsa_nil)) (by show 2 ≤ sizeLine; decide)) dsa_nil)) (by show 2 ≤ sizeLine; decide)) dsa_nil)))))))) (by show 8 ≤ sizeLine; decide) (Same.refl H9) fun l xs H' s' el hx => r l xs H' s' el hx)
      (fun x e HA sA me hx => by
        obtain ⟨b1, b2, b3, b4⟩ := oddT_bad cb e me
        exact nf_refE (H0 := HA) (stOut_tree b1) (ds_var (i := 11) rfl hx) ds_non (Same.refl HA) (in_no b3 b2 rfl (by decide)) (fun _ => ⟨b4.shown (by decide) (by decide), b4.ok⟩) (ds_lst (dsa_cons ds_str (dsa_cons (ds_repr (ds_var (i := 11) rfl hx) (b4.shown (by decide) (by decide))) dsa_nil)) (by show 2 ≤ sizeLine; decide)))
      fun o HA sA => ?_
    have SA := S9.same sA
    have sHA := sH9.trans sA
    clear S9 sH9 sA
    dsimp only [List.set]
    -- what is no row of outputs
    have kc := ok1.cond.1
    have zdc : szD dc = true := (cond_ok kc).2.2
    have l3 := ok1.cond.2
    have trc := cond_tr kc (by omega)
    obtain ⟨vc1, t1, us1, eg1, dvc1, _⟩ := id SA.st
    refine odd_loopG (i := 11) (ds := [.none, .int 5, .str "ab"]) ⟨_, rfl⟩ (fun Rr r => dsl_new (K := K) (H0 := HA) (ds := [.none, .int 5, .str "ab"]) (dsa_cons ds_non (dsa_cons ds_int (dsa_cons ds_str dsa_nil))) (by show 3 ≤ sizeLine; decide) (Same.refl HA) fun l xs H' s' el hx => r l xs H' s' el hx)
      (fun x e HB sB me hx => by
        obtain ⟨b1, b2, b3⟩ : isSeq e = false ∧ szD e = true ∧ itemsD e = [] := by
          simp only [List.mem_cons, List.not_mem_nil, or_false] at me
          rcases me with rfl | rfl | rfl <;> exact ⟨rfl, by decide +kernel, rfl⟩
        exact nf_refE (H0 := HB) (stOut_noseq kc b1) (ds_dget (i := 4) rfl (sB _ _ eg1) rfl (dp_same sB dvc1)) (ds_var (i := 11) rfl hx) (Same.refl HB) ⟨zdc, b2, by rw [b3]; decide, trc⟩ (fun e => by cases e) (ds_lst (dsa_cons ds_str (dsa_cons ds_non dsa_nil)) (by show 2 ≤ sizeLine; decide)))
      fun o2 HB sB => ?_
    have SB := SA.same sB
    have sHB := sHA.trans sB
    clear eg1 dvc1 SA sHA sB
    dsimp only [List.set]
    -- what is no output
    obtain ⟨vc2, t2, us2, eg2, dvc2, _⟩ := id SB.st
    have lo2 := ok1.lo
    refine odd_loopG (i := 11) (ds := oddO c) ⟨_, rfl⟩ (fun Rr r => dsl_new (K := K) (H0 := HB) (ds := oddO c) (dsa_cons ds_non (dsa_cons (ds_tup (dsa_cons (ds_var rfl SB.gd) dsa_nil) (by show 1 ≤ sizeLine; decide)) (dsa_cons (ds_tup (dsa_cons (ds_var rfl SB.gd) (dsa_cons ds_int dsa_nil)) (by show 2 ≤ sizeLine; decide)) (dsa_cons (ds_lst (dsa_cons (ds_var rfl SB.gd) (dsa_cons ds_bl dsa_nil)) (by show 2 ≤ sizeLine; decide)) (dsa_cons (ds_tup (dsa_cons ds_non (dsa_cons ds_bl dsa_nil)) (by show 2 ≤ sizeLine; decide)) (dsa_cons (ds_tup (dsa_cons (ds_var rfl SB.gd) (dsa_cons ds_non dsa_nil)) (by show 2 ≤ sizeLine; decide))
        (dsa_cons (ds_tup (dsa_cons (ds_var rfl SB.gd) (dsa_cons ds_bl (dsa_cons ds_bl dsa_nil))) (by show 3 ≤ sizeLine; decide)) dsa_nil))))))) (by show 7 ≤ sizeLine; decide) (Same.refl HB) fun l xs H' s' el hx => r l xs H' s' el hx)
      (fun x e HC sC me hx => by
        obtain ⟨b1, b2⟩ := oddO_bad cb e me
        have zs : szDs (ods ++ [e, .none]) = true := szDs_of9 fun u m => by
          rcases List.mem_append.mp m with m | m
          · exact (out_ok (ok1.o.ok u m)).2.2.2
          · simp only [List.mem_cons, List.not_mem_nil, or_false] at m
            rcases m with rfl | rfl
            · exact b2
            · rfl
        have ll : (ods ++ [e, PyData.none]).length ≤ 4 := by
          rw [List.length_append]
          exact Nat.add_le_add_right lo2 2
        have eO : stOut dc (.list (ods ++ [e, .none])) = some (.out (some ods.length)) := by
          rw [stOut_out (dO := PyData.list (ods ++ [e, PyData.none])) (i := 0 + ods.length) kc rfl (badO_at b1 ok1.o.ok), Nat.zero_add]
        exact nf_refE (H0 := HC) eO (ds_dget (i := 4) rfl (sC _ _ eg2) rfl (dp_same sC dvc2)) (ds_catL (i := 7) rfl (sC _ _ SB.el) (dpA_same sC SB.hu) (dsa_cons (ds_var (i := 11) rfl hx) (dsa_cons ds_non dsa_nil)) (by omega) (by show 2 ≤ 100; decide)) (Same.refl HC) ⟨zdc, (sz_listof (by omega) zs).1, by show (ods ++ [e, PyData.none]).length ≤ 20; omega, trc⟩ (fun e => by cases e)
          (ds_lst (dsa_cons ds_str (dsa_cons (ds_lenL (i := 7) rfl (sC _ _ SB.el) (dpA_len SB.hu)) dsa_nil)) (by show 2 ≤ sizeLine; decide)))
      fun o3 HC sC => ?_
    have SC := SB.same sC
    have sHC := sHB.trans sC
    clear eg2 dvc2 SB sHB sC
    dsimp only [List.set]
    -- nine calls, eight calls
    have lt8 := row_lt cb (n := 8) (by decide) (by decide)
    have ob : outB (.tuple [c, .bool true]) = true := cb
    have zob : szD (.list [.tuple [c, .bool true]]) = true := (sz_listof (by show 1 ≤ 1000; decide) (szDs_of9 fun u m => by rw [List.mem_singleton.mp m]; exact (out_ok ob).2.2.2)).1
    obtain ⟨i9, c9, n9⟩ := in_tree (dO := .list [.tuple [c, .bool true]]) lt8 (by decide) (by decide) (by decide) zob (by show 1 ≤ 20; decide)
    obtain ⟨i8, c8, n8⟩ := in_tree (dO := .list []) lt8 (by decide) (by decide) (by decide) rfl (by decide)
    have e9 : stOut (.tuple [.str "and", .tuple (List.replicate 8 (leafD c))]) (.list [.tuple [c, .bool true]]) = some .many := stOut_many c9 rfl (fun d m => by rw [List.mem_singleton.mp (show d ∈ [PyData.tuple [c, .bool true]] from m)]; exact ob) (by
      show 8 < (condCalls _ ++ [c]).length
      rw [List.length_append, n9]
      show 8 < 8 + 1
      decide)
    have e8 : stOut (.tuple [.str "and", .tuple (List.replicate 8 (leafD c))]) (.list []) = none := stOut_ok c8 rfl (fun d m => by cases m) (by rw [show allCalls (.tuple [.str "and", .tuple (List.replicate 8 (leafD c))]) (itemsD (.list [])) = condCalls (.tuple [.str "and", .tuple (List.replicate 8 (leafD c))]) from List.append_nil _, n8]; decide)
    refine nfs_if (nf_refE (H0 := HC) e9 (ds_tup (dsa_cons ds_str (dsa_cons (ds_repT (m := 8) (ds_var rfl SC.lf) (by decide) (by decide) rfl) dsa_nil)) (by show 2 ≤ sizeLine; decide)) (ds_lst (dsa_cons (ds_tup (dsa_cons (ds_var rfl SC.gd) (dsa_cons ds_bl dsa_nil)) (by show 2 ≤ sizeLine; decide)) dsa_nil) (by show 1 ≤ sizeLine; decide)) (Same.refl HC) i9 (fun e => by cases e)
      (ds_lst (dsa_cons ds_str (dsa_cons ds_int dsa_nil)) (by show 2 ≤ sizeLine; decide))) fun HD sD => ?_
    refine nfs_if (nf_refE (H0 := HC) e8 (ds_tup (dsa_cons ds_str (dsa_cons (ds_repT (m := 8) (ds_var rfl SC.lf) (by decide) (by decide) rfl) dsa_nil)) (by show 2 ≤ sizeLine; decide)) (ds_lst dsa_nil (by decide)) sD i8 (fun e => by cases e)
      (ds_lst dsa_nil (by show 0 ≤ sizeLine; decide))) fun HE sE => ?_
    have SE := SC.same (sD.trans sE)
    have sHE := sHC.trans (sD.trans sE)
    clear SC sHC sD sE lt8 zob i9 c9 n9 i8 c8 n8 e9 e8
    -- a Statement that fits
    refine ⟨.ref g, rfl, g, dc, ods, rfl, SE.st, ok1, fun x HF sF hX => ?_⟩
    refine ⟨.ref g, rfl, g, dc, ods, rfl, SE.st.same sF, ok1, fun lc cs HG sG nlc elc hcs => ⟨lc, cs, rfl, .inl (.inl (.inl elc)), _, _, rfl, ?_⟩⟩
    rw [dpA_len hcs]
    have SG := SE.same (sF.trans sG)
    have sHG := sHE.trans (sF.trans sG)
    have hXG := hX.same sG
    clear SE sHE sF sG hX elc hcs nlc
    dsimp only [List.set]
    have call_all : ∀ d ∈ allCalls dc ods, calFit (fs.map fxOf) d = true := fun d m => by
      rcases List.mem_append.mp m with m | m
      · exact (cal_of fit.nf (lof.1 d m)).choose_spec.choose_spec.choose_spec.2.2.2.2.2
      · obtain ⟨e, me, rfl⟩ := List.mem_map.mp m
        exact (cal_of fit.nf (lof.2 e me)).choose_spec.choose_spec.choose_spec.2.2.2.2.2
    refine nfs_or (nf_list (ds := []) (list_sh fun d m => by cases m) (fun Qr r => ⟨.ref x, rfl, .ref bb, rfl, x, bb, dc, ods, cells, fs.map fxOf, rfl, hXG, SG.bk, fun l H' s' el => r l [] H' s' (by rw [badK_none call_all] at el; exact el) .nil⟩) (ds_lst dsa_nil (by decide)))
      (fun HH sH' => nf_list (ds := [.str "output", .int (ods.length : Nat)]) (pair_sh (by decide +kernel)) (fun Qr r => ⟨.ref x, rfl, vg, rfl, x, vg, .int 1, c, .int 1, dc, ods, ods.length, rfl, hXG.same sH', dp_same sH' SG.gd, .int 1, (call_ok cb).2.2.2, rfl, by
          rw [badO_at (i := 0) (r := []) (e := .tuple [c, .int 1]) rfl ok1.o.ok, Nat.zero_add], fun l H' s' el => r l _ H' s' el (.cons (.str _) (.cons (.int _) .nil))⟩)
        (ds_lst (dsa_cons ds_str (dsa_cons (ds_lenL (i := 7) rfl (sH' _ _ SG.el) (dpA_len SG.hu)) dsa_nil)) (by show 2 ≤ sizeLine; decide))) fun HI sI => ?_
    have SI := SG.same sI
    have sHI := sHG.trans sI
    clear SG sHG hXG sI
    -- a call that the book hasn't
    obtain ⟨z, gs, F, rfl, mF, eF, lg, aF, _⟩ := cal_of fit.nf gc
    have gd := SI.gd
    unfold tFor iList
    refine dsl_new (K := K) (H0 := HI) (ds := [zz5, oddC (.tuple [.str z, .tuple gs])]) (dsa_cons (ds_tup (dsa_cons ds_str (dsa_cons (ds_tup dsa_nil (by decide)) dsa_nil)) (by show 2 ≤ sizeLine; decide)) (dsa_cons (fun HL Q2 sL q2 => ?odd) dsa_nil)) (by show 2 ≤ sizeLine; decide) (Same.refl HI) fun l xs HL sL el hx => ?_
    case odd =>
      have gL := dp_same sL gd
      cases gL with
      | @tup e xs _ hs ha =>
      obtain ⟨x1, x2, rfl, k1, k2⟩ := dp_pair ha
      cases k1
      cases k2 with
      | @tup e2 us2 _ hs2 ha2 =>
      have lu := dpA_len ha2
      refine ⟨.ref e, rfl, e, _, 1, .ref e2, rfl, rfl, hs, rfl, e2, us2, rfl, .inr hs2, _, _, rfl, rfl, _, rfl, ?_⟩
      rw [lu]
      by_cases q2' : gs.length < 2
      · refine iteT' (decide_eq_true (by omega)) ?_
        refine ⟨.ref e, rfl, e, _, 0, .str z, rfl, rfl, hs, rfl, .ref e, rfl, e, _, 1, .ref e2, rfl, rfl, hs, rfl, (by show 1 ≤ sizeLine; decide), fun p1 np1 => ?_⟩
        have sp1 := same_upd (o := HO.tup [V.str "x"]) np1
        have eo : oddC (.tuple [.str z, .tuple gs]) = .tuple [.str z, .tuple (gs ++ [.str "x"])] := if_pos q2'
        rw [eo] at q2
        have fin : ∀ (o : Addr) (ys : List V) (H3 : Hp), Same HL H3 → SqT K H3 o ys → DpAll K H3 ys (gs ++ [.str "x"]) → 2 ≤ sizeLine ∧ ∀ t, H3 t = none → Q2 (.ref t) (upd H3 t (.tup [.str z, .ref o])) := fun o ys H3 s3 ho hy => ⟨by decide, fun t nt => q2 _ _ (s3.trans (same_upd nt)) (dpT nt (.cons (.str _) (.cons (.tup ho hy) .nil)))⟩
        refine ⟨e2, p1, us2, [.str "x"], rfl, rfl, same_sqT sp1 hs2, .inl (.inl upd_same), Nat.le_trans (show us2.length + 1 ≤ 3 by omega) (by decide), fun e0 => ?_, fun _ e1 => absurd e1 (List.cons_ne_nil _ _), fun _ _ p3 np3 => ?_⟩
        · subst e0
          cases ha2
          exact fin p1 [.str "x"] _ sp1 (.inl (.inl upd_same)) (.cons (.str _) .nil)
        · have s3 := same_upd (o := HO.tup (us2 ++ [V.str "x"])) np3
          exact fin p3 (us2 ++ [.str "x"]) _ (sp1.trans s3) (.inl (.inl upd_same)) (dpA_app (dpA_same (sp1.trans s3) ha2) (.cons (.str _) .nil))
      · refine iteF' (decide_eq_false (by omega)) ?_
        have eo : oddC (.tuple [.str z, .tuple gs]) = .tuple [.str z, .tuple (gs.take 1)] := if_neg q2'
        rw [eo] at q2
        have l2' : gs.length = 2 := by
          have := (fit.ok.f (F.nm, F.many) (List.mem_map.mpr ⟨F, mF, rfl⟩)).2
          have h2 : F.many ≤ 2 := this
          omega
        obtain ⟨d0, d1, rfl⟩ := len2 l2'
        obtain ⟨v0, v1, rfl, h0, h1⟩ := dp_pair ha2
        exact ⟨.ref e, rfl, e, _, 0, .str z, rfl, rfl, hs, rfl, .ref e, rfl, e, _, 1, .ref e2, rfl, rfl, hs, rfl, 1, rfl, e2, _, rfl, hs2, (by show ¬(HT.sIx 2 0 none = 0 ∧ HT.sIx 2 2 (some 1) = 2); decide), fun p3 np3 => ⟨(by show 2 ≤ sizeLine; decide), fun t nt => q2 _ _ ((same_upd np3).trans (same_upd nt)) (dpT nt (.cons (.str _) (.cons (dpT np3 (.cons h0 .nil)) .nil)))⟩⟩
    have two := odd_call fit.nf gc
    have cd : ∀ d ∈ [zz5, oddC (.tuple [.str z, .tuple gs])], callB d = true ∧ calFit (fs.map fxOf) d = false := fun d m => by
      rcases List.mem_cons.mp m with rfl | m
      · exact ⟨by decide +kernel, zz_fit SI.zz⟩
      · rw [List.mem_singleton.mp m]
        exact two
    have SL := SI.same sL
    have sHL := sHI.trans sL
    generalize oddC (.tuple [.str z, .tuple gs]) = oc at cd hx
    clear two SI sHI sL gd
    refine ⟨l, rfl, ⟨_, .inl (.inl el)⟩, ?_⟩
    refine for_list (K := K) (a := l) (xs := xs) (fun j σ H' => ∃ z14 z15, σ = [some (.ref a), some (.int ((0 : Int) + (i : Nat))), some (.ref p), some (.ref b), some (.ref g), some (.ref bb), some vg, some (.ref lo), some (.ref tl), some vd, z10, o3, some (.ref x), some (.int ((allCalls dc ods).length : Nat)), z14, z15] ∧ Same HL H')
      ⟨_, _, rfl, Same.refl _⟩ (fun j σ H' _ pr => by obtain ⟨_, _, _, s'⟩ := pr; exact .inl (.inl (s' _ _ el))) (fun j v σ H' hv pr => ?_) (fun σ H' pr => ?_)
    · obtain ⟨z14, z15, rfl, sM⟩ := pr
      obtain ⟨d, hd, dv⟩ := dpA_at hx hv
      obtain ⟨cbd, nod⟩ := cd d (List.mem_of_getElem? hd)
      have SM' := SL.same sM
      have dvM := dp_same sM dv
      obtain ⟨vcf, tf, usf, egf, dvcf, _⟩ := id SM'.st
      dsimp only [gName, List.set]
      refine q_te ?_
      refine (ds_catL (H0 := H') (i := 7) (es := [.tuple [d, .bool true], .tuple [zz6, .bool true]]) rfl SM'.el SM'.hu (dsa_cons (ds_tup (dsa_cons (ds_var (i := 14) rfl dvM) (dsa_cons ds_bl dsa_nil)) (by show 2 ≤ sizeLine; decide)) (dsa_cons (ds_tup (dsa_cons (ds_tup (dsa_cons ds_str (dsa_cons (ds_tup dsa_nil (by decide)) dsa_nil)) (by show 2 ≤ sizeLine; decide)) (dsa_cons ds_bl dsa_nil)) (by show 2 ≤ sizeLine; decide)) dsa_nil)) (by omega) (by show 2 ≤ 100; decide)) H' _ (Same.refl H') fun v15 HN sN d15 => ?_
      dsimp only [List.set]
      have SN := SM'.same sN
      have ok2 : ∀ u ∈ ods ++ [PyData.tuple [d, .bool true], .tuple [zz6, .bool true]], outB u = true := fun u m => by
        rcases List.mem_append.mp m with m | m
        · exact ok1.o.ok u m
        · simp only [List.mem_cons, List.not_mem_nil, or_false] at m
          rcases m with rfl | rfl
          · exact cbd
          · decide +kernel
      have zs2 : szDs (ods ++ [PyData.tuple [d, .bool true], .tuple [zz6, .bool true]]) = true := szDs_of9 fun u m => (out_ok (ok2 u m)).2.2.2
      have l2 : (ods ++ [PyData.tuple [d, .bool true], .tuple [zz6, .bool true]]).length ≤ 4 := by
        rw [List.length_append]
        exact Nat.add_le_add_right lo2 2
      have ac : allCalls dc (ods ++ [PyData.tuple [d, .bool true], .tuple [zz6, .bool true]]) = allCalls dc ods ++ d :: [zz6] := all_cat _ _ _
      have eN : stOut dc (.list (ods ++ [.tuple [d, .bool true], .tuple [zz6, .bool true]])) = none := stOut_ok kc rfl ok2 (by
        show (allCalls dc (ods ++ [PyData.tuple [d, .bool true], .tuple [zz6, .bool true]])).length ≤ 8
        rw [ac, List.length_append]
        have := ok1.len
        show _ + 2 ≤ 8
        omega)
      have eB : badK (fs.map fxOf) 0 (allCalls dc (ods ++ [PyData.tuple [d, .bool true], .tuple [zz6, .bool true]])) = some (allCalls dc ods).length := by
        rw [ac, badK_at nod call_all, Nat.zero_add]
      refine nfl_if (nf_list (ds := [.str "call", .int ((allCalls dc ods).length : Nat)]) (pair_sh (by decide +kernel)) (fun Qr r => ⟨.ref g, rfl, g, vcf, rfl, dg (sN _ _ egf) "filter" rfl, v15, rfl, fun x2 dx2 nx2 nd2 _ => ?_⟩) (ds_lst (dsa_cons ds_str (dsa_cons (ds_var (i := 13) rfl (.int _)) dsa_nil)) (by show 2 ≤ sizeLine; decide))) fun HO sO => ?_
      · refine st_wish0 nx2 nd2 (dp_same sN dvcf) d15 ⟨zdc, (sz_listof (by omega) zs2).1, by show (ods ++ [PyData.tuple [d, .bool true], .tuple [zz6, .bool true]]).length ≤ 20; omega, trc⟩ ?_
        rw [eN]
        refine fun HP sP hX2 => ⟨.ref bb, rfl, x2, bb, dc, _, cells, fs.map fxOf, rfl, hX2, SN.bk.same sP, fun l2 HQ sQ el2 => ?_⟩
        rw [show itemsD (.list (ods ++ [PyData.tuple [d, .bool true], .tuple [zz6, .bool true]])) = ods ++ [PyData.tuple [d, .bool true], .tuple [zz6, .bool true]] from rfl, eB] at el2
        exact r l2 _ HQ (sP.trans sQ) el2 (.cons (.str _) (.cons (.int _) .nil))
      · exact ⟨_, _, rfl, (sM.trans sN).trans sO⟩
    · obtain ⟨z14, z15, rfl, sM⟩ := pr
      exact ⟨_, _, _, _, _, _, _, _, _, _, _, _, _, _, _, rfl, sHL.trans sM⟩
end
/-! ### BadTree, BadOutput, BadCall -/
abbrev sBadTree : Stmt := inClass (topS 9) 0
theorem scBadTree : FnScope ["self", "tree"] ["self", "tree"] (defScope sBadTree) := ⟨rfl, rfl, rfl, by decide +kernel, rfl, by decide +kernel, by decide +kernel⟩
abbrev sBadOutput : Stmt := inClass (topS 10) 0
theorem scBadOutput : FnScope ["self", "index"] ["self", "index"] (defScope sBadOutput) := ⟨rfl, rfl, rfl, by decide +kernel, rfl, by decide +kernel, by decide +kernel⟩
abbrev sBadCall : Stmt := inClass (topS 8) 0
theorem scBadCall : FnScope ["self", "index"] ["self", "index"] (defScope sBadCall) := ⟨rfl, rfl, rfl, by decide +kernel, rfl, by decide +kernel, by decide +kernel⟩
section
variable {P : Program} {w : World} {K : PySem.W.Frag} {mg : Str → Option Value} {base : Heap}
theorem ok_badTree {C f B : Addr} {fd : FuncData} (F : Fun K "__init__" "BadTree.__init__" sBadTree f fd) (TB : OwnBase K mg "StoreError" B) (oex : OexC K C) (nof : PySem.W.findIn K (.ref C) "tree" = some none) :
    FnOk P w K mg base CX0 1 f fd ["self", "tree"] (spErr C "tree") := by
  refine F.ok scBadTree (fun vs H Q E h => ?_) (fun cdv A outer s H vs Q E hr h => ?_)
  · obtain ⟨a, v, rfl, _⟩ := h
    rfl
  · obtain ⟨a, v, rfl, e, q⟩ := h
    refine ⟨_, pss_cons (ps_expr (pe_baseI (by rfl) TB (pa_cons (pv 0) (pa_cons pe_str pa_nil)))) (pss_one (ps_ost (pv 0) (pv 1))), ?_⟩
    refine ⟨.ref a, rfl, a, C, _, rfl, by show (1 : Nat) ≤ 1000; decide, oex, e, ?_⟩
    exact ⟨v, rfl, .ref a, rfl, a, C, rfl, oex, nof, .inl ⟨e, fun d nd ne => q d nd ne⟩⟩
theorem ok_badOutput {C f B : Addr} {fd : FuncData} (F : Fun K "__init__" "BadOutput.__init__" sBadOutput f fd) (TB : OwnBase K mg "StoreError" B) (oex : OexC K C) (nof : PySem.W.findIn K (.ref C) "index" = some none) :
    FnOk P w K mg base CX0 1 f fd ["self", "index"] (spErr C "index") := by
  refine F.ok scBadOutput (fun vs H Q E h => ?_) (fun cdv A outer s H vs Q E hr h => ?_)
  · obtain ⟨a, v, rfl, _⟩ := h
    rfl
  · obtain ⟨a, v, rfl, e, q⟩ := h
    refine ⟨_, pss_cons (ps_expr (pe_baseI (by rfl) TB (pa_cons (pv 0) (pa_cons pe_str pa_nil)))) (pss_one (ps_ost (pv 0) (pv 1))), ?_⟩
    refine ⟨.ref a, rfl, a, C, _, rfl, by show (1 : Nat) ≤ 1000; decide, oex, e, ?_⟩
    exact ⟨v, rfl, .ref a, rfl, a, C, rfl, oex, nof, .inl ⟨e, fun d nd ne => q d nd ne⟩⟩
theorem ok_badCall {C f B : Addr} {fd : FuncData} (F : Fun K "__init__" "BadCall.__init__" sBadCall f fd) (TB : OwnBase K mg "StoreError" B) (oex : OexC K C) (nof : PySem.W.findIn K (.ref C) "index" = some none) :
    FnOk P w K mg base CX0 1 f fd ["self", "index"] (spErr C "index") := by
  refine F.ok scBadCall (fun vs H Q E h => ?_) (fun cdv A outer s H vs Q E hr h => ?_)
  · obtain ⟨a, v, rfl, _⟩ := h
    rfl
  · obtain ⟨a, v, rfl, e, q⟩ := h
    refine ⟨_, pss_cons (ps_expr (pe_baseI (by rfl) TB (pa_cons (pv 0) (pa_cons pe_str pa_nil)))) (pss_one (ps_ost (pv 0) (pv 1))), ?_⟩
    refine ⟨.ref a, rfl, a, C, _, rfl, by show (1 : Nat) ≤ 1000; decide, oex, e, ?_⟩
    exact ⟨v, rfl, .ref a, rfl, a, C, rfl, oex, nof, .inl ⟨e, fun d nd ne => q d nd ne⟩⟩
end
/-! ### UnknownName -/
abbrev sUnkErr : Stmt := inClass (topS 11) 0
theorem scUnkErr : FnScope ["self", "name"] ["self", "name"] (defScope sUnkErr) := ⟨rfl, rfl, rfl, by decide +kernel, rfl, by decide +kernel, by decide +kernel⟩
section
variable {P : Program} {w : World} {K : PySem.W.Frag} {mg : Str → Option Value} {base : Heap}
theorem ok_Unknown {C g : Addr} {fd : FuncData} (F : Fun K "__init__" "UnknownName.__init__" sUnkErr g fd) (nb : mg "KeyError" = none) (fi : PySem.W.findCls K (.type "KeyError") (.type "type") "__init__" = some (.val (.builtin "KeyError.__init__"))) (oex : OexG K famK C) (no : PySem.W.findIn K (.ref C) "name" = some none) : FnOk P w K mg base CX0 1 g fd ["self", "name"] (spErr C "name") :=
  F.ok scUnkErr (fun vs H Q E ⟨a, v, e, _⟩ => by subst e; rfl) (fun cdv A outer s H vs Q E hr ⟨a, v, ev, e, q⟩ => by
    subst ev
    exact ⟨_, pss_cons (ps_expr (pe_iniBlt famK_ok (by rfl) nb (by decide +kernel) (by kernel_rfl) (by decide +kernel) fi (by decide +kernel) (pa_cons (pv 0) (pa_cons pe_str pa_nil)))) (pss_one (ps_fst famK_ok (pv 0) (pv 1))),
      .ref a, rfl, a, C, _, rfl, (by show (1 : Nat) ≤ 1000; decide), oex, e, v, rfl, .ref a, rfl, a, C, rfl, oex, no, e, fun d nd ne => q d nd ne⟩)
end
/-! ### the table of lengths -/
def Lens (r : Option DictEntry) (o : Option Int) : Prop := match o with
  | some k => ∃ e t, r = some e ∧ e.val = .int k t
  | none => r = none
theorem lens_in {K : PySem.W.Frag} {aL : Addr} {es : Array DictEntry} {n : Nat} (l : K.lookup aL = some ⟨.type "dict", none, .dict es n, #[]⟩) {z : Str} (e : Lens (es.toList.find? (·.key.isStr z)) (lenOf z)) (o : es.toList.any (·.refKey) = false) :
    match lenOf z with
    | some k => ∃ t, PySem.W.nsIn K aL z = some (some (.int k t))
    | none => PySem.W.nsIn K aL z = some none := by
  have h : PySem.W.nsIn K aL z = (match es.toList.find? (·.key.isStr z) with
      | some e => some (some e.val)
      | none => if es.toList.any (·.refKey) then none else some none) := by
    unfold PySem.W.nsIn
    rw [l]
    rfl
  unfold Lens at e
  cases hz : lenOf z with
  | none =>
    rw [hz] at e
    show PySem.W.nsIn K aL z = some none
    have e' : es.toList.find? (·.key.isStr z) = none := e
    rw [h, e', o]
    rfl
  | some k =>
    rw [hz] at e
    obtain ⟨en, t, e1, e2⟩ := (e : ∃ en t, es.toList.find? (·.key.isStr z) = some en ∧ en.val = .int k t)
    refine ⟨t, ?_⟩
    rw [h, e1]
    show some (some en.val) = _
    rw [e2]
theorem isStr_str (a b : Str) (t : Tok) : (Value.str a t).isStr b = decide (b = a) := by
  rw [PySem.W.isStr_of]
  by_cases h : b = a
  · subst h
    rw [decide_eq_true rfl]
    simp [Value.isStrOf]
  · rw [decide_eq_false h]
    simp [Value.isStrOf]
    intro q
    exact h q.symm
theorem lens_five (z : Str) (e1 e2 e3 e4 e5 : DictEntry) {t1 t2 t3 t4 t5 : Tok} (k1 : e1.key = .str "tick" t1) (k2 : e2.key = .str "plus" t2) (k3 : e3.key = .str "less" t3) (k4 : e4.key = .str "same" t4) (k5 : e5.key = .str "if" t5)
    (v1 : ∃ t, e1.val = .int 1 t) (v2 : ∃ t, e2.val = .int 3 t) (v3 : ∃ t, e3.val = .int 3 t) (v4 : ∃ t, e4.val = .int 3 t) (v5 : ∃ t, e5.val = .int 4 t) : Lens ([e1, e2, e3, e4, e5].find? (·.key.isStr z)) (lenOf z) := by
  unfold lenOf
  rw [List.find?_cons, k1, isStr_str]
  by_cases h1 : z = "tick"
  · rw [if_pos h1, decide_eq_true h1]
    obtain ⟨t, v⟩ := v1
    exact ⟨e1, t, rfl, v⟩
  · rw [if_neg h1, decide_eq_false h1]
    show Lens (List.find? _ [e2, e3, e4, e5]) _
    rw [List.find?_cons, k2, isStr_str]
    by_cases h2 : z = "plus"
    · rw [if_pos h2, decide_eq_true h2]
      obtain ⟨t, v⟩ := v2
      exact ⟨e2, t, rfl, v⟩
    · rw [if_neg h2, decide_eq_false h2]
      show Lens (List.find? _ [e3, e4, e5]) _
      rw [List.find?_cons, k3, isStr_str]
      by_cases h3 : z = "less"
      · rw [if_pos h3, decide_eq_true h3]
        obtain ⟨t, v⟩ := v3
        exact ⟨e3, t, rfl, v⟩
      · rw [if_neg h3, decide_eq_false h3]
        show Lens (List.find? _ [e4, e5]) _
        rw [List.find?_cons, k4, isStr_str]
        by_cases h4 : z = "same"
        · rw [if_pos h4, decide_eq_true h4]
          obtain ⟨t, v⟩ := v4
          exact ⟨e4, t, rfl, v⟩
        · rw [if_neg h4, decide_eq_false h4]
          show Lens (List.find? _ [e5]) _
          rw [List.find?_cons, k5, isStr_str]
          by_cases h5 : z = "if"
          · rw [if_pos h5, decide_eq_true h5]
            obtain ⟨t, v⟩ := v5
            exact ⟨e5, t, rfl, v⟩
          · rw [if_neg h5, decide_eq_false h5]
            rfl
/-! ### the head: what the top has left, looked at in the kernel -/
namespace Hd
open He
theorem at_ {l : List Bool} (c : l.all id = true) (i : Nat) {b : Bool} (h : l[i]? = some b) : b = true := List.all_eq_true.mp c b (List.mem_of_getElem? h)
theorem fun_of {K : PySem.W.Frag} {x q : Str} {st : Stmt} {f : Addr} {fd : FuncData} (D : FunD K x q (defArgs st) (defBody st) (defScope st) [] [] f fd) : Fun K x q st f fd := by
  obtain ⟨oc, od, dV, kV, doc, pm, an, cdv, ct, osl, rfl, lk, hcd, dl, _⟩ := D.ex
  rcases dl with ⟨_, rfl⟩ | ⟨h, _⟩
  · exact ⟨⟨oc, od, kV, doc, pm, an, cdv, ct, osl, rfl, lk, hcd⟩, D.kp⟩
  · exact absurd rfl h
theorem dfl0 {K : PySem.W.Frag} {dV : Value} (h : DflV K dV []) : dV = .none := by
  rcases h with ⟨_, e⟩ | ⟨h, _⟩
  · exact e
  · exact absurd rfl h
/-- a number of the module -/
def intB (K : PySem.W.Frag) (x : Str) (i : Int) : Bool := match PySem.W.nsIn K mainGlobals x with
  | some (some (.int j _)) => decide (j = i)
  | _ => false
theorem int_at {K : PySem.W.Frag} {x : Str} {i : Int} (c : intB K x i = true) : ∃ t, PySem.W.nsIn K mainGlobals x = some (some (.int i t)) := by
  unfold intB at c
  cases e : PySem.W.nsIn K mainGlobals x with
  | none =>
    rw [e] at c
    cases c
  | some o =>
    cases o with
    | none =>
      rw [e] at c
      cases c
    | some v =>
      rw [e] at c
      cases v with
      | int j t =>
        have ej : j = i := of_decide_eq_true c
        exact ⟨t, by rw [ej]⟩
      | _ => cases c
/-- a tuple of the module -/
def tupB (K : PySem.W.Frag) (a : Addr) (vs : List V) : Bool := match K.lookup a with
  | some ⟨.type c, none, .seq its _, _⟩ => decide (c = "tuple") && (decide (its.size ≤ sizeLine) && relAll vs its.toList)
  | _ => false
theorem tup_at {K : PySem.W.Frag} {a : Addr} {vs : List V} (h : Hd.tupB K a vs = true) : ∃ (its : Array Value) (n : Nat) (sl : Array (Option Value)), K.lookup a = some ⟨.type "tuple", none, .seq its n, sl⟩ ∧ its.size ≤ sizeLine ∧ Vals vs its.toList := by
  unfold Hd.tupB at h
  cases q : K.lookup a with
  | none =>
    rw [q] at h
    cases h
  | some o =>
    obtain ⟨oc, od, dt, osl⟩ := o
    rw [q] at h
    cases oc with
    | type c =>
      cases od with
      | none =>
        cases dt with
        | seq its n =>
          obtain ⟨h1, h2⟩ := ba (show (decide (c = "tuple") && (decide (its.size ≤ sizeLine) && relAll vs its.toList)) = true from h)
          obtain ⟨h3, h4⟩ := ba h2
          have e : c = "tuple" := of_decide_eq_true h1
          rw [e]
          exact ⟨its, n, osl, rfl, of_decide_eq_true h3, relAll_ok h4⟩
        | _ => cases h
      | some d => cases dt <;> cases h
    | _ => cases od <;> cases dt <;> cases h
/-- a class of errors -/
def excB (K : PySem.W.Frag) (C : Addr) (bm : List Value) (newId : String) : Bool := match K.lookup C with
  | some ⟨.type "type", _, .cls cd, sl⟩ => (match cd.mro, sl.toList with
    | .ref C' :: bm', [_, _, _, _, some (.builtin n), _] => C' == C && n == newId && !cd.hasDel && cd.hasDict && decide (bm' = bm)
    | _, _ => false)
  | _ => false
theorem exc_at {K : PySem.W.Frag} {C : Addr} {bm : List Value} {newId : String} (q : excB K C bm newId = true) :
    ∃ nm qn N bs sn sub ab col dd k0 k1 k2 k3 k5, K.lookup C = some (excClassObj nm qn C N bs bm true sn sub ab col dd k0 k1 k2 k3 k5 newId) := by
  unfold excB at q
  split at q
  · rename_i dd cd sl ho
    split at q
    · rename_i C' bm k0 k1 k2 k3 n k5 hm hs
      simp only [Bool.and_eq_true, beq_iff_eq, Bool.not_eq_true', decide_eq_true_eq] at q
      obtain ⟨⟨⟨⟨rfl, rfl⟩, hdel⟩, hdc⟩, rfl⟩ := q
      obtain ⟨nm, bs, mro, ns, qn, hd, sn, sub, ab, col, del⟩ := cd
      dsimp only at hm hdel hdc
      subst hm hdel hdc
      have hsl : sl = #[k0, k1, k2, k3, some (.builtin n), k5] := by
        obtain ⟨l⟩ := sl
        simp only at hs
        rw [hs]
      subst hsl
      exact ⟨nm, qn, ns, bs, sn, sub, ab, col, dd, k0, k1, k2, k3, k5, ho⟩
    · cases q
  · cases q
/-- what a class's look-up finds, if it is a plain value -/
def fclsB (K : PySem.W.Frag) (c m : Value) (n : Str) (b : String) : Bool := match PySem.W.findCls K c m n with
  | some (.val (.builtin x)) => decide (x = b)
  | _ => false
theorem fcls_at {K : PySem.W.Frag} {c m : Value} {n : Str} {b : String} (h : fclsB K c m n b = true) : PySem.W.findCls K c m n = some (.val (.builtin b)) := by
  unfold fclsB at h
  split at h
  · rename_i x e
    rw [e, (of_decide_eq_true h : x = b)]
  · cases h
/-- an entry of the table of lengths -/
def pairOf (e : DictEntry) : Option (Str × Int) := match e.key, e.val with
  | .str x _, .int i _ => some (x, i)
  | _, _ => none
theorem pair_at {e : DictEntry} {x : Str} {i : Int} (h : pairOf e = some (x, i)) : ∃ t, e.key = .str x t ∧ ∃ t, e.val = .int i t := by
  obtain ⟨hash, k, v⟩ := e
  cases k with
  | str y t => cases v with
    | int j u =>
      have h1 : (some (y, j) : Option (Str × Int)) = some (x, i) := h
      obtain ⟨rfl, rfl⟩ := Prod.mk.inj (Option.some.inj h1)
      exact ⟨t, rfl, u, rfl⟩
    | _ => cases h
  | _ => cases v <;> cases h
def lenRow : List (Option (Str × Int)) := [some ("tick", 1), some ("plus", 3), some ("less", 3), some ("same", 3), some ("if", 4)]
def lensB (K : PySem.W.Frag) (a : Addr) : Bool := match K.lookup a with
  | some ⟨_, _, .dict es _, _⟩ => decide (es.toList.map pairOf = lenRow) && !(es.toList.any (·.refKey))
  | _ => false
theorem lens_at {K : PySem.W.Frag} {a : Addr} {es : Array DictEntry} {n : Nat} (l : K.lookup a = some ⟨.type "dict", none, .dict es n, #[]⟩) (h : lensB K a = true) : (∀ z : Str, Lens (es.toList.find? (·.key.isStr z)) (lenOf z)) ∧ es.toList.any (·.refKey) = false := by
  unfold lensB at h
  rw [l] at h
  obtain ⟨h1, h2⟩ := ba (show (decide (es.toList.map pairOf = lenRow) && !(es.toList.any (·.refKey))) = true from h)
  have e : es.toList.map pairOf = lenRow := of_decide_eq_true h1
  unfold lenRow at e
  refine ⟨fun z => ?_, by simpa using h2⟩
  generalize es.toList = q at e
  obtain ⟨e1, q1, rfl, p1, h⟩ := List.map_eq_cons_iff.mp e
  obtain ⟨e2, q2, rfl, p2, h⟩ := List.map_eq_cons_iff.mp h
  obtain ⟨e3, q3, rfl, p3, h⟩ := List.map_eq_cons_iff.mp h
  obtain ⟨e4, q4, rfl, p4, h⟩ := List.map_eq_cons_iff.mp h
  obtain ⟨e5, q5, rfl, p5, h⟩ := List.map_eq_cons_iff.mp h
  cases List.map_eq_nil_iff.mp h
  obtain ⟨t1, k1, v1⟩ := pair_at p1
  obtain ⟨t2, k2, v2⟩ := pair_at p2
  obtain ⟨t3, k3, v3⟩ := pair_at p3
  obtain ⟨t4, k4, v4⟩ := pair_at p4
  obtain ⟨t5, k5, v5⟩ := pair_at p5
  exact lens_five z e1 e2 e3 e4 e5 k1 k2 k3 k4 k5 v1 v2 v3 v4 v5
/-- what an object of the top names: a def's code and defaults, a class's names -/
def selO (o : Obj) : List Addr := match o.data with
  | .func fd => refV fd.code ++ refV fd.defaults ++ refV fd.kwdefaults
  | .cls cd => [cd.ns]
  | _ => []
def selG (g : Addr → Option Obj) (a : Addr) : List Addr := match g a with
  | some o => selO o
  | none => []
/-- the methods that are wanted -/
def metG (g : Addr → Option Obj) (ms : List Str) (a : Addr) : List Addr := match g a with
  | some ⟨_, _, .dict es _, _⟩ => es.toList.flatMap fun e => match e.key with
    | .str x _ => (match ms.contains x with
      | true => refV e.val
      | false => [])
    | _ => []
  | _ => []
def seqL {α : Type} (l : List Addr) (k : List Addr → α) : α := match l with
  | [] => k []
  | a :: r => seqL r fun z => HandSHeadRun.frNat a fun a => k (a :: z)
def asP (g : Addr → Option Obj) (rs ms : List Str) : List Addr := seqL (rs.map (ga (frG g [mainGlobals]))) fun l1 => seqL (l1.flatMap (selG g)) fun l2 => seqL (l2.flatMap (metG g ms)) fun l3 => seqL (l3.flatMap (selG g)) fun l4 => mainGlobals :: cStatics :: (l1 ++ (l2 ++ (l3 ++ l4)))
/-- what is told: the defs, the tables, the rest by one Bool -/
structure Says (fn : List DefD) (ts : List Tab) (ex : PySem.W.Frag → Bool) (w : World) (K : PySem.W.Frag) : Prop where
  t : SaysT [] fn ts w K
  more : ex K = true
def obsP (rs ms : List Str) (fn : List DefD) (ts : List Tab) (ex : PySem.W.Frag → Bool) (g : Addr → Option Obj) : AlX := (obsT [] fn ts (frG g (asP g rs ms)), ex (frG g (asP g rs ms)))
def hookP (rs ms : List Str) (fn : List DefD) (ts : List Tab) (ex : PySem.W.Frag → Bool) : PySem.W.Hook where
  α := AlX
  obs := fun s => obsP rs ms fn ts ex s.heap.get?
  val := fun w => valX fn ts w
  says := fun w h => ∃ K : PySem.W.Frag, K.In h ∧ Says fn ts ex w K
  of := fun _ _ e => ⟨_, frG_in, ⟨congrArg (fun z : AlX => z.1) e, congrArg (fun z : AlX => z.2) e⟩⟩
  keeps := fun _ _ _ ⟨K, hK, c⟩ k => ⟨K, PySem.W.Frag.In.keeps hK k, c⟩
theorem obsP_eq {rs ms : List Str} {fn : List DefD} {ts : List Tab} {ex : PySem.W.Frag → Bool} {g : Addr → Option Obj} {s : Shared} (h : ∀ a, g a = s.heap.get? a) : obsP rs ms fn ts ex g = (hookP rs ms fn ts ex).obs s := by
  have e : g = s.heap.get? := funext h
  rw [e] <;> rfl
end Hd
namespace EndG
section
variable {P : Program} {w : World} {k : Nat} {x : Str}
theorem walk_toldE {l : PySem.W.OpenLaw} {n k : Nat} {q : Program} {loose : List Str} {XP : (Str → Option Value) → Heap → Prop} {YP : World → Heap → Prop} {d : DefRec} {x : Str} (most : l.most = some n) (few : n ≤ sizeLine) (nod : d.params.defaults = []) (hr : Room k callerA)
    (F : ∀ (w : World) (mg : Str → Option Value) (fa : Addr) (h : Heap), YP w h → h.Ns mainGlobals mg → mg d.name = some (.ref fa) → ∃ (K : PySem.W.Frag) (fd : FuncData) (sp : Sp), K.In h ∧ (∀ (s : Shared) (u : Value), BindsTo s fd ⟨[u], []⟩ [(x, u)]) ∧
      (∀ (H : Hp) (a : Addr) (ns : List Int), ns.length ≤ n → SqL K H a (ns.map V.int) → sp [.ref a] H (fun v _ => v = .bl true) E0) ∧ ∀ base : Heap, K.In base → base.Ns mainGlobals mg → FnG l.prog w K mg base k fa fd [x] sp) : PySem.W.WalkO q loose XP YP l.row.toRowW d [] (fun f vs => PySem.call f vs) := Att.attach_call most nod fun w s₀ s₁ mg mb fa o pm cd doc a vs ns G Y ho hd hcd hmg hobj hints hlen hg => by
  obtain ⟨K, fd, sp, KX, bind, holds, F1⟩ := F w mg fa _ Y G.T.g hmg
  exact law_told KX G.T.g G.T.b G.T.builtins G.T.nolimit hg hobj hints (Nat.le_trans hlen few) hr F1 bind fun H _ hS => holds H a ns hlen hS
end
end EndG
/-! ### what the top has written; the end -/
theorem all_mk {l : PySem.W.OpenLaw} {w : World} {K : PySem.W.Frag} {h : Heap} {mg : Str → Option Value} {fa : Addr} (X : K.In h) (G : h.Ns mainGlobals mg) (hfa : mg "law" = some (.ref fa))
    {cL cB cP cT cU cN cO cY cS cF cC cK cH cI cZ cA : Addr}
    {fBI : Addr} {fdBI : FuncData}
    {fPI : Addr} {fdPI : FuncData}
    {fTI : Addr} {fdTI : FuncData}
    {fUI : Addr} {fdUI : FuncData}
    {fNI : Addr} {fdNI : FuncData}
    {fII : Addr} {fdII : FuncData}
    {fZI : Addr} {fdZI : FuncData}
    {fAI : Addr} {fdAI : FuncData}
    {fOI : Addr} {fdOI : FuncData}
    {fYI : Addr} {fdYI : FuncData}
    {fLI : Addr} {fdLI : FuncData}
    {fFI : Addr} {fdFI : FuncData}
    {fFP : Addr} {fdFP : FuncData}
    {fCI : Addr} {fdCI : FuncData}
    {fKI : Addr} {fdKI : FuncData}
    {fKG : Addr} {fdKG : FuncData}
    {fKH : Addr} {fdKH : FuncData}
    {fHI : Addr} {fdHI : FuncData}
    {fHF : Addr} {fdHF : FuncData}
    {fHW : Addr} {fdHW : FuncData}
    {fWh : Addr} {fdWh : FuncData}
    {fVa : Addr} {fdVa : FuncData}
    {fNa : Addr} {fdNa : FuncData}
    {fTl : Addr} {fdTl : FuncData}
    {fTe : Addr} {fdTe : FuncData}
    {fHa : Addr} {fdHa : FuncData}
    {fCf : Addr} {fdCf : FuncData}
    {fIn : Addr} {fdIn : FuncData}
    {fNx : Addr} {fdNx : FuncData}
    {fAw : Addr} {fdAw : FuncData}
    {fPa : Addr} {fdPa : FuncData}
    {fWi : Addr} {fdWi : FuncData}
    {fAs : Addr} {fdAs : FuncData}
    {fCs : Addr} {fdCs : FuncData}
    {fPf : Addr} {fdPf : FuncData}
    {fFt : Addr} {fdFt : FuncData}
    {fCc : Addr} {fdCc : FuncData}
    {fCn : Addr} {fdCn : FuncData}
    {fIc : Addr} {fdIc : FuncData}
    {fCa : Addr} {fdCa : FuncData}
    {fIt : Addr} {fdIt : FuncData}
    {fTr : Addr} {fdTr : FuncData}
    {fBr : Addr} {fdBr : FuncData}
    {fCi : Addr} {fdCi : FuncData}
    {fCk : Addr} {fdCk : FuncData}
    {fPl : Addr} {fdPl : FuncData}
    {fDr : Addr} {fdDr : FuncData}
    {fPk : Addr} {fdPk : FuncData}
    {fNm : Addr} {fdNm : FuncData}
    {fLt : Addr} {fdLt : FuncData}
    {fLw : Addr} {fdLw : FuncData}
    {fLb : Addr} {fdLb : FuncData}
    {fMb : Addr} {fdMb : FuncData}
    {fLc : Addr} {fdLc : FuncData}
    {fLo : Addr} {fdLo : FuncData}
    {fLd : Addr} {fdLd : FuncData}
    {fLe : Addr} {fdLe : FuncData}
    {fLs : Addr} {fdLs : FuncData}
    {fLm : Addr} {fdLm : FuncData}
    {fLr : Addr} {fdLr : FuncData}
    {fLf : Addr} {fdLf : FuncData}
    {fLx : Addr} {fdLx : FuncData}
    {fLa : Addr} {fdLa : FuncData}
    {t_LONGEST_NAME : Tok}
    {t_MOST_ARGUMENTS : Tok}
    {t_MOST_DEEP : Tok}
    {t_MOST_PARTS : Tok}
    {t_MOST_WRITES : Tok}
    {t_GREATEST_COST : Tok}
    {t_MOST_CELLS : Tok}
    {t_MOST_FUNCTIONS : Tok}
    {t_MOST_CALLS : Tok}
    {t_MOST_BRANCHES : Tok}
    {t_DEEPEST_TREE : Tok}
    {aD : Addr} {nmB qqB : Str} {NNB : Addr} {bsB : List Value} {snB : List Str} {suB : List Value} {abB : Bool} {coB : Option Bool} {ddB : Option Addr} {maB mbB mcB mdB me_B : Option Value} {nmP qqP : Str} {NNP : Addr} {bsP : List Value} {snP : List Str} {suP : List Value} {abP : Bool} {coP : Option Bool} {ddP : Option Addr} {maP mbP mcP mdP me_P : Option Value} {nmT qqT : Str} {NNT : Addr} {bsT : List Value} {snT : List Str} {suT : List Value} {abT : Bool} {coT : Option Bool} {ddT : Option Addr} {maT mbT mcT mdT me_T : Option Value} {nmU qqU : Str} {NNU : Addr} {bsU : List Value} {snU : List Str} {suU : List Value} {abU : Bool} {coU : Option Bool} {ddU : Option Addr} {maU mbU mcU mdU me_U : Option Value} {nmN qqN : Str} {NNN : Addr} {bsN : List Value} {snN : List Str} {suN : List Value} {abN : Bool} {coN : Option Bool} {ddN : Option Addr} {maN mbN mcN mdN me_N : Option Value} {nmI qqI : Str} {NNI : Addr} {bsI : List Value} {snI : List Str} {suI : List Value} {abI : Bool} {coI : Option Bool} {ddI : Option Addr} {maI mbI mcI mdI me_I : Option Value} {nmZ qqZ : Str} {NNZ : Addr} {bsZ : List Value} {snZ : List Str} {suZ : List Value} {abZ : Bool} {coZ : Option Bool} {ddZ : Option Addr} {maZ mbZ mcZ mdZ me_Z : Option Value} {nmA qqA : Str} {NNA : Addr} {bsA : List Value} {snA : List Str} {suA : List Value} {abA : Bool} {coA : Option Bool} {ddA : Option Addr} {maA mbA mcA mdA me_A : Option Value} {nmO qqO : Str} {NNO : Addr} {bsO : List Value} {snO : List Str} {suO : List Value} {abO : Bool} {coO : Option Bool} {ddO : Option Addr} {maO mbO mcO mdO me_O : Option Value} {nmY qqY : Str} {NNY : Addr} {bsY : List Value} {snY : List Str} {suY : List Value} {abY : Bool} {coY : Option Bool} {ddY : Option Addr} {maY mbY mcY mdY me_Y : Option Value} {aR : Addr} {itsR : Array Value} {nR : Nat} {slR : Array (Option Value)} {aV : Addr} {itsV : Array Value} {nV : Nat} {slV : Array (Option Value)} {aJ : Addr} {itsJ : Array Value} {nJ : Nat} {slJ : Array (Option Value)} {aM : Addr} {itsM : Array Value} {nM : Nat} {slM : Array (Option Value)} {aQ : Addr} {esL : Array DictEntry} {nQ : Nat} 
    (a_L : PySem.W.nsIn K mainGlobals "Label" = some (some (.ref cL)))
    (a_B : PySem.W.nsIn K mainGlobals "BadLabel" = some (some (.ref cB)))
    (a_P : PySem.W.nsIn K mainGlobals "BadPart" = some (some (.ref cP)))
    (a_T : PySem.W.nsIn K mainGlobals "BadTerm" = some (some (.ref cT)))
    (a_U : PySem.W.nsIn K mainGlobals "BadCell" = some (some (.ref cU)))
    (a_N : PySem.W.nsIn K mainGlobals "BadFunction" = some (some (.ref cN)))
    (a_O : PySem.W.nsIn K mainGlobals "TooMany" = some (some (.ref cO)))
    (a_Y : PySem.W.nsIn K mainGlobals "UnknownName" = some (some (.ref cY)))
    (a_S : PySem.W.nsIn K mainGlobals "StoreError" = some (some (.ref cS)))
    (a_F : PySem.W.nsIn K mainGlobals "Function" = some (some (.ref cF)))
    (a_C : PySem.W.nsIn K mainGlobals "Cell" = some (some (.ref cC)))
    (a_K : PySem.W.nsIn K mainGlobals "Book" = some (some (.ref cK)))
    (a_H : PySem.W.nsIn K mainGlobals "Statement" = some (some (.ref cH)))
    (a_I : PySem.W.nsIn K mainGlobals "BadTree" = some (some (.ref cI)))
    (a_Z : PySem.W.nsIn K mainGlobals "BadOutput" = some (some (.ref cZ)))
    (a_A : PySem.W.nsIn K mainGlobals "BadCall" = some (some (.ref cA)))
    (aBI : PySem.W.findIn K (.ref cB) "__init__" = some (some (.ref fBI)))
    (iBI : PySem.W.isFn K (.ref fBI) = true)
    (DBI : FunD K "__init__" "BadLabel.__init__" (defArgs sBL) (defBody sBL) (defScope sBL) [] [] fBI fdBI)
    (aPI : PySem.W.findIn K (.ref cP) "__init__" = some (some (.ref fPI)))
    (iPI : PySem.W.isFn K (.ref fPI) = true)
    (DPI : FunD K "__init__" "BadPart.__init__" (defArgs sBadPart) (defBody sBadPart) (defScope sBadPart) [] [] fPI fdPI)
    (aTI : PySem.W.findIn K (.ref cT) "__init__" = some (some (.ref fTI)))
    (iTI : PySem.W.isFn K (.ref fTI) = true)
    (DTI : FunD K "__init__" "BadTerm.__init__" (defArgs sBadTerm) (defBody sBadTerm) (defScope sBadTerm) [] [] fTI fdTI)
    (aUI : PySem.W.findIn K (.ref cU) "__init__" = some (some (.ref fUI)))
    (iUI : PySem.W.isFn K (.ref fUI) = true)
    (DUI : FunD K "__init__" "BadCell.__init__" (defArgs sBadCell) (defBody sBadCell) (defScope sBadCell) [] [] fUI fdUI)
    (aNI : PySem.W.findIn K (.ref cN) "__init__" = some (some (.ref fNI)))
    (iNI : PySem.W.isFn K (.ref fNI) = true)
    (DNI : FunD K "__init__" "BadFunction.__init__" (defArgs sBadFunction) (defBody sBadFunction) (defScope sBadFunction) [] [] fNI fdNI)
    (aII : PySem.W.findIn K (.ref cI) "__init__" = some (some (.ref fII)))
    (iII : PySem.W.isFn K (.ref fII) = true)
    (DII : FunD K "__init__" "BadTree.__init__" (defArgs sBadTree) (defBody sBadTree) (defScope sBadTree) [] [] fII fdII)
    (aZI : PySem.W.findIn K (.ref cZ) "__init__" = some (some (.ref fZI)))
    (iZI : PySem.W.isFn K (.ref fZI) = true)
    (DZI : FunD K "__init__" "BadOutput.__init__" (defArgs sBadOutput) (defBody sBadOutput) (defScope sBadOutput) [] [] fZI fdZI)
    (aAI : PySem.W.findIn K (.ref cA) "__init__" = some (some (.ref fAI)))
    (iAI : PySem.W.isFn K (.ref fAI) = true)
    (DAI : FunD K "__init__" "BadCall.__init__" (defArgs sBadCall) (defBody sBadCall) (defScope sBadCall) [] [] fAI fdAI)
    (aOI : PySem.W.findIn K (.ref cO) "__init__" = some (some (.ref fOI)))
    (iOI : PySem.W.isFn K (.ref fOI) = true)
    (DOI : FunD K "__init__" "TooMany.__init__" (defArgs sTooMany) (defBody sTooMany) (defScope sTooMany) [] [] fOI fdOI)
    (aYI : PySem.W.findIn K (.ref cY) "__init__" = some (some (.ref fYI)))
    (iYI : PySem.W.isFn K (.ref fYI) = true)
    (DYI : FunD K "__init__" "UnknownName.__init__" (defArgs sUnkErr) (defBody sUnkErr) (defScope sUnkErr) [] [] fYI fdYI)
    (aLI : PySem.W.findIn K (.ref cL) "__init__" = some (some (.ref fLI)))
    (iLI : PySem.W.isFn K (.ref fLI) = true)
    (DLI : FunD K "__init__" "Label.__init__" (defArgs sLab) (defBody sLab) (defScope sLab) [] [] fLI fdLI)
    (aFI : PySem.W.findIn K (.ref cF) "__init__" = some (some (.ref fFI)))
    (iFI : PySem.W.isFn K (.ref fFI) = true)
    (DFI : FunD K "__init__" "Function.__init__" (defArgs sFun) (defBody sFun) (defScope sFun) [] [] fFI fdFI)
    (aFP : PySem.W.findIn K (.ref cF) "parts" = some (some (.ref fFP)))
    (iFP : PySem.W.isFn K (.ref fFP) = true)
    (DFP : FunD K "parts" "Function.parts" (defArgs sFParts) (defBody sFParts) (defScope sFParts) [] [] fFP fdFP)
    (aCI : PySem.W.findIn K (.ref cC) "__init__" = some (some (.ref fCI)))
    (iCI : PySem.W.isFn K (.ref fCI) = true)
    (DCI : FunD K "__init__" "Cell.__init__" (defArgs sCell) (defBody sCell) (defScope sCell) [] [] fCI fdCI)
    (aKI : PySem.W.findIn K (.ref cK) "__init__" = some (some (.ref fKI)))
    (iKI : PySem.W.isFn K (.ref fKI) = true)
    (DKI : FunD K "__init__" "Book.__init__" (defArgs sBook) (defBody sBook) (defScope sBook) [] [] fKI fdKI)
    (aKG : PySem.W.findIn K (.ref cK) "__getitem__" = some (some (.ref fKG)))
    (iKG : PySem.W.isFn K (.ref fKG) = true)
    (DKG : FunD K "__getitem__" "Book.__getitem__" (defArgs sGet) (defBody sGet) (defScope sGet) [] [] fKG fdKG)
    (aKH : PySem.W.findIn K (.ref cK) "__contains__" = some (some (.ref fKH)))
    (iKH : PySem.W.isFn K (.ref fKH) = true)
    (DKH : FunD K "__contains__" "Book.__contains__" (defArgs sHasN) (defBody sHasN) (defScope sHasN) [] [] fKH fdKH)
    (aHI : PySem.W.findIn K (.ref cH) "__init__" = some (some (.ref fHI)))
    (iHI : PySem.W.isFn K (.ref fHI) = true)
    (DHI : FunD K "__init__" "Statement.__init__" (defArgs sStI) (defBody sStI) (defScope sStI) [.ref aD] [] fHI fdHI)
    (aHF : PySem.W.findIn K (.ref cH) "fit" = some (some (.ref fHF)))
    (iHF : PySem.W.isFn K (.ref fHF) = true)
    (DHF : FunD K "fit" "Statement.fit" (defArgs sFit) (defBody sFit) (defScope sFit) [] [] fHF fdHF)
    (aHW : PySem.W.findIn K (.ref cH) "with_output" = some (some (.ref fHW)))
    (iHW : PySem.W.isFn K (.ref fHW) = true)
    (DHW : FunD K "with_output" "Statement.with_output" (defArgs sStW) (defBody sStW) (defScope sStW) [] [] fHW fdHW)
    (aWh : PySem.W.nsIn K mainGlobals "is_whole" = some (some (.ref fWh)))
    (DWh : FunD K "is_whole" "is_whole" (defArgs sWhole) (defBody sWhole) (defScope sWhole) [] [] fWh fdWh)
    (aVa : PySem.W.nsIn K mainGlobals "is_value" = some (some (.ref fVa)))
    (DVa : FunD K "is_value" "is_value" (defArgs sValue) (defBody sValue) (defScope sValue) [] [] fVa fdVa)
    (aNa : PySem.W.nsIn K mainGlobals "is_name" = some (some (.ref fNa)))
    (DNa : FunD K "is_name" "is_name" (defArgs sName) (defBody sName) (defScope sName) [] [] fNa fdNa)
    (aTl : PySem.W.nsIn K mainGlobals "to_label" = some (some (.ref fTl)))
    (DTl : FunD K "to_label" "to_label" (defArgs sToLab) (defBody sToLab) (defScope sToLab) [] [] fTl fdTl)
    (aTe : PySem.W.nsIn K mainGlobals "is_term" = some (some (.ref fTe)))
    (DTe : FunD K "is_term" "is_term" (defArgs sTerm) (defBody sTerm) (defScope sTerm) [] [] fTe fdTe)
    (aHa : PySem.W.nsIn K mainGlobals "_has_form" = some (some (.ref fHa)))
    (DHa : FunD K "_has_form" "_has_form" (defArgs sHas) (defBody sHas) (defScope sHas) [] [] fHa fdHa)
    (aCf : PySem.W.nsIn K mainGlobals "_has_call_form" = some (some (.ref fCf)))
    (DCf : FunD K "_has_call_form" "_has_call_form" (defArgs sCallForm) (defBody sCallForm) (defScope sCallForm) [] [] fCf fdCf)
    (aIn : PySem.W.nsIn K mainGlobals "inner_terms" = some (some (.ref fIn)))
    (DIn : FunD K "inner_terms" "inner_terms" (defArgs sInner) (defBody sInner) (defScope sInner) [] [] fIn fdIn)
    (aNx : PySem.W.nsIn K mainGlobals "_next_level" = some (some (.ref fNx)))
    (DNx : FunD K "_next_level" "_next_level" (defArgs sNext) (defBody sNext) (defScope sNext) [] [] fNx fdNx)
    (aAw : PySem.W.nsIn K mainGlobals "_are_writes" = some (some (.ref fAw)))
    (DAw : FunD K "_are_writes" "_are_writes" (defArgs sAreW) (defBody sAreW) (defScope sAreW) [] [] fAw fdAw)
    (aPa : PySem.W.nsIn K mainGlobals "all_parts" = some (some (.ref fPa)))
    (DPa : FunD K "all_parts" "all_parts" (defArgs sParts) (defBody sParts) (defScope sParts) [] [] fPa fdPa)
    (aWi : PySem.W.nsIn K mainGlobals "parts_with" = some (some (.ref fWi)))
    (DWi : FunD K "parts_with" "parts_with" (defArgs sWith) (defBody sWith) (defScope sWith) [] [] fWi fdWi)
    (aAs : PySem.W.nsIn K mainGlobals "_ascending" = some (some (.ref fAs)))
    (DAs : FunD K "_ascending" "_ascending" (defArgs sAsc) (defBody sAsc) (defScope sAsc) [] [] fAs fdAs)
    (aCs : PySem.W.nsIn K mainGlobals "cells_in" = some (some (.ref fCs)))
    (DCs : FunD K "cells_in" "cells_in" (defArgs sCells) (defBody sCells) (defScope sCells) [] [] fCs fdCs)
    (aPf : PySem.W.nsIn K mainGlobals "_part_fits" = some (some (.ref fPf)))
    (DPf : FunD K "_part_fits" "_part_fits" (defArgs sPF) (defBody sPF) (defScope sPF) [] [] fPf fdPf)
    (aFt : PySem.W.nsIn K mainGlobals "_fits" = some (some (.ref fFt)))
    (DFt : FunD K "_fits" "_fits" (defArgs sFits) (defBody sFits) (defScope sFits) [] [] fFt fdFt)
    (aCc : PySem.W.nsIn K mainGlobals "_check_cells" = some (some (.ref fCc)))
    (DCc : FunD K "_check_cells" "_check_cells" (defArgs sCC) (defBody sCC) (defScope sCC) [] [] fCc fdCc)
    (aCn : PySem.W.nsIn K mainGlobals "_check_functions" = some (some (.ref fCn)))
    (DCn : FunD K "_check_functions" "_check_functions" (defArgs sCFn) (defBody sCFn) (defScope sCFn) [] [] fCn fdCn)
    (aIc : PySem.W.nsIn K mainGlobals "_is_column" = some (some (.ref fIc)))
    (DIc : FunD K "_is_column" "_is_column" (defArgs sIsCol) (defBody sIsCol) (defScope sIsCol) [] [] fIc fdIc)
    (aCa : PySem.W.nsIn K mainGlobals "is_call" = some (some (.ref fCa)))
    (DCa : FunD K "is_call" "is_call" (defArgs sIsCall) (defBody sIsCall) (defScope sIsCall) [] [] fCa fdCa)
    (aIt : PySem.W.nsIn K mainGlobals "_is_tree" = some (some (.ref fIt)))
    (DIt : FunD K "_is_tree" "_is_tree" (defArgs sIsTr) (defBody sIsTr) (defScope sIsTr) [] [] fIt fdIt)
    (aTr : PySem.W.nsIn K mainGlobals "is_tree" = some (some (.ref fTr)))
    (DTr : FunD K "is_tree" "is_tree" (defArgs sTree) (defBody sTree) (defScope sTree) [] [] fTr fdTr)
    (aBr : PySem.W.nsIn K mainGlobals "_branches" = some (some (.ref fBr)))
    (DBr : FunD K "_branches" "_branches" (defArgs sBr) (defBody sBr) (defScope sBr) [] [] fBr fdBr)
    (aCi : PySem.W.nsIn K mainGlobals "_calls_in" = some (some (.ref fCi)))
    (DCi : FunD K "_calls_in" "_calls_in" (defArgs sCIn) (defBody sCIn) (defScope sCIn) [] [] fCi fdCi)
    (aCk : PySem.W.nsIn K mainGlobals "_check_outputs" = some (some (.ref fCk)))
    (DCk : FunD K "_check_outputs" "_check_outputs" (defArgs sChkO) (defBody sChkO) (defScope sChkO) [] [] fCk fdCk)
    (aPl : PySem.W.nsIn K mainGlobals "_law_pool" = some (some (.ref fPl)))
    (DPl : FunD K "_law_pool" "_law_pool" (defArgs sPool) (defBody sPool) (defScope sPool) [] [] fPl fdPl)
    (aDr : PySem.W.nsIn K mainGlobals "_law_draw" = some (some (.ref fDr)))
    (DDr : FunD K "_law_draw" "_law_draw" (defArgs sDraw) (defBody sDraw) (defScope sDraw) [] [] fDr fdDr)
    (aPk : PySem.W.nsIn K mainGlobals "_law_pick" = some (some (.ref fPk)))
    (DPk : FunD K "_law_pick" "_law_pick" (defArgs sPick) (defBody sPick) (defScope sPick) [] [] fPk fdPk)
    (aNm : PySem.W.nsIn K mainGlobals "_law_names" = some (some (.ref fNm)))
    (DNm : FunD K "_law_names" "_law_names" (defArgs sLNames) (defBody sLNames) (defScope sLNames) [] [] fNm fdNm)
    (aLt : PySem.W.nsIn K mainGlobals "_law_term" = some (some (.ref fLt)))
    (DLt : FunD K "_law_term" "_law_term" (defArgs sLTerm) (defBody sLTerm) (defScope sLTerm) [] [] fLt fdLt)
    (aLw : PySem.W.nsIn K mainGlobals "_law_writes" = some (some (.ref fLw)))
    (DLw : FunD K "_law_writes" "_law_writes" (defArgs sLW) (defBody sLW) (defScope sLW) [] [] fLw fdLw)
    (aLb : PySem.W.nsIn K mainGlobals "_law_book" = some (some (.ref fLb)))
    (DLb : FunD K "_law_book" "_law_book" (defArgs sLB) (defBody sLB) (defScope sLB) [] [] fLb fdLb)
    (aMb : PySem.W.nsIn K mainGlobals "_law_made_book" = some (some (.ref fMb)))
    (DMb : FunD K "_law_made_book" "_law_made_book" (defArgs sMade) (defBody sMade) (defScope sMade) [] [] fMb fdMb)
    (aLc : PySem.W.nsIn K mainGlobals "_law_calls_in" = some (some (.ref fLc)))
    (DLc : FunD K "_law_calls_in" "_law_calls_in" (defArgs sLCI) (defBody sLCI) (defScope sLCI) [] [] fLc fdLc)
    (aLo : PySem.W.nsIn K mainGlobals "_law_all_calls" = some (some (.ref fLo)))
    (DLo : FunD K "_law_all_calls" "_law_all_calls" (defArgs sLA) (defBody sLA) (defScope sLA) [] [] fLo fdLo)
    (aLd : PySem.W.nsIn K mainGlobals "_law_draw_call" = some (some (.ref fLd)))
    (DLd : FunD K "_law_draw_call" "_law_draw_call" (defArgs sDC) (defBody sDC) (defScope sDC) [] [] fLd fdLd)
    (aLe : PySem.W.nsIn K mainGlobals "_law_tree" = some (some (.ref fLe)))
    (DLe : FunD K "_law_tree" "_law_tree" (defArgs sLTr) (defBody sLTr) (defScope sLTr) [] [] fLe fdLe)
    (aLs : PySem.W.nsIn K mainGlobals "_law_statement" = some (some (.ref fLs)))
    (DLs : FunD K "_law_statement" "_law_statement" (defArgs sLS) (defBody sLS) (defScope sLS) [] [] fLs fdLs)
    (aLm : PySem.W.nsIn K mainGlobals "_law_made_statement" = some (some (.ref fLm)))
    (DLm : FunD K "_law_made_statement" "_law_made_statement" (defArgs sLMS) (defBody sLMS) (defScope sLMS) [] [] fLm fdLm)
    (aLr : PySem.W.nsIn K mainGlobals "_law_refused" = some (some (.ref fLr)))
    (DLr : FunD K "_law_refused" "_law_refused" (defArgs sRef) (defBody sRef) (defScope sRef) [] [] fLr fdLr)
    (aLf : PySem.W.nsIn K mainGlobals "_law_fits" = some (some (.ref fLf)))
    (DLf : FunD K "_law_fits" "_law_fits" (defArgs sLFits) (defBody sLFits) (defScope sLFits) [] [] fLf fdLf)
    (aLx : PySem.W.nsIn K mainGlobals "_law_more" = some (some (.ref fLx)))
    (DLx : FunD K "_law_more" "_law_more" (defArgs sMore) (defBody sMore) (defScope sMore) [] [] fLx fdLx)
    (aLa : PySem.W.nsIn K mainGlobals "law" = some (some (.ref fLa)))
    (DLa : FunD K "law" "law" (defArgs sLaw) (defBody sLaw) (defScope sLaw) [] [] fLa fdLa)
    (z_abs : PySem.W.nsIn K mainGlobals "abs" = some none)
    (z_int : PySem.W.nsIn K mainGlobals "int" = some none)
    (z_len : PySem.W.nsIn K mainGlobals "len" = some none)
    (z_sum : PySem.W.nsIn K mainGlobals "sum" = some none)
    (z_max : PySem.W.nsIn K mainGlobals "max" = some none)
    (z_min : PySem.W.nsIn K mainGlobals "min" = some none)
    (z_range : PySem.W.nsIn K mainGlobals "range" = some none)
    (z_isinstance : PySem.W.nsIn K mainGlobals "isinstance" = some none)
    (z_bool : PySem.W.nsIn K mainGlobals "bool" = some none)
    (z_str : PySem.W.nsIn K mainGlobals "str" = some none)
    (z_tuple : PySem.W.nsIn K mainGlobals "tuple" = some none)
    (z_list : PySem.W.nsIn K mainGlobals "list" = some none)
    (z_dict : PySem.W.nsIn K mainGlobals "dict" = some none)
    (z_all : PySem.W.nsIn K mainGlobals "all" = some none)
    (z_sorted : PySem.W.nsIn K mainGlobals "sorted" = some none)
    (z_repr : PySem.W.nsIn K mainGlobals "repr" = some none)
    (z_zip : PySem.W.nsIn K mainGlobals "zip" = some none)
    (z_OverflowError : PySem.W.nsIn K mainGlobals "OverflowError" = some none)
    (z_enumerate : PySem.W.nsIn K mainGlobals "enumerate" = some none)
    (z_KeyError : PySem.W.nsIn K mainGlobals "KeyError" = some none)
    (i_LONGEST_NAME : PySem.W.nsIn K mainGlobals "LONGEST_NAME" = some (some (.int 8 t_LONGEST_NAME)))
    (i_MOST_ARGUMENTS : PySem.W.nsIn K mainGlobals "MOST_ARGUMENTS" = some (some (.int 2 t_MOST_ARGUMENTS)))
    (i_MOST_DEEP : PySem.W.nsIn K mainGlobals "MOST_DEEP" = some (some (.int 8 t_MOST_DEEP)))
    (i_MOST_PARTS : PySem.W.nsIn K mainGlobals "MOST_PARTS" = some (some (.int 30 t_MOST_PARTS)))
    (i_MOST_WRITES : PySem.W.nsIn K mainGlobals "MOST_WRITES" = some (some (.int 3 t_MOST_WRITES)))
    (i_GREATEST_COST : PySem.W.nsIn K mainGlobals "GREATEST_COST" = some (some (.int 99 t_GREATEST_COST)))
    (i_MOST_CELLS : PySem.W.nsIn K mainGlobals "MOST_CELLS" = some (some (.int 6 t_MOST_CELLS)))
    (i_MOST_FUNCTIONS : PySem.W.nsIn K mainGlobals "MOST_FUNCTIONS" = some (some (.int 8 t_MOST_FUNCTIONS)))
    (i_MOST_CALLS : PySem.W.nsIn K mainGlobals "MOST_CALLS" = some (some (.int 8 t_MOST_CALLS)))
    (i_MOST_BRANCHES : PySem.W.nsIn K mainGlobals "MOST_BRANCHES" = some (some (.int 8 t_MOST_BRANCHES)))
    (i_DEEPEST_TREE : PySem.W.nsIn K mainGlobals "DEEPEST_TREE" = some (some (.int 8 t_DEEPEST_TREE)))
    (pgL : PySem.W.plainGet K cL Str.empty = true)
    (hdL : PySem.W.hasDictIn K cL = true)
    (poL : PySem.W.plainOver K cL = true)
    (saL : PySem.W.findIn K (.ref cL) "__setattr__" = some (some (.builtin "object.__setattr__")))
    (mkL : PySem.W.makesIn K cL = true)
    (kcL : PySem.W.keepIn K (.ref cL) = true)
    (pgF : PySem.W.plainGet K cF Str.empty = true)
    (hdF : PySem.W.hasDictIn K cF = true)
    (poF : PySem.W.plainOver K cF = true)
    (saF : PySem.W.findIn K (.ref cF) "__setattr__" = some (some (.builtin "object.__setattr__")))
    (mkF : PySem.W.makesIn K cF = true)
    (kcF : PySem.W.keepIn K (.ref cF) = true)
    (pgC : PySem.W.plainGet K cC Str.empty = true)
    (hdC : PySem.W.hasDictIn K cC = true)
    (poC : PySem.W.plainOver K cC = true)
    (saC : PySem.W.findIn K (.ref cC) "__setattr__" = some (some (.builtin "object.__setattr__")))
    (mkC : PySem.W.makesIn K cC = true)
    (kcC : PySem.W.keepIn K (.ref cC) = true)
    (pgK : PySem.W.plainGet K cK Str.empty = true)
    (hdK : PySem.W.hasDictIn K cK = true)
    (poK : PySem.W.plainOver K cK = true)
    (saK : PySem.W.findIn K (.ref cK) "__setattr__" = some (some (.builtin "object.__setattr__")))
    (mkK : PySem.W.makesIn K cK = true)
    (kcK : PySem.W.keepIn K (.ref cK) = true)
    (pgH : PySem.W.plainGet K cH Str.empty = true)
    (hdH : PySem.W.hasDictIn K cH = true)
    (poH : PySem.W.plainOver K cH = true)
    (saH : PySem.W.findIn K (.ref cH) "__setattr__" = some (some (.builtin "object.__setattr__")))
    (mkH : PySem.W.makesIn K cH = true)
    (kcH : PySem.W.keepIn K (.ref cH) = true)
    (cgL : PySem.W.specialIn K (.builtin "object.__class__") "__get__" = some (some (.builtin "getset_descriptor.__get__")))
    (ctL : PySem.W.takesIn K (.builtin "object.__class__") = some true)
    (meL : PySem.W.kitOne K (.ref cL) (.ref cL) = some true)
    (caL : PySem.W.findIn K (.ref cL) "__class__" = some (some (.builtin "object.__class__")))
    (cmL : PySem.W.mroIn K cL (.type "object") = some true)
    (noL_NoneType : PySem.W.kitOne K (.type "NoneType") (.ref cL) = some false)
    (noL_bool : PySem.W.kitOne K (.type "bool") (.ref cL) = some false)
    (noL_int : PySem.W.kitOne K (.type "int") (.ref cL) = some false)
    (noL_str : PySem.W.kitOne K (.type "str") (.ref cL) = some false)
    (noL_list : PySem.W.kitOne K (.type "list") (.ref cL) = some false)
    (noL_tuple : PySem.W.kitOne K (.type "tuple") (.ref cL) = some false)
    (noL_dict : PySem.W.kitOne K (.type "dict") (.ref cL) = some false)
    (meF : PySem.W.kitOne K (.ref cF) (.ref cF) = some true)
    (caF : PySem.W.findIn K (.ref cF) "__class__" = some (some (.builtin "object.__class__")))
    (cmF : PySem.W.mroIn K cF (.type "object") = some true)
    (noF_NoneType : PySem.W.kitOne K (.type "NoneType") (.ref cF) = some false)
    (noF_bool : PySem.W.kitOne K (.type "bool") (.ref cF) = some false)
    (noF_int : PySem.W.kitOne K (.type "int") (.ref cF) = some false)
    (noF_str : PySem.W.kitOne K (.type "str") (.ref cF) = some false)
    (noF_list : PySem.W.kitOne K (.type "list") (.ref cF) = some false)
    (noF_tuple : PySem.W.kitOne K (.type "tuple") (.ref cF) = some false)
    (noF_dict : PySem.W.kitOne K (.type "dict") (.ref cF) = some false)
    (meC : PySem.W.kitOne K (.ref cC) (.ref cC) = some true)
    (caC : PySem.W.findIn K (.ref cC) "__class__" = some (some (.builtin "object.__class__")))
    (cmC : PySem.W.mroIn K cC (.type "object") = some true)
    (noC_NoneType : PySem.W.kitOne K (.type "NoneType") (.ref cC) = some false)
    (noC_bool : PySem.W.kitOne K (.type "bool") (.ref cC) = some false)
    (noC_int : PySem.W.kitOne K (.type "int") (.ref cC) = some false)
    (noC_str : PySem.W.kitOne K (.type "str") (.ref cC) = some false)
    (noC_list : PySem.W.kitOne K (.type "list") (.ref cC) = some false)
    (noC_tuple : PySem.W.kitOne K (.type "tuple") (.ref cC) = some false)
    (noC_dict : PySem.W.kitOne K (.type "dict") (.ref cC) = some false)
    (neL : PySem.W.findIn K (.ref cL) "__ne__" = some (some (.builtin "object.__ne__")))
    (soL : PySem.W.subIn K (.ref cL) (.type "object") = some true)
    (nfL : PySem.W.notFirst K cL (.type "str") = true)
    (neC : PySem.W.findIn K (.ref cC) "__ne__" = some (some (.builtin "object.__ne__")))
    (soC : PySem.W.subIn K (.ref cC) (.type "object") = some true)
    (nfC : PySem.W.notFirst K cC (.type "str") = true)
    (fiKG : PySem.W.fnIn K fKG = true)
    (fiKH : PySem.W.fnIn K fKH = true)
    (nscondition : PySem.W.findIn K (.ref cH) "condition" = some none)
    (nsoutputs : PySem.W.findIn K (.ref cH) "outputs" = some none)
    (ns_atoms : PySem.W.findIn K (.ref cH) "_atoms" = some none)
    (ns_calls : PySem.W.findIn K (.ref cH) "_calls" = some none)
    (nhL : PySem.W.findIn K (.ref cL) "_height" = some none)
    (nnL : PySem.W.findIn K (.ref cL) "name" = some none)
    (nnC : PySem.W.findIn K (.ref cC) "name" = some none)
    (nkC : PySem.W.findIn K (.ref cC) "kind" = some none)
    (n_name : PySem.W.findIn K (.ref cF) "name" = some none)
    (n_arguments : PySem.W.findIn K (.ref cF) "arguments" = some none)
    (n_result : PySem.W.findIn K (.ref cF) "result" = some none)
    (n_label : PySem.W.findIn K (.ref cF) "label" = some none)
    (n_writes : PySem.W.findIn K (.ref cF) "writes" = some none)
    (n_cost : PySem.W.findIn K (.ref cF) "cost" = some none)
    (nk_cells : PySem.W.findIn K (.ref cK) "_cells" = some none)
    (nk_functions : PySem.W.findIn K (.ref cK) "_functions" = some none)
    (nk_by_name : PySem.W.findIn K (.ref cK) "_by_name" = some none)
    (xB : K.lookup cB = some (excClassObj nmB qqB cB NNB bsB [.ref cS, .type "ValueError", .type "Exception", .type "BaseException", .type "object"] true snB suB abB coB ddB maB mbB mcB mdB me_B "ValueError.__new__"))
    (saB : PySem.W.findIn K (.ref cB) "__setattr__" = some (some (.builtin "object.__setattr__")))
    (exB : PySem.W.subIn K (.ref cB) (.type "BaseException") = some true)
    (tyB : PySem.W.typeIn K (.ref cB) = some (.type "type"))
    (kcB : PySem.W.keepIn K (.ref cB) = true)
    (nlB : PySem.W.findIn K (.ref cB) "label" = some none)
    (tfB : PySem.W.typeIn K (.ref fBI) = some (.type "function"))
    (xP : K.lookup cP = some (excClassObj nmP qqP cP NNP bsP [.ref cS, .type "ValueError", .type "Exception", .type "BaseException", .type "object"] true snP suP abP coP ddP maP mbP mcP mdP me_P "ValueError.__new__"))
    (saP : PySem.W.findIn K (.ref cP) "__setattr__" = some (some (.builtin "object.__setattr__")))
    (exP : PySem.W.subIn K (.ref cP) (.type "BaseException") = some true)
    (tyP : PySem.W.typeIn K (.ref cP) = some (.type "type"))
    (kcP : PySem.W.keepIn K (.ref cP) = true)
    (nlP : PySem.W.findIn K (.ref cP) "part" = some none)
    (tfP : PySem.W.typeIn K (.ref fPI) = some (.type "function"))
    (xT : K.lookup cT = some (excClassObj nmT qqT cT NNT bsT [.ref cS, .type "ValueError", .type "Exception", .type "BaseException", .type "object"] true snT suT abT coT ddT maT mbT mcT mdT me_T "ValueError.__new__"))
    (saT : PySem.W.findIn K (.ref cT) "__setattr__" = some (some (.builtin "object.__setattr__")))
    (exT : PySem.W.subIn K (.ref cT) (.type "BaseException") = some true)
    (tyT : PySem.W.typeIn K (.ref cT) = some (.type "type"))
    (kcT : PySem.W.keepIn K (.ref cT) = true)
    (nlT : PySem.W.findIn K (.ref cT) "term" = some none)
    (tfT : PySem.W.typeIn K (.ref fTI) = some (.type "function"))
    (xU : K.lookup cU = some (excClassObj nmU qqU cU NNU bsU [.ref cS, .type "ValueError", .type "Exception", .type "BaseException", .type "object"] true snU suU abU coU ddU maU mbU mcU mdU me_U "ValueError.__new__"))
    (saU : PySem.W.findIn K (.ref cU) "__setattr__" = some (some (.builtin "object.__setattr__")))
    (exU : PySem.W.subIn K (.ref cU) (.type "BaseException") = some true)
    (tyU : PySem.W.typeIn K (.ref cU) = some (.type "type"))
    (kcU : PySem.W.keepIn K (.ref cU) = true)
    (nlU : PySem.W.findIn K (.ref cU) "index" = some none)
    (tfU : PySem.W.typeIn K (.ref fUI) = some (.type "function"))
    (xN : K.lookup cN = some (excClassObj nmN qqN cN NNN bsN [.ref cS, .type "ValueError", .type "Exception", .type "BaseException", .type "object"] true snN suN abN coN ddN maN mbN mcN mdN me_N "ValueError.__new__"))
    (saN : PySem.W.findIn K (.ref cN) "__setattr__" = some (some (.builtin "object.__setattr__")))
    (exN : PySem.W.subIn K (.ref cN) (.type "BaseException") = some true)
    (tyN : PySem.W.typeIn K (.ref cN) = some (.type "type"))
    (kcN : PySem.W.keepIn K (.ref cN) = true)
    (nlN : PySem.W.findIn K (.ref cN) "index" = some none)
    (tfN : PySem.W.typeIn K (.ref fNI) = some (.type "function"))
    (xI : K.lookup cI = some (excClassObj nmI qqI cI NNI bsI [.ref cS, .type "ValueError", .type "Exception", .type "BaseException", .type "object"] true snI suI abI coI ddI maI mbI mcI mdI me_I "ValueError.__new__"))
    (saI : PySem.W.findIn K (.ref cI) "__setattr__" = some (some (.builtin "object.__setattr__")))
    (exI : PySem.W.subIn K (.ref cI) (.type "BaseException") = some true)
    (tyI : PySem.W.typeIn K (.ref cI) = some (.type "type"))
    (kcI : PySem.W.keepIn K (.ref cI) = true)
    (nlI : PySem.W.findIn K (.ref cI) "tree" = some none)
    (tfI : PySem.W.typeIn K (.ref fII) = some (.type "function"))
    (xZ : K.lookup cZ = some (excClassObj nmZ qqZ cZ NNZ bsZ [.ref cS, .type "ValueError", .type "Exception", .type "BaseException", .type "object"] true snZ suZ abZ coZ ddZ maZ mbZ mcZ mdZ me_Z "ValueError.__new__"))
    (saZ : PySem.W.findIn K (.ref cZ) "__setattr__" = some (some (.builtin "object.__setattr__")))
    (exZ : PySem.W.subIn K (.ref cZ) (.type "BaseException") = some true)
    (tyZ : PySem.W.typeIn K (.ref cZ) = some (.type "type"))
    (kcZ : PySem.W.keepIn K (.ref cZ) = true)
    (nlZ : PySem.W.findIn K (.ref cZ) "index" = some none)
    (tfZ : PySem.W.typeIn K (.ref fZI) = some (.type "function"))
    (xA : K.lookup cA = some (excClassObj nmA qqA cA NNA bsA [.ref cS, .type "ValueError", .type "Exception", .type "BaseException", .type "object"] true snA suA abA coA ddA maA mbA mcA mdA me_A "ValueError.__new__"))
    (saA : PySem.W.findIn K (.ref cA) "__setattr__" = some (some (.builtin "object.__setattr__")))
    (exA : PySem.W.subIn K (.ref cA) (.type "BaseException") = some true)
    (tyA : PySem.W.typeIn K (.ref cA) = some (.type "type"))
    (kcA : PySem.W.keepIn K (.ref cA) = true)
    (nlA : PySem.W.findIn K (.ref cA) "index" = some none)
    (tfA : PySem.W.typeIn K (.ref fAI) = some (.type "function"))
    (xO : K.lookup cO = some (excClassObj nmO qqO cO NNO bsO [.type "OverflowError", .type "ArithmeticError", .type "Exception", .type "BaseException", .type "object"] true snO suO abO coO ddO maO mbO mcO mdO me_O "OverflowError.__new__"))
    (saO : PySem.W.findIn K (.ref cO) "__setattr__" = some (some (.builtin "object.__setattr__")))
    (exO : PySem.W.subIn K (.ref cO) (.type "BaseException") = some true)
    (tyO : PySem.W.typeIn K (.ref cO) = some (.type "type"))
    (kcO : PySem.W.keepIn K (.ref cO) = true)
    (nlO : PySem.W.findIn K (.ref cO) "limit" = some none)
    (tfO : PySem.W.typeIn K (.ref fOI) = some (.type "function"))
    (xY : K.lookup cY = some (excClassObj nmY qqY cY NNY bsY [.type "KeyError", .type "LookupError", .type "Exception", .type "BaseException", .type "object"] true snY suY abY coY ddY maY mbY mcY mdY me_Y "LookupError.__new__"))
    (saY : PySem.W.findIn K (.ref cY) "__setattr__" = some (some (.builtin "object.__setattr__")))
    (exY : PySem.W.subIn K (.ref cY) (.type "BaseException") = some true)
    (tyY : PySem.W.typeIn K (.ref cY) = some (.type "type"))
    (kcY : PySem.W.keepIn K (.ref cY) = true)
    (nlY : PySem.W.findIn K (.ref cY) "name" = some none)
    (tfY : PySem.W.typeIn K (.ref fYI) = some (.type "function"))
    (gaI : PySem.W.findIn K (.ref cI) "__getattribute__" = some (some (.builtin "BaseException.__getattribute__")))
    (ggI : PySem.W.findIn K (.ref cI) "__getattr__" = some none)
    (hdI : PySem.W.hasDictIn K cI = true)
    (gaZ : PySem.W.findIn K (.ref cZ) "__getattribute__" = some (some (.builtin "BaseException.__getattribute__")))
    (ggZ : PySem.W.findIn K (.ref cZ) "__getattr__" = some none)
    (hdZ : PySem.W.hasDictIn K cZ = true)
    (gaO : PySem.W.findIn K (.ref cO) "__getattribute__" = some (some (.builtin "BaseException.__getattribute__")))
    (ggO : PySem.W.findIn K (.ref cO) "__getattr__" = some none)
    (hdO : PySem.W.hasDictIn K cO = true)
    (gaA : PySem.W.findIn K (.ref cA) "__getattribute__" = some (some (.builtin "BaseException.__getattribute__")))
    (ggA : PySem.W.findIn K (.ref cA) "__getattr__" = some none)
    (hdA : PySem.W.hasDictIn K cA = true)
    (eII : PySem.W.exmOne K (.ref cI) (.ref cI) = some true)
    (eZI : PySem.W.exmOne K (.ref cZ) (.ref cI) = some false)
    (eZZ : PySem.W.exmOne K (.ref cZ) (.ref cZ) = some true)
    (eOI : PySem.W.exmOne K (.ref cO) (.ref cI) = some false)
    (eOZ : PySem.W.exmOne K (.ref cO) (.ref cZ) = some false)
    (eOO : PySem.W.exmOne K (.ref cO) (.ref cO) = some true)
    (eAA : PySem.W.exmOne K (.ref cA) (.ref cA) = some true)
    (fiY : PySem.W.findCls K (.type "KeyError") (.type "type") "__init__" = some (.val (.builtin "KeyError.__init__")))
    (spS : PySem.W.specialIn K (.ref cS) "__getattribute__" = some (some (.builtin "type.__getattribute__")))
    (tyS : PySem.W.typeIn K (.ref cS) = some (.type "type"))
    (rdS : PySem.W.readsIn K cS (.type "type") = true)
    (fiS : PySem.W.findCls K (.ref cS) (.type "type") "__init__" = some (.val (.builtin "ValueError.__init__")))
    (fiO : PySem.W.findCls K (.type "OverflowError") (.type "type") "__init__" = some (.val (.builtin "OverflowError.__init__")))
    (vR : PySem.W.nsIn K mainGlobals "LABELS" = some (some (.ref aR)))
    (lR : K.lookup aR = some ⟨.type "tuple", none, .seq itsR nR, slR⟩)
    (rR : Vals (labRow.map V.str) itsR.toList)
    (sR : itsR.size ≤ sizeLine)
    (vV : PySem.W.nsIn K mainGlobals "VALUES" = some (some (.ref aV)))
    (lV : K.lookup aV = some ⟨.type "tuple", none, .seq itsV nV, slV⟩)
    (rV : Vals [.int 0, .int 1, .int 2] itsV.toList)
    (sV : itsV.size ≤ sizeLine)
    (vJ : PySem.W.nsIn K mainGlobals "KINDS" = some (some (.ref aJ)))
    (lJ : K.lookup aJ = some ⟨.type "tuple", none, .seq itsJ nJ, slJ⟩)
    (rJ : Vals (kindRow.map V.str) itsJ.toList)
    (sJ : itsJ.size ≤ sizeLine)
    (vM : PySem.W.nsIn K mainGlobals "COLUMNS" = some (some (.ref aM)))
    (lM : K.lookup aM = some ⟨.type "tuple", none, .seq itsM nM, slM⟩)
    (rM : Vals [.str "x", .str "y"] itsM.toList)
    (sM : itsM.size ≤ sizeLine)
    (vQ : PySem.W.nsIn K mainGlobals "LENGTHS" = some (some (.ref aQ)))
    (lQ : K.lookup aQ = some ⟨.type "dict", none, .dict esL nQ, #[]⟩)
    (kQ : PySem.W.KeysLit w.params esL.toList)
    (yQ : (aQ == sysModules) = false)
    (eQ : ∀ z : Str, Lens (esL.toList.find? (·.key.isStr z)) (lenOf z))
    (oQ : esL.toList.any (·.refKey) = false) :
    ∃ fd : FuncData, (∀ (s : Shared) (v : Value), BindsTo s fd ⟨[v], []⟩ [("_law_script", v)]) ∧ ∀ base : Heap, K.In base → base.Ns mainGlobals mg → FnG l.prog w K mg base 20 fa fd ["_law_script"] (spLaw K) := by
  have e := hfa.symm.trans (PySem.W.mg_of X G aLa)
  cases e
  have kBI := DBI.kp
  have FBI := Hd.fun_of DBI
  have bBI := FBI.binds (ps := ["self", "label"]) fun _ _ _ _ _ _ us hl => match us, hl with | [_, _], _ => rfl
  have kPI := DPI.kp
  have FPI := Hd.fun_of DPI
  have bPI := FPI.binds (ps := ["self", "part"]) fun _ _ _ _ _ _ us hl => match us, hl with | [_, _], _ => rfl
  have kTI := DTI.kp
  have FTI := Hd.fun_of DTI
  have bTI := FTI.binds (ps := ["self", "term"]) fun _ _ _ _ _ _ us hl => match us, hl with | [_, _], _ => rfl
  have kUI := DUI.kp
  have FUI := Hd.fun_of DUI
  have bUI := FUI.binds (ps := ["self", "index"]) fun _ _ _ _ _ _ us hl => match us, hl with | [_, _], _ => rfl
  have kNI := DNI.kp
  have FNI := Hd.fun_of DNI
  have bNI := FNI.binds (ps := ["self", "index"]) fun _ _ _ _ _ _ us hl => match us, hl with | [_, _], _ => rfl
  have kII := DII.kp
  have FII := Hd.fun_of DII
  have bII := FII.binds (ps := ["self", "tree"]) fun _ _ _ _ _ _ us hl => match us, hl with | [_, _], _ => rfl
  have kZI := DZI.kp
  have FZI := Hd.fun_of DZI
  have bZI := FZI.binds (ps := ["self", "index"]) fun _ _ _ _ _ _ us hl => match us, hl with | [_, _], _ => rfl
  have kAI := DAI.kp
  have FAI := Hd.fun_of DAI
  have bAI := FAI.binds (ps := ["self", "index"]) fun _ _ _ _ _ _ us hl => match us, hl with | [_, _], _ => rfl
  have kOI := DOI.kp
  have FOI := Hd.fun_of DOI
  have bOI := FOI.binds (ps := ["self", "limit"]) fun _ _ _ _ _ _ us hl => match us, hl with | [_, _], _ => rfl
  have kYI := DYI.kp
  have FYI := Hd.fun_of DYI
  have bYI := FYI.binds (ps := ["self", "name"]) fun _ _ _ _ _ _ us hl => match us, hl with | [_, _], _ => rfl
  have kLI := DLI.kp
  have FLI := Hd.fun_of DLI
  have bLI := FLI.binds (ps := ["self", "name"]) fun _ _ _ _ _ _ us hl => match us, hl with | [_, _], _ => rfl
  have kFI := DFI.kp
  have FFI := Hd.fun_of DFI
  have kFP := DFP.kp
  have FFP := Hd.fun_of DFP
  have bFP := FFP.binds (ps := ["self"]) fun _ _ _ _ _ _ us hl => match us, hl with | [_], _ => rfl
  have kCI := DCI.kp
  have FCI := Hd.fun_of DCI
  have bCI := FCI.binds (ps := ["self", "name", "kind"]) fun _ _ _ _ _ _ us hl => match us, hl with | [_, _, _], _ => rfl
  have kKI := DKI.kp
  have FKI := Hd.fun_of DKI
  have bKI := FKI.binds (ps := ["self", "cells", "functions"]) fun _ _ _ _ _ _ us hl => match us, hl with | [_, _, _], _ => rfl
  have kKG := DKG.kp
  have FKG := Hd.fun_of DKG
  have bKG := FKG.binds (ps := ["self", "at"]) fun _ _ _ _ _ _ us hl => match us, hl with | [_, _], _ => rfl
  have kKH := DKH.kp
  have FKH := Hd.fun_of DKH
  have bKH := FKH.binds (ps := ["self", "x"]) fun _ _ _ _ _ _ us hl => match us, hl with | [_, _], _ => rfl
  have kHI := DHI.kp
  have kHF := DHF.kp
  have FHF := Hd.fun_of DHF
  have bHF := FHF.binds (ps := ["self", "book"]) fun _ _ _ _ _ _ us hl => match us, hl with | [_, _], _ => rfl
  have kHW := DHW.kp
  have FHW := Hd.fun_of DHW
  have bHW := FHW.binds (ps := ["self", "call", "shown"]) fun _ _ _ _ _ _ us hl => match us, hl with | [_, _, _], _ => rfl
  have kWh := DWh.kp
  have FWh := Hd.fun_of DWh
  have bWh := FWh.binds (ps := ["value"]) fun _ _ _ _ _ _ us hl => match us, hl with | [_], _ => rfl
  have kVa := DVa.kp
  have FVa := Hd.fun_of DVa
  have bVa := FVa.binds (ps := ["value"]) fun _ _ _ _ _ _ us hl => match us, hl with | [_], _ => rfl
  have kNa := DNa.kp
  have FNa := Hd.fun_of DNa
  have bNa := FNa.binds (ps := ["value"]) fun _ _ _ _ _ _ us hl => match us, hl with | [_], _ => rfl
  have kTl := DTl.kp
  have FTl := Hd.fun_of DTl
  have bTl := FTl.binds (ps := ["value"]) fun _ _ _ _ _ _ us hl => match us, hl with | [_], _ => rfl
  have kTe := DTe.kp
  have FTe := Hd.fun_of DTe
  have bTe := FTe.binds (ps := ["value", "arguments"]) fun _ _ _ _ _ _ us hl => match us, hl with | [_, _], _ => rfl
  have kHa := DHa.kp
  have FHa := Hd.fun_of DHa
  have bHa := FHa.binds (ps := ["part", "arguments"]) fun _ _ _ _ _ _ us hl => match us, hl with | [_, _], _ => rfl
  have kCf := DCf.kp
  have FCf := Hd.fun_of DCf
  have bCf := FCf.binds (ps := ["terms"]) fun _ _ _ _ _ _ us hl => match us, hl with | [_], _ => rfl
  have kIn := DIn.kp
  have FIn := Hd.fun_of DIn
  have bIn := FIn.binds (ps := ["term"]) fun _ _ _ _ _ _ us hl => match us, hl with | [_], _ => rfl
  have kNx := DNx.kp
  have FNx := Hd.fun_of DNx
  have bNx := FNx.binds (ps := ["level"]) fun _ _ _ _ _ _ us hl => match us, hl with | [_], _ => rfl
  have kAw := DAw.kp
  have FAw := Hd.fun_of DAw
  have bAw := FAw.binds (ps := ["value"]) fun _ _ _ _ _ _ us hl => match us, hl with | [_], _ => rfl
  have kPa := DPa.kp
  have FPa := Hd.fun_of DPa
  have bPa := FPa.binds (ps := ["term"]) fun _ _ _ _ _ _ us hl => match us, hl with | [_], _ => rfl
  have kWi := DWi.kp
  have FWi := Hd.fun_of DWi
  have bWi := FWi.binds (ps := ["word", "term"]) fun _ _ _ _ _ _ us hl => match us, hl with | [_, _], _ => rfl
  have kAs := DAs.kp
  have FAs := Hd.fun_of DAs
  have bAs := FAs.binds (ps := ["names"]) fun _ _ _ _ _ _ us hl => match us, hl with | [_], _ => rfl
  have kCs := DCs.kp
  have FCs := Hd.fun_of DCs
  have bCs := FCs.binds (ps := ["term"]) fun _ _ _ _ _ _ us hl => match us, hl with | [_], _ => rfl
  have kPf := DPf.kp
  have FPf := Hd.fun_of DPf
  have bPf := FPf.binds (ps := ["part", "kinds", "ahead"]) fun _ _ _ _ _ _ us hl => match us, hl with | [_, _, _], _ => rfl
  have kFt := DFt.kp
  have FFt := Hd.fun_of DFt
  have bFt := FFt.binds (ps := ["function", "kinds", "ahead"]) fun _ _ _ _ _ _ us hl => match us, hl with | [_, _, _], _ => rfl
  have kCc := DCc.kp
  have FCc := Hd.fun_of DCc
  have bCc := FCc.binds (ps := ["cells"]) fun _ _ _ _ _ _ us hl => match us, hl with | [_], _ => rfl
  have kCn := DCn.kp
  have FCn := Hd.fun_of DCn
  have bCn := FCn.binds (ps := ["cells", "functions"]) fun _ _ _ _ _ _ us hl => match us, hl with | [_, _], _ => rfl
  have kIc := DIc.kp
  have FIc := Hd.fun_of DIc
  have bIc := FIc.binds (ps := ["value"]) fun _ _ _ _ _ _ us hl => match us, hl with | [_], _ => rfl
  have kCa := DCa.kp
  have FCa := Hd.fun_of DCa
  have bCa := FCa.binds (ps := ["value"]) fun _ _ _ _ _ _ us hl => match us, hl with | [_], _ => rfl
  have kIt := DIt.kp
  have FIt := Hd.fun_of DIt
  have bIt := FIt.binds (ps := ["value", "deep"]) fun _ _ _ _ _ _ us hl => match us, hl with | [_, _], _ => rfl
  have kTr := DTr.kp
  have FTr := Hd.fun_of DTr
  have bTr := FTr.binds (ps := ["value"]) fun _ _ _ _ _ _ us hl => match us, hl with | [_], _ => rfl
  have kBr := DBr.kp
  have FBr := Hd.fun_of DBr
  have bBr := FBr.binds (ps := ["tree"]) fun _ _ _ _ _ _ us hl => match us, hl with | [_], _ => rfl
  have kCi := DCi.kp
  have FCi := Hd.fun_of DCi
  have bCi := FCi.binds (ps := ["tree"]) fun _ _ _ _ _ _ us hl => match us, hl with | [_], _ => rfl
  have kCk := DCk.kp
  have FCk := Hd.fun_of DCk
  have bCk := FCk.binds (ps := ["outputs"]) fun _ _ _ _ _ _ us hl => match us, hl with | [_], _ => rfl
  have kPl := DPl.kp
  have FPl := Hd.fun_of DPl
  have bPl := FPl.binds (ps := ["_law_script", "_law_k"]) fun _ _ _ _ _ _ us hl => match us, hl with | [_, _], _ => rfl
  have kDr := DDr.kp
  have FDr := Hd.fun_of DDr
  have bDr := FDr.binds (ps := ["_law_pool_here", "_law_many"]) fun _ _ _ _ _ _ us hl => match us, hl with | [_, _], _ => rfl
  have kPk := DPk.kp
  have FPk := Hd.fun_of DPk
  have bPk := FPk.binds (ps := ["_law_pool_here", "_law_row"]) fun _ _ _ _ _ _ us hl => match us, hl with | [_, _], _ => rfl
  have kNm := DNm.kp
  have FNm := Hd.fun_of DNm
  have bNm := FNm.binds (ps := ["_law_pool_here", "_law_count"]) fun _ _ _ _ _ _ us hl => match us, hl with | [_, _], _ => rfl
  have kLt := DLt.kp
  have FLt := Hd.fun_of DLt
  have bLt := FLt.binds (ps := ["_law_pool_here", "_law_b", "_law_many", "_law_deep"]) fun _ _ _ _ _ _ us hl => match us, hl with | [_, _, _, _], _ => rfl
  have kLw := DLw.kp
  have FLw := Hd.fun_of DLw
  have bLw := FLw.binds (ps := ["_law_pool_here", "_law_b", "_law_many"]) fun _ _ _ _ _ _ us hl => match us, hl with | [_, _, _], _ => rfl
  have kLb := DLb.kp
  have FLb := Hd.fun_of DLb
  have bLb := FLb.binds (ps := ["_law_pool_here", "_law_most", "_law_deep"]) fun _ _ _ _ _ _ us hl => match us, hl with | [_, _, _], _ => rfl
  have kMb := DMb.kp
  have FMb := Hd.fun_of DMb
  have bMb := FMb.binds (ps := ["_law_b"]) fun _ _ _ _ _ _ us hl => match us, hl with | [_], _ => rfl
  have kLc := DLc.kp
  have FLc := Hd.fun_of DLc
  have bLc := FLc.binds (ps := ["_law_tree_here"]) fun _ _ _ _ _ _ us hl => match us, hl with | [_], _ => rfl
  have kLo := DLo.kp
  have FLo := Hd.fun_of DLo
  have bLo := FLo.binds (ps := ["_law_st"]) fun _ _ _ _ _ _ us hl => match us, hl with | [_], _ => rfl
  have kLd := DLd.kp
  have FLd := Hd.fun_of DLd
  have bLd := FLd.binds (ps := ["_law_pool_here", "_law_b"]) fun _ _ _ _ _ _ us hl => match us, hl with | [_, _], _ => rfl
  have kLe := DLe.kp
  have FLe := Hd.fun_of DLe
  have bLe := FLe.binds (ps := ["_law_pool_here", "_law_b", "_law_many"]) fun _ _ _ _ _ _ us hl => match us, hl with | [_, _, _], _ => rfl
  have kLs := DLs.kp
  have FLs := Hd.fun_of DLs
  have bLs := FLs.binds (ps := ["_law_pool_here", "_law_b", "_law_most"]) fun _ _ _ _ _ _ us hl => match us, hl with | [_, _, _], _ => rfl
  have kLm := DLm.kp
  have FLm := Hd.fun_of DLm
  have bLm := FLm.binds (ps := ["_law_st"]) fun _ _ _ _ _ _ us hl => match us, hl with | [_], _ => rfl
  have kLr := DLr.kp
  have FLr := Hd.fun_of DLr
  have bLr := FLr.binds (ps := ["_law_tree_here", "_law_outs"]) fun _ _ _ _ _ _ us hl => match us, hl with | [_, _], _ => rfl
  have kLf := DLf.kp
  have FLf := Hd.fun_of DLf
  have bLf := FLf.binds (ps := ["_law_wanted", "_law_book_here"]) fun _ _ _ _ _ _ us hl => match us, hl with | [_, _], _ => rfl
  have kLx := DLx.kp
  have FLx := Hd.fun_of DLx
  have bLx := FLx.binds (ps := ["_law_wanted", "_law_call", "_law_shown"]) fun _ _ _ _ _ _ us hl => match us, hl with | [_, _, _], _ => rfl
  have kLa := DLa.kp
  have FLa := Hd.fun_of DLa
  have M : Blt mg := ⟨PySem.W.mg_none_of X G z_abs, PySem.W.mg_none_of X G z_int, PySem.W.mg_none_of X G z_len, PySem.W.mg_none_of X G z_sum, PySem.W.mg_none_of X G z_max, PySem.W.mg_none_of X G z_min, PySem.W.mg_none_of X G z_range, PySem.W.mg_none_of X G z_isinstance, PySem.W.mg_none_of X G z_bool, PySem.W.mg_none_of X G z_str, PySem.W.mg_none_of X G z_tuple, PySem.W.mg_none_of X G z_list, PySem.W.mg_none_of X G z_dict, PySem.W.mg_none_of X G z_all, PySem.W.mg_none_of X G z_sorted, PySem.W.mg_none_of X G z_repr, PySem.W.mg_none_of X G z_zip⟩
  obtain ⟨ocFI, odFI, kVFI, dcFI, pmFI, anFI, cdFI, ctFI, slFI, rfl, lFI, cFI⟩ := FFI.ex
  have T : LabC K mg cL := ⟨⟨pgL, hdL, poL, saL⟩, nhL, nnL, meL, noL_str, (PySem.W.mg_of X G a_L), caL, cgL, ctL, cmL, neL, soL, nfL⟩
  have R : RowT K mg := ⟨aR, _, (PySem.W.mg_of X G vR), lR, rfl, rfl, fun H => .inr ⟨_, itsR, nR, lR, rfl, rfl, sR, rR⟩⟩
  have oB : OexC K cB := ⟨⟨nmB, qqB, NNB, bsB, _, snB, suB, abB, coB, ddB, maB, mbB, mcB, mdB, me_B, xB, by rfl⟩, saB, exB, tyB, kcB⟩
  have EB : ErrT K mg "BadLabel" "label" cB fBI := ⟨oB, nlB, aBI, tfB, (PySem.W.mg_of X G a_B)⟩
  have oP : OexC K cP := ⟨⟨nmP, qqP, NNP, bsP, _, snP, suP, abP, coP, ddP, maP, mbP, mcP, mdP, me_P, xP, by rfl⟩, saP, exP, tyP, kcP⟩
  have EP : ErrT K mg "BadPart" "part" cP fPI := ⟨oP, nlP, aPI, tfP, (PySem.W.mg_of X G a_P)⟩
  have oT : OexC K cT := ⟨⟨nmT, qqT, NNT, bsT, _, snT, suT, abT, coT, ddT, maT, mbT, mcT, mdT, me_T, xT, by rfl⟩, saT, exT, tyT, kcT⟩
  have ET : ErrT K mg "BadTerm" "term" cT fTI := ⟨oT, nlT, aTI, tfT, (PySem.W.mg_of X G a_T)⟩
  have oU : OexC K cU := ⟨⟨nmU, qqU, NNU, bsU, _, snU, suU, abU, coU, ddU, maU, mbU, mcU, mdU, me_U, xU, by rfl⟩, saU, exU, tyU, kcU⟩
  have EU : ErrT K mg "BadCell" "index" cU fUI := ⟨oU, nlU, aUI, tfU, (PySem.W.mg_of X G a_U)⟩
  have oN : OexC K cN := ⟨⟨nmN, qqN, NNN, bsN, _, snN, suN, abN, coN, ddN, maN, mbN, mcN, mdN, me_N, xN, by rfl⟩, saN, exN, tyN, kcN⟩
  have EN : ErrT K mg "BadFunction" "index" cN fNI := ⟨oN, nlN, aNI, tfN, (PySem.W.mg_of X G a_N)⟩
  have oI : OexC K cI := ⟨⟨nmI, qqI, NNI, bsI, _, snI, suI, abI, coI, ddI, maI, mbI, mcI, mdI, me_I, xI, by rfl⟩, saI, exI, tyI, kcI⟩
  have EI : ErrT K mg "BadTree" "tree" cI fII := ⟨oI, nlI, aII, tfI, (PySem.W.mg_of X G a_I)⟩
  have oZ : OexC K cZ := ⟨⟨nmZ, qqZ, NNZ, bsZ, _, snZ, suZ, abZ, coZ, ddZ, maZ, mbZ, mcZ, mdZ, me_Z, xZ, by rfl⟩, saZ, exZ, tyZ, kcZ⟩
  have EZ : ErrT K mg "BadOutput" "index" cZ fZI := ⟨oZ, nlZ, aZI, tfZ, (PySem.W.mg_of X G a_Z)⟩
  have oA : OexC K cA := ⟨⟨nmA, qqA, NNA, bsA, _, snA, suA, abA, coA, ddA, maA, mbA, mcA, mdA, me_A, xA, by rfl⟩, saA, exA, tyA, kcA⟩
  have EA : ErrT K mg "BadCall" "index" cA fAI := ⟨oA, nlA, aAI, tfA, (PySem.W.mg_of X G a_A)⟩
  have oO : OexG K famO cO := ⟨⟨_, _, _, _, _, _, _, _, _, _, _, _, _, _, xO⟩, saO, kcO⟩
  have EO : ErrO K mg famO "TooMany" "limit" cO fOI := ⟨oO, nlO, aOI, tfO, (PySem.W.mg_of X G a_O), exO, tyO⟩
  have oY : OexG K famK cY := ⟨⟨_, _, _, _, _, _, _, _, _, _, _, _, _, _, xY⟩, saY, kcY⟩
  have EY : ErrO K mg famK "UnknownName" "name" cY fYI := ⟨oY, nlY, aYI, tfY, (PySem.W.mg_of X G a_Y), exY, tyY⟩
  have OB : OwnBase K mg "StoreError" cS := ⟨(PySem.W.mg_of X G a_S), spS, tyS, rdS, fiS⟩
  have NKL : NoKit K cL := fun d => match d with
    | .none => noL_NoneType
    | .bool _ => noL_bool
    | .int _ => noL_int
    | .str _ => noL_str
    | .list _ => noL_list
    | .tuple _ => noL_tuple
    | .dict _ => noL_dict
  have NKF : NoKit K cF := fun d => match d with
    | .none => noF_NoneType
    | .bool _ => noF_bool
    | .int _ => noF_int
    | .str _ => noF_str
    | .list _ => noF_list
    | .tuple _ => noF_tuple
    | .dict _ => noF_dict
  have NKC : NoKit K cC := fun d => match d with
    | .none => noC_NoneType
    | .bool _ => noC_bool
    | .int _ => noC_int
    | .str _ => noC_str
    | .list _ => noC_list
    | .tuple _ => noC_tuple
    | .dict _ => noC_dict
  have TC : CellsTxt K mg := ⟨⟨aV, (PySem.W.mg_of X G vV), fun H => .inr ⟨_, itsV, nV, lV, rfl, rfl, sV, rV⟩⟩, ⟨_, (PySem.W.mg_of X G i_LONGEST_NAME)⟩⟩
  have TS : StTxt K mg := ⟨⟨aM, _, (PySem.W.mg_of X G vM), lM, rfl, rfl, fun H => .inr ⟨_, itsM, nM, lM, rfl, rfl, sM, rM⟩⟩, ⟨_, (PySem.W.mg_of X G i_MOST_ARGUMENTS)⟩⟩
  have TT : TrTxt K mg := ⟨⟨_, (PySem.W.mg_of X G i_MOST_BRANCHES)⟩, ⟨_, (PySem.W.mg_of X G i_DEEPEST_TREE)⟩⟩
  have TK : CallTxt mg := ⟨⟨_, (PySem.W.mg_of X G i_MOST_CALLS)⟩⟩
  have TX : TermsTxt K w mg := ⟨⟨aQ, esL, nQ, (PySem.W.mg_of X G vQ), ⟨lQ, kQ, yQ⟩, fun z => lens_in lQ (eQ z) oQ⟩, ⟨_, (PySem.W.mg_of X G i_MOST_ARGUMENTS)⟩, ⟨_, (PySem.W.mg_of X G i_MOST_DEEP)⟩, ⟨_, (PySem.W.mg_of X G i_MOST_PARTS)⟩⟩
  have CF : CellFns K mg fWh fVa fNa _ _ _ := ⟨FWh, FVa, FNa, bWh, bVa, bNa, (PySem.W.mg_of X G aWh), (PySem.W.mg_of X G aVa), (PySem.W.mg_of X G aNa)⟩
  have TF : FunTxt K mg := ⟨⟨_, (PySem.W.mg_of X G i_MOST_WRITES)⟩, ⟨_, (PySem.W.mg_of X G i_GREATEST_COST)⟩⟩
  have CC : CelC K mg cC := ⟨⟨pgC, hdC, poC, saC⟩, nnC, nkC, meC, noC_str, (PySem.W.mg_of X G a_C), caC, cgL, ctL, cmC, neC, soC, nfC⟩
  have RK : KindT K mg := ⟨aJ, (PySem.W.mg_of X G vJ), fun H => .inr ⟨_, itsJ, nJ, lJ, rfl, rfl, sJ, rJ⟩⟩
  have KFu : KitC K cF := ⟨⟨pgF, hdF, poF, saF⟩, meF, caF, cgL, ctL, cmF, NKF⟩
  have FC : FldC K cF := ⟨⟨pgF, hdF, poF, saF⟩, n_name, n_arguments, n_result, n_writes⟩
  have BC : BookC K cK := ⟨⟨pgK, hdK, poK, saK⟩, nk_cells, nk_functions, nk_by_name⟩
  have BT : BkT mg := ⟨PySem.W.mg_none_of X G z_enumerate, ⟨_, (PySem.W.mg_of X G i_MOST_CELLS)⟩, ⟨_, (PySem.W.mg_of X G i_MOST_FUNCTIONS)⟩⟩
  have BK : BookK K cK cC cF := ⟨⟨pgK, hdK, poK, saK⟩, nk_cells, nk_functions, nk_by_name, FC, ⟨pgC, hdC, poC, saC⟩, nnC⟩
  have WF : WithFns K mg fWi fAs _ _ := ⟨FWi, FAs, bWi, bAs, (PySem.W.mg_of X G aWi), (PySem.W.mg_of X G aAs)⟩
  have b3 : KBn K (PySem.W.fnOf "__init__" "Function.__init__" (defArgs sFun) (defBody sFun) (defScope sFun) .none kVFI dcFI pmFI anFI cdFI ctFI) ["self", "name", "arguments", "result", "label", "writes", "cost"] 4 ["label", "writes", "cost"] (fun us ws => us ++ ws) (fun vs zs => vs ++ zs) := ⟨fun s us ws X1 l1 l2 => match us, ws, l1, l2 with | [_, _, _, _], [_, _, _], _, _ => .of_eq rfl, fun r1 r2 => r1.append r2⟩
  have SC : StC K cH := ⟨⟨pgH, hdH, poH, saH⟩, nscondition, nsoutputs, ns_atoms, ns_calls⟩
  have DS := DHI
  obtain ⟨dsS, hdsS, bHI⟩ := DS.binds1 (ps := ["self", "condition", "outputs"]) 3 1 (by simp) rfl (fun T kV doc pm an cdv ct us its l1 l2 => match us, its, l1, l2 with | [_, _, _], [_], _, _ => ⟨_, rfl, rfl⟩)
  have hn0 : dsS = [] := by
    have z : Vals [] dsS := hdsS
    cases z
    rfl
  subst hn0
  have EX : ErrX24 K mg (⟨cI, cZ, cO⟩ : SEr) cA := ⟨(PySem.W.mg_of X G a_I), (PySem.W.mg_of X G a_Z), (PySem.W.mg_of X G a_O), (PySem.W.mg_of X G a_A), ⟨gaI, ggI, exI, hdI⟩, ⟨gaZ, ggZ, exZ, hdZ⟩, ⟨gaO, ggO, exO, hdO⟩, ⟨gaA, ggA, exA, hdA⟩, nlI, nlZ, nlO, nlA, eII, eZI, eZZ, eOI, eOZ, eOO, eAA⟩
  have bLaw := FunD.bindsA (ps := ["_law_script"]) DLa fun _ _ _ _ _ _ us hl => match us, hl with | [_], _ => rfl
  exact ⟨fdLa, fun s v => bLaw s [v] rfl, fun base _ _ => by
    have GB := ok_badL (P := l.prog) (w := w) (base := base) FBI OB oB nlB
    have GP := ok_badPart (P := l.prog) (w := w) (base := base) FPI OB oP nlP
    have GT := ok_badTerm (P := l.prog) (w := w) (base := base) FTI OB oT nlT
    have GU := ok_badCell (P := l.prog) (w := w) (base := base) FUI OB oU nlU
    have GN := ok_badFunc (P := l.prog) (w := w) (base := base) FNI OB oN nlN
    have GI := ok_badTree (P := l.prog) (w := w) (base := base) FII OB oI nlI
    have GZ := ok_badOutput (P := l.prog) (w := w) (base := base) FZI OB oZ nlZ
    have GA := ok_badCall (P := l.prog) (w := w) (base := base) FAI OB oA nlA
    have GO := ok_TooMany (P := l.prog) (w := w) (base := base) FOI (PySem.W.mg_none_of X G z_OverflowError) fiO oO nlO
    have GL := ok_lab (P := l.prog) (w := w) (base := base) FLI M T R EB GB bBI
    have LM : LabM l.prog w K mg base cL cB fLI _ := ⟨⟨mkL, aLI, iLI, kcL⟩, GL, bLI, (PySem.W.mg_of X G a_L)⟩
    have GTl := ok_toLab FTl M T NKL LM
    have GWh := ok_whole (P := l.prog) (w := w) (base := base) FWh M
    have GNa := ok_name (P := l.prog) (w := w) (base := base) FNa M TC
    have GIn := ok_inner (P := l.prog) (w := w) (base := base) FIn M TC CF
    have GX := ok_next (P := l.prog) (w := w) (base := base) FNx GIn FIn bIn ((PySem.W.mg_of X G aIn))
    have GH := ok_has (P := l.prog) (w := w) (base := base) FHa M TC TX CF FCf bCf ((PySem.W.mg_of X G aCf))
    have GTe := ok_term FTe M TX GH FHa bHa ((PySem.W.mg_of X G aHa)) GX FNx bNx ((PySem.W.mg_of X G aNx))
    have GAw := ok_areW (P := l.prog) (w := w) (base := base) FAw M TF GNa kNa bNa ((PySem.W.mg_of X G aNa))
    have C : FunC l.prog w K mg base cF cL cB cP cT fNa fWh fTl fTe fAw fPI fTI _ _ _ _ _ _ _ := ⟨GNa, kNa, bNa, (PySem.W.mg_of X G aNa), GWh, kWh, bWh, (PySem.W.mg_of X G aWh), GTl, kTl, bTl, (PySem.W.mg_of X G aTl), GTe, kTe, bTe, (PySem.W.mg_of X G aTe), GAw, kAw, bAw, (PySem.W.mg_of X G aAw), EP, GP, bPI, ET, GT, bTI, ⟨_, (PySem.W.mg_of X G i_MOST_ARGUMENTS)⟩, ⟨pgF, hdF, poF, saF⟩, n_name, n_arguments, n_result, n_label, n_writes, n_cost⟩
    have GF := ok_fun (P := l.prog) (w := w) (base := base) FFI M TF C
    have GFP := ok_fparts (P := l.prog) (w := w) (mg := mg) (base := base) FFP FC
    have GCe := ok_cell FCI M CC RK EP GP bPI GNa kNa bNa ((PySem.W.mg_of X G aNa))
    have GPa := ok_parts (P := l.prog) (w := w) (base := base) FPa GX FNx bNx ((PySem.W.mg_of X G aNx))
    have GWi := ok_with (P := l.prog) (w := w) (base := base) FWi M TC CF GPa FPa bPa ((PySem.W.mg_of X G aPa))
    have GAs := ok_asc (P := l.prog) (w := w) (base := base) FAs M
    have GCs := ok_Cells FCs WF GWi GAs
    have GPf := ok_pf FPf M GCs kCs bCs ((PySem.W.mg_of X G aCs)) GWi kWi bWi ((PySem.W.mg_of X G aWi))
    have GFt := ok_fits FFt M FC GPf kPf bPf ((PySem.W.mg_of X G aPf)) GFP ⟨aFP, iFP, kFP⟩ bFP
    have GCc := ok_cc FCc M BT CC NKC EU EO GU bUI GO bOI
    have GCn := ok_cfn FCn M BT CC KFu ((PySem.W.mg_of X G a_F)) FC EN EO GN bNI GO bOI GFt kFt bFt ((PySem.W.mg_of X G aFt))
    have GKI := ok_book FKI M BC FC GCc kCc bCc ((PySem.W.mg_of X G aCc)) GCn kCn bCn ((PySem.W.mg_of X G aCn))
    have GYI := ok_Unknown (P := l.prog) (w := w) (base := base) FYI (PySem.W.mg_none_of X G z_KeyError) fiY oY nlY
    have FM : FunM l.prog w K mg base cF cL cB cP cT fFI _ := ⟨⟨mkF, aFI, iFI, kcF⟩, GF, (PySem.W.mg_of X G a_F), b3⟩
    have BMk : BookMk l.prog w K mg base cK cC cF cU cN cO fKI _ := ⟨⟨mkK, aKI, iKI, kcK⟩, GKI, (PySem.W.mg_of X G a_K), bKI⟩
    have CMk : CellMk l.prog w K mg base cC cP fCI _ := ⟨⟨mkC, aCI, iCI, kcC⟩, GCe, (PySem.W.mg_of X G a_C), bCI⟩
    have GKG := ok_bget (P := l.prog) (w := w) (base := base) (CL := cL) FKG M BK EY GYI bYI
    have GKH := ok_bhas (P := l.prog) (w := w) (base := base) (CL := cL) FKH M BK
    have OG : Op1 l.prog w K mg base (L2.CX l.prog w) 3 cK "__getitem__" fKG _ _ _ := ⟨aKG, iKG, fiKG, GKG, bKG⟩
    have OH : Op1 l.prog w K mg base CX0 1 cK "__contains__" fKH _ _ _ := ⟨aKH, iKH, fiKH, GKH, bKH⟩
    have GVa := ok_value (P := l.prog) (w := w) (base := base) FVa M TC FWh bWh ((PySem.W.mg_of X G aWh))
    have GIc := ok_isCol (P := l.prog) (w := w) (base := base) FIc M TS
    have GCa := ok_isCall (P := l.prog) (w := w) (base := base) FCa M TC TS CF FIc bIc ((PySem.W.mg_of X G aIc))
    have GIt := ok_isTr (P := l.prog) (w := w) (base := base) FIt M TT GCa kCa bCa ((PySem.W.mg_of X G aCa)) GVa kVa bVa ((PySem.W.mg_of X G aVa)) bIt ((PySem.W.mg_of X G aIt)) 8
    have GTr := ok_tree (P := l.prog) (w := w) (base := base) FTr TT GIt kIt bIt ((PySem.W.mg_of X G aIt))
    have GBr := ok_br (P := l.prog) (w := w) (base := base) FBr M
    have GCi := ok_cIn (P := l.prog) (w := w) (base := base) FCi M TK GBr kBr bBr ((PySem.W.mg_of X G aBr))
    have GCk := ok_chkO (P := l.prog) (w := w) (base := base) FCk M (PySem.W.mg_none_of X G z_enumerate) GCa kCa bCa ((PySem.W.mg_of X G aCa)) EZ GZ bZI
    have GHI := ok_stI (R := ⟨cI, cZ, cO⟩) (P := l.prog) (w := w) (base := base) DS M SC TK GTr kTr bTr ((PySem.W.mg_of X G aTr)) GCk kCk bCk ((PySem.W.mg_of X G aCk)) GCi kCi bCi ((PySem.W.mg_of X G aCi)) EI GI bII EO GO bOI
    have SM : StMk l.prog w K mg base cH fHI _ (⟨cI, cZ, cO⟩ : SEr) := ⟨⟨mkH, aHI, iHI, kcH⟩, GHI, (PySem.W.mg_of X G a_H), bHI⟩
    have GHF := ok_fit (P := l.prog) (w := w) (base := base) FHF M SC (PySem.W.mg_none_of X G z_enumerate) BK OH OG EA GA bAI
    have GHW := ok_stW (P := l.prog) (w := w) (base := base) FHW SC SM
    have GDr := ok_draw (P := l.prog) (w := w) (K := K) (base := base) FDr M
    have GPk := ok_pick (P := l.prog) (w := w) (base := base) FPk M FDr bDr ((PySem.W.mg_of X G aDr))
    have GLb := ok_lb (P := l.prog) (w := w) (base := base) FLb M FDr bDr ((PySem.W.mg_of X G aDr)) FPk bPk ((PySem.W.mg_of X G aPk)) FNm bNm ((PySem.W.mg_of X G aNm)) FLt bLt ((PySem.W.mg_of X G aLt)) FLw bLw ((PySem.W.mg_of X G aLw))
    have GMb := ok_made FMb FM BMk CMk
    have GLc := ok_lci (P := l.prog) (w := w) (base := base) FLc bLc ((PySem.W.mg_of X G aLc)) 8
    have GLo := ok_la (P := l.prog) (w := w) (base := base) FLo M GLc kLc bLc ((PySem.W.mg_of X G aLc))
    have GLd := ok_dc (P := l.prog) (w := w) (base := base) FLd M GPk kPk bPk ((PySem.W.mg_of X G aPk))
    have GLe := ok_lt (P := l.prog) (w := w) (base := base) FLe M bLe ((PySem.W.mg_of X G aLe)) GDr kDr bDr ((PySem.W.mg_of X G aDr)) GPk kPk bPk ((PySem.W.mg_of X G aPk)) GLd kLd bLd ((PySem.W.mg_of X G aLd)) 3
    have GLs := ok_ls (P := l.prog) (w := w) (base := base) FLs M GLe kLe bLe ((PySem.W.mg_of X G aLe)) GDr kDr bDr ((PySem.W.mg_of X G aDr)) GLd kLd bLd ((PySem.W.mg_of X G aLd))
    have GLm := ok_lms (P := l.prog) (w := w) (base := base) FLm SM
    have GLr := ok_ref (P := l.prog) (w := w) (base := base) FLr M SM EX
    have GLf := ok_lfits (P := l.prog) (w := w) (base := base) FLf SC ⟨aHF, iHF, kHF⟩ GHF bHF EX
    have GLx := ok_more (P := l.prog) (w := w) (base := base) FLx SC ⟨aHW, iHW, kHW⟩ GHW bHW EX
    exact ok_law FLa M FPl bPl ((PySem.W.mg_of X G aPl)) ⟨GLb, kLb, bLb, (PySem.W.mg_of X G aLb)⟩ ⟨GLs, kLs, bLs, (PySem.W.mg_of X G aLs)⟩ SM ⟨GLo, kLo, bLo, (PySem.W.mg_of X G aLo)⟩ ⟨GLm, kLm, bLm, (PySem.W.mg_of X G aLm)⟩ ⟨GMb, kMb, bMb, (PySem.W.mg_of X G aMb)⟩ ⟨GLd, kLd, bLd, (PySem.W.mg_of X G aLd)⟩ GLr kLr bLr ((PySem.W.mg_of X G aLr)) ⟨GLf, kLf, bLf, (PySem.W.mg_of X G aLf)⟩ ⟨GLx, kLx, bLx, (PySem.W.mg_of X G aLx)⟩⟩
namespace Hd
open He
def cL (K : PySem.W.Frag) : Addr := ga K "Label"
def cB (K : PySem.W.Frag) : Addr := ga K "BadLabel"
def cP (K : PySem.W.Frag) : Addr := ga K "BadPart"
def cT (K : PySem.W.Frag) : Addr := ga K "BadTerm"
def cU (K : PySem.W.Frag) : Addr := ga K "BadCell"
def cN (K : PySem.W.Frag) : Addr := ga K "BadFunction"
def cO (K : PySem.W.Frag) : Addr := ga K "TooMany"
def cY (K : PySem.W.Frag) : Addr := ga K "UnknownName"
def cS (K : PySem.W.Frag) : Addr := ga K "StoreError"
def cF (K : PySem.W.Frag) : Addr := ga K "Function"
def cC (K : PySem.W.Frag) : Addr := ga K "Cell"
def cK (K : PySem.W.Frag) : Addr := ga K "Book"
def cH (K : PySem.W.Frag) : Addr := ga K "Statement"
def cI (K : PySem.W.Frag) : Addr := ga K "BadTree"
def cZ (K : PySem.W.Frag) : Addr := ga K "BadOutput"
def cA (K : PySem.W.Frag) : Addr := ga K "BadCall"
def fBI (K : PySem.W.Frag) : Addr := fAd K ("BadLabel", some "__init__")
def fPI (K : PySem.W.Frag) : Addr := fAd K ("BadPart", some "__init__")
def fTI (K : PySem.W.Frag) : Addr := fAd K ("BadTerm", some "__init__")
def fUI (K : PySem.W.Frag) : Addr := fAd K ("BadCell", some "__init__")
def fNI (K : PySem.W.Frag) : Addr := fAd K ("BadFunction", some "__init__")
def fII (K : PySem.W.Frag) : Addr := fAd K ("BadTree", some "__init__")
def fZI (K : PySem.W.Frag) : Addr := fAd K ("BadOutput", some "__init__")
def fAI (K : PySem.W.Frag) : Addr := fAd K ("BadCall", some "__init__")
def fOI (K : PySem.W.Frag) : Addr := fAd K ("TooMany", some "__init__")
def fYI (K : PySem.W.Frag) : Addr := fAd K ("UnknownName", some "__init__")
def fLI (K : PySem.W.Frag) : Addr := fAd K ("Label", some "__init__")
def fFI (K : PySem.W.Frag) : Addr := fAd K ("Function", some "__init__")
def fFP (K : PySem.W.Frag) : Addr := fAd K ("Function", some "parts")
def fCI (K : PySem.W.Frag) : Addr := fAd K ("Cell", some "__init__")
def fKI (K : PySem.W.Frag) : Addr := fAd K ("Book", some "__init__")
def fKG (K : PySem.W.Frag) : Addr := fAd K ("Book", some "__getitem__")
def fKH (K : PySem.W.Frag) : Addr := fAd K ("Book", some "__contains__")
def fHI (K : PySem.W.Frag) : Addr := fAd K ("Statement", some "__init__")
def fHF (K : PySem.W.Frag) : Addr := fAd K ("Statement", some "fit")
def fHW (K : PySem.W.Frag) : Addr := fAd K ("Statement", some "with_output")
def fWh (K : PySem.W.Frag) : Addr := fAd K ("is_whole", none)
def fVa (K : PySem.W.Frag) : Addr := fAd K ("is_value", none)
def fNa (K : PySem.W.Frag) : Addr := fAd K ("is_name", none)
def fTl (K : PySem.W.Frag) : Addr := fAd K ("to_label", none)
def fTe (K : PySem.W.Frag) : Addr := fAd K ("is_term", none)
def fHa (K : PySem.W.Frag) : Addr := fAd K ("_has_form", none)
def fCf (K : PySem.W.Frag) : Addr := fAd K ("_has_call_form", none)
def fIn (K : PySem.W.Frag) : Addr := fAd K ("inner_terms", none)
def fNx (K : PySem.W.Frag) : Addr := fAd K ("_next_level", none)
def fAw (K : PySem.W.Frag) : Addr := fAd K ("_are_writes", none)
def fPa (K : PySem.W.Frag) : Addr := fAd K ("all_parts", none)
def fWi (K : PySem.W.Frag) : Addr := fAd K ("parts_with", none)
def fAs (K : PySem.W.Frag) : Addr := fAd K ("_ascending", none)
def fCs (K : PySem.W.Frag) : Addr := fAd K ("cells_in", none)
def fPf (K : PySem.W.Frag) : Addr := fAd K ("_part_fits", none)
def fFt (K : PySem.W.Frag) : Addr := fAd K ("_fits", none)
def fCc (K : PySem.W.Frag) : Addr := fAd K ("_check_cells", none)
def fCn (K : PySem.W.Frag) : Addr := fAd K ("_check_functions", none)
def fIc (K : PySem.W.Frag) : Addr := fAd K ("_is_column", none)
def fCa (K : PySem.W.Frag) : Addr := fAd K ("is_call", none)
def fIt (K : PySem.W.Frag) : Addr := fAd K ("_is_tree", none)
def fTr (K : PySem.W.Frag) : Addr := fAd K ("is_tree", none)
def fBr (K : PySem.W.Frag) : Addr := fAd K ("_branches", none)
def fCi (K : PySem.W.Frag) : Addr := fAd K ("_calls_in", none)
def fCk (K : PySem.W.Frag) : Addr := fAd K ("_check_outputs", none)
def fPl (K : PySem.W.Frag) : Addr := fAd K ("_law_pool", none)
def fDr (K : PySem.W.Frag) : Addr := fAd K ("_law_draw", none)
def fPk (K : PySem.W.Frag) : Addr := fAd K ("_law_pick", none)
def fNm (K : PySem.W.Frag) : Addr := fAd K ("_law_names", none)
def fLt (K : PySem.W.Frag) : Addr := fAd K ("_law_term", none)
def fLw (K : PySem.W.Frag) : Addr := fAd K ("_law_writes", none)
def fLb (K : PySem.W.Frag) : Addr := fAd K ("_law_book", none)
def fMb (K : PySem.W.Frag) : Addr := fAd K ("_law_made_book", none)
def fLc (K : PySem.W.Frag) : Addr := fAd K ("_law_calls_in", none)
def fLo (K : PySem.W.Frag) : Addr := fAd K ("_law_all_calls", none)
def fLd (K : PySem.W.Frag) : Addr := fAd K ("_law_draw_call", none)
def fLe (K : PySem.W.Frag) : Addr := fAd K ("_law_tree", none)
def fLs (K : PySem.W.Frag) : Addr := fAd K ("_law_statement", none)
def fLm (K : PySem.W.Frag) : Addr := fAd K ("_law_made_statement", none)
def fLr (K : PySem.W.Frag) : Addr := fAd K ("_law_refused", none)
def fLf (K : PySem.W.Frag) : Addr := fAd K ("_law_fits", none)
def fLx (K : PySem.W.Frag) : Addr := fAd K ("_law_more", none)
def fLa (K : PySem.W.Frag) : Addr := fAd K ("law", none)
def aR (K : PySem.W.Frag) : Addr := ga K "LABELS"
def aV (K : PySem.W.Frag) : Addr := ga K "VALUES"
def aJ (K : PySem.W.Frag) : Addr := ga K "KINDS"
def aM (K : PySem.W.Frag) : Addr := ga K "COLUMNS"
def aQ (K : PySem.W.Frag) : Addr := ga K "LENGTHS"
def aD (K : PySem.W.Frag) : Addr := dflAt ("Statement", some "__init__") 0 K
def fn : List DefD := [⟨("BadLabel", some "__init__"), "__init__", "BadLabel.__init__", defArgs sBL, defBody sBL, defScope sBL, [], []⟩,
  ⟨("BadPart", some "__init__"), "__init__", "BadPart.__init__", defArgs sBadPart, defBody sBadPart, defScope sBadPart, [], []⟩,
  ⟨("BadTerm", some "__init__"), "__init__", "BadTerm.__init__", defArgs sBadTerm, defBody sBadTerm, defScope sBadTerm, [], []⟩,
  ⟨("BadCell", some "__init__"), "__init__", "BadCell.__init__", defArgs sBadCell, defBody sBadCell, defScope sBadCell, [], []⟩,
  ⟨("BadFunction", some "__init__"), "__init__", "BadFunction.__init__", defArgs sBadFunction, defBody sBadFunction, defScope sBadFunction, [], []⟩,
  ⟨("BadTree", some "__init__"), "__init__", "BadTree.__init__", defArgs sBadTree, defBody sBadTree, defScope sBadTree, [], []⟩,
  ⟨("BadOutput", some "__init__"), "__init__", "BadOutput.__init__", defArgs sBadOutput, defBody sBadOutput, defScope sBadOutput, [], []⟩,
  ⟨("BadCall", some "__init__"), "__init__", "BadCall.__init__", defArgs sBadCall, defBody sBadCall, defScope sBadCall, [], []⟩,
  ⟨("TooMany", some "__init__"), "__init__", "TooMany.__init__", defArgs sTooMany, defBody sTooMany, defScope sTooMany, [], []⟩,
  ⟨("UnknownName", some "__init__"), "__init__", "UnknownName.__init__", defArgs sUnkErr, defBody sUnkErr, defScope sUnkErr, [], []⟩,
  ⟨("Label", some "__init__"), "__init__", "Label.__init__", defArgs sLab, defBody sLab, defScope sLab, [], []⟩,
  ⟨("Function", some "__init__"), "__init__", "Function.__init__", defArgs sFun, defBody sFun, defScope sFun, [], []⟩,
  ⟨("Function", some "parts"), "parts", "Function.parts", defArgs sFParts, defBody sFParts, defScope sFParts, [], []⟩,
  ⟨("Cell", some "__init__"), "__init__", "Cell.__init__", defArgs sCell, defBody sCell, defScope sCell, [], []⟩,
  ⟨("Book", some "__init__"), "__init__", "Book.__init__", defArgs sBook, defBody sBook, defScope sBook, [], []⟩,
  ⟨("Book", some "__getitem__"), "__getitem__", "Book.__getitem__", defArgs sGet, defBody sGet, defScope sGet, [], []⟩,
  ⟨("Book", some "__contains__"), "__contains__", "Book.__contains__", defArgs sHasN, defBody sHasN, defScope sHasN, [], []⟩,
  ⟨("Statement", some "__init__"), "__init__", "Statement.__init__", defArgs sStI, defBody sStI, defScope sStI, [.adr (dflAt ("Statement", some "__init__") 0)], []⟩,
  ⟨("Statement", some "fit"), "fit", "Statement.fit", defArgs sFit, defBody sFit, defScope sFit, [], []⟩,
  ⟨("Statement", some "with_output"), "with_output", "Statement.with_output", defArgs sStW, defBody sStW, defScope sStW, [], []⟩,
  ⟨("is_whole", none), "is_whole", "is_whole", defArgs sWhole, defBody sWhole, defScope sWhole, [], []⟩,
  ⟨("is_value", none), "is_value", "is_value", defArgs sValue, defBody sValue, defScope sValue, [], []⟩,
  ⟨("is_name", none), "is_name", "is_name", defArgs sName, defBody sName, defScope sName, [], []⟩,
  ⟨("to_label", none), "to_label", "to_label", defArgs sToLab, defBody sToLab, defScope sToLab, [], []⟩,
  ⟨("is_term", none), "is_term", "is_term", defArgs sTerm, defBody sTerm, defScope sTerm, [], []⟩,
  ⟨("_has_form", none), "_has_form", "_has_form", defArgs sHas, defBody sHas, defScope sHas, [], []⟩,
  ⟨("_has_call_form", none), "_has_call_form", "_has_call_form", defArgs sCallForm, defBody sCallForm, defScope sCallForm, [], []⟩,
  ⟨("inner_terms", none), "inner_terms", "inner_terms", defArgs sInner, defBody sInner, defScope sInner, [], []⟩,
  ⟨("_next_level", none), "_next_level", "_next_level", defArgs sNext, defBody sNext, defScope sNext, [], []⟩,
  ⟨("_are_writes", none), "_are_writes", "_are_writes", defArgs sAreW, defBody sAreW, defScope sAreW, [], []⟩,
  ⟨("all_parts", none), "all_parts", "all_parts", defArgs sParts, defBody sParts, defScope sParts, [], []⟩,
  ⟨("parts_with", none), "parts_with", "parts_with", defArgs sWith, defBody sWith, defScope sWith, [], []⟩,
  ⟨("_ascending", none), "_ascending", "_ascending", defArgs sAsc, defBody sAsc, defScope sAsc, [], []⟩,
  ⟨("cells_in", none), "cells_in", "cells_in", defArgs sCells, defBody sCells, defScope sCells, [], []⟩,
  ⟨("_part_fits", none), "_part_fits", "_part_fits", defArgs sPF, defBody sPF, defScope sPF, [], []⟩,
  ⟨("_fits", none), "_fits", "_fits", defArgs sFits, defBody sFits, defScope sFits, [], []⟩,
  ⟨("_check_cells", none), "_check_cells", "_check_cells", defArgs sCC, defBody sCC, defScope sCC, [], []⟩,
  ⟨("_check_functions", none), "_check_functions", "_check_functions", defArgs sCFn, defBody sCFn, defScope sCFn, [], []⟩,
  ⟨("_is_column", none), "_is_column", "_is_column", defArgs sIsCol, defBody sIsCol, defScope sIsCol, [], []⟩,
  ⟨("is_call", none), "is_call", "is_call", defArgs sIsCall, defBody sIsCall, defScope sIsCall, [], []⟩,
  ⟨("_is_tree", none), "_is_tree", "_is_tree", defArgs sIsTr, defBody sIsTr, defScope sIsTr, [], []⟩,
  ⟨("is_tree", none), "is_tree", "is_tree", defArgs sTree, defBody sTree, defScope sTree, [], []⟩,
  ⟨("_branches", none), "_branches", "_branches", defArgs sBr, defBody sBr, defScope sBr, [], []⟩,
  ⟨("_calls_in", none), "_calls_in", "_calls_in", defArgs sCIn, defBody sCIn, defScope sCIn, [], []⟩,
  ⟨("_check_outputs", none), "_check_outputs", "_check_outputs", defArgs sChkO, defBody sChkO, defScope sChkO, [], []⟩,
  ⟨("_law_pool", none), "_law_pool", "_law_pool", defArgs sPool, defBody sPool, defScope sPool, [], []⟩,
  ⟨("_law_draw", none), "_law_draw", "_law_draw", defArgs sDraw, defBody sDraw, defScope sDraw, [], []⟩,
  ⟨("_law_pick", none), "_law_pick", "_law_pick", defArgs sPick, defBody sPick, defScope sPick, [], []⟩,
  ⟨("_law_names", none), "_law_names", "_law_names", defArgs sLNames, defBody sLNames, defScope sLNames, [], []⟩,
  ⟨("_law_term", none), "_law_term", "_law_term", defArgs sLTerm, defBody sLTerm, defScope sLTerm, [], []⟩,
  ⟨("_law_writes", none), "_law_writes", "_law_writes", defArgs sLW, defBody sLW, defScope sLW, [], []⟩,
  ⟨("_law_book", none), "_law_book", "_law_book", defArgs sLB, defBody sLB, defScope sLB, [], []⟩,
  ⟨("_law_made_book", none), "_law_made_book", "_law_made_book", defArgs sMade, defBody sMade, defScope sMade, [], []⟩,
  ⟨("_law_calls_in", none), "_law_calls_in", "_law_calls_in", defArgs sLCI, defBody sLCI, defScope sLCI, [], []⟩,
  ⟨("_law_all_calls", none), "_law_all_calls", "_law_all_calls", defArgs sLA, defBody sLA, defScope sLA, [], []⟩,
  ⟨("_law_draw_call", none), "_law_draw_call", "_law_draw_call", defArgs sDC, defBody sDC, defScope sDC, [], []⟩,
  ⟨("_law_tree", none), "_law_tree", "_law_tree", defArgs sLTr, defBody sLTr, defScope sLTr, [], []⟩,
  ⟨("_law_statement", none), "_law_statement", "_law_statement", defArgs sLS, defBody sLS, defScope sLS, [], []⟩,
  ⟨("_law_made_statement", none), "_law_made_statement", "_law_made_statement", defArgs sLMS, defBody sLMS, defScope sLMS, [], []⟩,
  ⟨("_law_refused", none), "_law_refused", "_law_refused", defArgs sRef, defBody sRef, defScope sRef, [], []⟩,
  ⟨("_law_fits", none), "_law_fits", "_law_fits", defArgs sLFits, defBody sLFits, defScope sLFits, [], []⟩,
  ⟨("_law_more", none), "_law_more", "_law_more", defArgs sMore, defBody sMore, defScope sMore, [], []⟩,
  ⟨("law", none), "law", "law", defArgs sLaw, defBody sLaw, defScope sLaw, [], []⟩]
def ts : List Tab := [(fun K => He.ga K "LENGTHS", ["tick", "plus", "less", "same", "if"])]
def chk0 (K : PySem.W.Frag) : List Bool := [decide (PySem.W.nsIn K mainGlobals "Label" = some (some (.ref (cL K)))),
  decide (PySem.W.nsIn K mainGlobals "BadLabel" = some (some (.ref (cB K)))),
  decide (PySem.W.nsIn K mainGlobals "BadPart" = some (some (.ref (cP K)))),
  decide (PySem.W.nsIn K mainGlobals "BadTerm" = some (some (.ref (cT K)))),
  decide (PySem.W.nsIn K mainGlobals "BadCell" = some (some (.ref (cU K)))),
  decide (PySem.W.nsIn K mainGlobals "BadFunction" = some (some (.ref (cN K)))),
  decide (PySem.W.nsIn K mainGlobals "TooMany" = some (some (.ref (cO K)))),
  decide (PySem.W.nsIn K mainGlobals "UnknownName" = some (some (.ref (cY K)))),
  decide (PySem.W.nsIn K mainGlobals "StoreError" = some (some (.ref (cS K)))),
  decide (PySem.W.nsIn K mainGlobals "Function" = some (some (.ref (cF K)))),
  decide (PySem.W.nsIn K mainGlobals "Cell" = some (some (.ref (cC K)))),
  decide (PySem.W.nsIn K mainGlobals "Book" = some (some (.ref (cK K)))),
  decide (PySem.W.nsIn K mainGlobals "Statement" = some (some (.ref (cH K)))),
  decide (PySem.W.nsIn K mainGlobals "BadTree" = some (some (.ref (cI K)))),
  decide (PySem.W.nsIn K mainGlobals "BadOutput" = some (some (.ref (cZ K)))),
  decide (PySem.W.nsIn K mainGlobals "BadCall" = some (some (.ref (cA K)))),
  decide (PySem.W.findIn K (.ref (cB K)) "__init__" = some (some (.ref (fBI K)))),
  PySem.W.isFn K (.ref (fBI K)),
  decide (PySem.W.findIn K (.ref (cP K)) "__init__" = some (some (.ref (fPI K)))),
  PySem.W.isFn K (.ref (fPI K)),
  decide (PySem.W.findIn K (.ref (cT K)) "__init__" = some (some (.ref (fTI K)))),
  PySem.W.isFn K (.ref (fTI K)),
  decide (PySem.W.findIn K (.ref (cU K)) "__init__" = some (some (.ref (fUI K)))),
  PySem.W.isFn K (.ref (fUI K)),
  decide (PySem.W.findIn K (.ref (cN K)) "__init__" = some (some (.ref (fNI K)))),
  PySem.W.isFn K (.ref (fNI K)),
  decide (PySem.W.findIn K (.ref (cI K)) "__init__" = some (some (.ref (fII K)))),
  PySem.W.isFn K (.ref (fII K))]
def chk1 (K : PySem.W.Frag) : List Bool := [decide (PySem.W.findIn K (.ref (cZ K)) "__init__" = some (some (.ref (fZI K)))),
  PySem.W.isFn K (.ref (fZI K)),
  decide (PySem.W.findIn K (.ref (cA K)) "__init__" = some (some (.ref (fAI K)))),
  PySem.W.isFn K (.ref (fAI K)),
  decide (PySem.W.findIn K (.ref (cO K)) "__init__" = some (some (.ref (fOI K)))),
  PySem.W.isFn K (.ref (fOI K)),
  decide (PySem.W.findIn K (.ref (cY K)) "__init__" = some (some (.ref (fYI K)))),
  PySem.W.isFn K (.ref (fYI K)),
  decide (PySem.W.findIn K (.ref (cL K)) "__init__" = some (some (.ref (fLI K)))),
  PySem.W.isFn K (.ref (fLI K)),
  decide (PySem.W.findIn K (.ref (cF K)) "__init__" = some (some (.ref (fFI K)))),
  PySem.W.isFn K (.ref (fFI K)),
  decide (PySem.W.findIn K (.ref (cF K)) "parts" = some (some (.ref (fFP K)))),
  PySem.W.isFn K (.ref (fFP K)),
  decide (PySem.W.findIn K (.ref (cC K)) "__init__" = some (some (.ref (fCI K)))),
  PySem.W.isFn K (.ref (fCI K)),
  decide (PySem.W.findIn K (.ref (cK K)) "__init__" = some (some (.ref (fKI K)))),
  PySem.W.isFn K (.ref (fKI K)),
  decide (PySem.W.findIn K (.ref (cK K)) "__getitem__" = some (some (.ref (fKG K)))),
  PySem.W.isFn K (.ref (fKG K)),
  decide (PySem.W.findIn K (.ref (cK K)) "__contains__" = some (some (.ref (fKH K)))),
  PySem.W.isFn K (.ref (fKH K)),
  decide (PySem.W.findIn K (.ref (cH K)) "__init__" = some (some (.ref (fHI K)))),
  PySem.W.isFn K (.ref (fHI K)),
  decide (PySem.W.findIn K (.ref (cH K)) "fit" = some (some (.ref (fHF K)))),
  PySem.W.isFn K (.ref (fHF K)),
  decide (PySem.W.findIn K (.ref (cH K)) "with_output" = some (some (.ref (fHW K)))),
  PySem.W.isFn K (.ref (fHW K))]
def chk2 (K : PySem.W.Frag) : List Bool := [decide (PySem.W.nsIn K mainGlobals "is_whole" = some (some (.ref (fWh K)))),
  decide (PySem.W.nsIn K mainGlobals "is_value" = some (some (.ref (fVa K)))),
  decide (PySem.W.nsIn K mainGlobals "is_name" = some (some (.ref (fNa K)))),
  decide (PySem.W.nsIn K mainGlobals "to_label" = some (some (.ref (fTl K)))),
  decide (PySem.W.nsIn K mainGlobals "is_term" = some (some (.ref (fTe K)))),
  decide (PySem.W.nsIn K mainGlobals "_has_form" = some (some (.ref (fHa K)))),
  decide (PySem.W.nsIn K mainGlobals "_has_call_form" = some (some (.ref (fCf K)))),
  decide (PySem.W.nsIn K mainGlobals "inner_terms" = some (some (.ref (fIn K)))),
  decide (PySem.W.nsIn K mainGlobals "_next_level" = some (some (.ref (fNx K)))),
  decide (PySem.W.nsIn K mainGlobals "_are_writes" = some (some (.ref (fAw K)))),
  decide (PySem.W.nsIn K mainGlobals "all_parts" = some (some (.ref (fPa K)))),
  decide (PySem.W.nsIn K mainGlobals "parts_with" = some (some (.ref (fWi K)))),
  decide (PySem.W.nsIn K mainGlobals "_ascending" = some (some (.ref (fAs K)))),
  decide (PySem.W.nsIn K mainGlobals "cells_in" = some (some (.ref (fCs K)))),
  decide (PySem.W.nsIn K mainGlobals "_part_fits" = some (some (.ref (fPf K)))),
  decide (PySem.W.nsIn K mainGlobals "_fits" = some (some (.ref (fFt K)))),
  decide (PySem.W.nsIn K mainGlobals "_check_cells" = some (some (.ref (fCc K)))),
  decide (PySem.W.nsIn K mainGlobals "_check_functions" = some (some (.ref (fCn K)))),
  decide (PySem.W.nsIn K mainGlobals "_is_column" = some (some (.ref (fIc K)))),
  decide (PySem.W.nsIn K mainGlobals "is_call" = some (some (.ref (fCa K)))),
  decide (PySem.W.nsIn K mainGlobals "_is_tree" = some (some (.ref (fIt K)))),
  decide (PySem.W.nsIn K mainGlobals "is_tree" = some (some (.ref (fTr K)))),
  decide (PySem.W.nsIn K mainGlobals "_branches" = some (some (.ref (fBr K)))),
  decide (PySem.W.nsIn K mainGlobals "_calls_in" = some (some (.ref (fCi K)))),
  decide (PySem.W.nsIn K mainGlobals "_check_outputs" = some (some (.ref (fCk K)))),
  decide (PySem.W.nsIn K mainGlobals "_law_pool" = some (some (.ref (fPl K)))),
  decide (PySem.W.nsIn K mainGlobals "_law_draw" = some (some (.ref (fDr K)))),
  decide (PySem.W.nsIn K mainGlobals "_law_pick" = some (some (.ref (fPk K))))]
def chk3 (K : PySem.W.Frag) : List Bool := [decide (PySem.W.nsIn K mainGlobals "_law_names" = some (some (.ref (fNm K)))),
  decide (PySem.W.nsIn K mainGlobals "_law_term" = some (some (.ref (fLt K)))),
  decide (PySem.W.nsIn K mainGlobals "_law_writes" = some (some (.ref (fLw K)))),
  decide (PySem.W.nsIn K mainGlobals "_law_book" = some (some (.ref (fLb K)))),
  decide (PySem.W.nsIn K mainGlobals "_law_made_book" = some (some (.ref (fMb K)))),
  decide (PySem.W.nsIn K mainGlobals "_law_calls_in" = some (some (.ref (fLc K)))),
  decide (PySem.W.nsIn K mainGlobals "_law_all_calls" = some (some (.ref (fLo K)))),
  decide (PySem.W.nsIn K mainGlobals "_law_draw_call" = some (some (.ref (fLd K)))),
  decide (PySem.W.nsIn K mainGlobals "_law_tree" = some (some (.ref (fLe K)))),
  decide (PySem.W.nsIn K mainGlobals "_law_statement" = some (some (.ref (fLs K)))),
  decide (PySem.W.nsIn K mainGlobals "_law_made_statement" = some (some (.ref (fLm K)))),
  decide (PySem.W.nsIn K mainGlobals "_law_refused" = some (some (.ref (fLr K)))),
  decide (PySem.W.nsIn K mainGlobals "_law_fits" = some (some (.ref (fLf K)))),
  decide (PySem.W.nsIn K mainGlobals "_law_more" = some (some (.ref (fLx K)))),
  decide (PySem.W.nsIn K mainGlobals "law" = some (some (.ref (fLa K)))),
  decide (PySem.W.nsIn K mainGlobals "abs" = some none),
  decide (PySem.W.nsIn K mainGlobals "int" = some none),
  decide (PySem.W.nsIn K mainGlobals "len" = some none),
  decide (PySem.W.nsIn K mainGlobals "sum" = some none),
  decide (PySem.W.nsIn K mainGlobals "max" = some none),
  decide (PySem.W.nsIn K mainGlobals "min" = some none),
  decide (PySem.W.nsIn K mainGlobals "range" = some none),
  decide (PySem.W.nsIn K mainGlobals "isinstance" = some none),
  decide (PySem.W.nsIn K mainGlobals "bool" = some none),
  decide (PySem.W.nsIn K mainGlobals "str" = some none),
  decide (PySem.W.nsIn K mainGlobals "tuple" = some none),
  decide (PySem.W.nsIn K mainGlobals "list" = some none),
  decide (PySem.W.nsIn K mainGlobals "dict" = some none)]
def chk4 (K : PySem.W.Frag) : List Bool := [decide (PySem.W.nsIn K mainGlobals "all" = some none),
  decide (PySem.W.nsIn K mainGlobals "sorted" = some none),
  decide (PySem.W.nsIn K mainGlobals "repr" = some none),
  decide (PySem.W.nsIn K mainGlobals "zip" = some none),
  decide (PySem.W.nsIn K mainGlobals "OverflowError" = some none),
  decide (PySem.W.nsIn K mainGlobals "enumerate" = some none),
  decide (PySem.W.nsIn K mainGlobals "KeyError" = some none),
  intB K "LONGEST_NAME" 8,
  intB K "MOST_ARGUMENTS" 2,
  intB K "MOST_DEEP" 8,
  intB K "MOST_PARTS" 30,
  intB K "MOST_WRITES" 3,
  intB K "GREATEST_COST" 99,
  intB K "MOST_CELLS" 6,
  intB K "MOST_FUNCTIONS" 8,
  intB K "MOST_CALLS" 8,
  intB K "MOST_BRANCHES" 8,
  intB K "DEEPEST_TREE" 8,
  PySem.W.plainGet K (cL K) Str.empty,
  PySem.W.hasDictIn K (cL K),
  PySem.W.plainOver K (cL K),
  decide (PySem.W.findIn K (.ref (cL K)) "__setattr__" = some (some (.builtin "object.__setattr__"))),
  PySem.W.makesIn K (cL K),
  PySem.W.keepIn K (.ref (cL K)),
  PySem.W.plainGet K (cF K) Str.empty,
  PySem.W.hasDictIn K (cF K),
  PySem.W.plainOver K (cF K),
  decide (PySem.W.findIn K (.ref (cF K)) "__setattr__" = some (some (.builtin "object.__setattr__")))]
def chk5 (K : PySem.W.Frag) : List Bool := [PySem.W.makesIn K (cF K),
  PySem.W.keepIn K (.ref (cF K)),
  PySem.W.plainGet K (cC K) Str.empty,
  PySem.W.hasDictIn K (cC K),
  PySem.W.plainOver K (cC K),
  decide (PySem.W.findIn K (.ref (cC K)) "__setattr__" = some (some (.builtin "object.__setattr__"))),
  PySem.W.makesIn K (cC K),
  PySem.W.keepIn K (.ref (cC K)),
  PySem.W.plainGet K (cK K) Str.empty,
  PySem.W.hasDictIn K (cK K),
  PySem.W.plainOver K (cK K),
  decide (PySem.W.findIn K (.ref (cK K)) "__setattr__" = some (some (.builtin "object.__setattr__"))),
  PySem.W.makesIn K (cK K),
  PySem.W.keepIn K (.ref (cK K)),
  PySem.W.plainGet K (cH K) Str.empty,
  PySem.W.hasDictIn K (cH K),
  PySem.W.plainOver K (cH K),
  decide (PySem.W.findIn K (.ref (cH K)) "__setattr__" = some (some (.builtin "object.__setattr__"))),
  PySem.W.makesIn K (cH K),
  PySem.W.keepIn K (.ref (cH K)),
  decide (PySem.W.specialIn K (.builtin "object.__class__") "__get__" = some (some (.builtin "getset_descriptor.__get__"))),
  decide (PySem.W.takesIn K (.builtin "object.__class__") = some true),
  decide (PySem.W.kitOne K (.ref (cL K)) (.ref (cL K)) = some true),
  decide (PySem.W.findIn K (.ref (cL K)) "__class__" = some (some (.builtin "object.__class__"))),
  decide (PySem.W.mroIn K (cL K) (.type "object") = some true),
  decide (PySem.W.kitOne K (.type "NoneType") (.ref (cL K)) = some false),
  decide (PySem.W.kitOne K (.type "bool") (.ref (cL K)) = some false),
  decide (PySem.W.kitOne K (.type "int") (.ref (cL K)) = some false)]
def chk6 (K : PySem.W.Frag) : List Bool := [decide (PySem.W.kitOne K (.type "str") (.ref (cL K)) = some false),
  decide (PySem.W.kitOne K (.type "list") (.ref (cL K)) = some false),
  decide (PySem.W.kitOne K (.type "tuple") (.ref (cL K)) = some false),
  decide (PySem.W.kitOne K (.type "dict") (.ref (cL K)) = some false),
  decide (PySem.W.kitOne K (.ref (cF K)) (.ref (cF K)) = some true),
  decide (PySem.W.findIn K (.ref (cF K)) "__class__" = some (some (.builtin "object.__class__"))),
  decide (PySem.W.mroIn K (cF K) (.type "object") = some true),
  decide (PySem.W.kitOne K (.type "NoneType") (.ref (cF K)) = some false),
  decide (PySem.W.kitOne K (.type "bool") (.ref (cF K)) = some false),
  decide (PySem.W.kitOne K (.type "int") (.ref (cF K)) = some false),
  decide (PySem.W.kitOne K (.type "str") (.ref (cF K)) = some false),
  decide (PySem.W.kitOne K (.type "list") (.ref (cF K)) = some false),
  decide (PySem.W.kitOne K (.type "tuple") (.ref (cF K)) = some false),
  decide (PySem.W.kitOne K (.type "dict") (.ref (cF K)) = some false),
  decide (PySem.W.kitOne K (.ref (cC K)) (.ref (cC K)) = some true),
  decide (PySem.W.findIn K (.ref (cC K)) "__class__" = some (some (.builtin "object.__class__"))),
  decide (PySem.W.mroIn K (cC K) (.type "object") = some true),
  decide (PySem.W.kitOne K (.type "NoneType") (.ref (cC K)) = some false),
  decide (PySem.W.kitOne K (.type "bool") (.ref (cC K)) = some false),
  decide (PySem.W.kitOne K (.type "int") (.ref (cC K)) = some false),
  decide (PySem.W.kitOne K (.type "str") (.ref (cC K)) = some false),
  decide (PySem.W.kitOne K (.type "list") (.ref (cC K)) = some false),
  decide (PySem.W.kitOne K (.type "tuple") (.ref (cC K)) = some false),
  decide (PySem.W.kitOne K (.type "dict") (.ref (cC K)) = some false),
  decide (PySem.W.findIn K (.ref (cL K)) "__ne__" = some (some (.builtin "object.__ne__"))),
  decide (PySem.W.subIn K (.ref (cL K)) (.type "object") = some true),
  PySem.W.notFirst K (cL K) (.type "str"),
  decide (PySem.W.findIn K (.ref (cC K)) "__ne__" = some (some (.builtin "object.__ne__")))]
def chk7 (K : PySem.W.Frag) : List Bool := [decide (PySem.W.subIn K (.ref (cC K)) (.type "object") = some true),
  PySem.W.notFirst K (cC K) (.type "str"),
  PySem.W.fnIn K (fKG K),
  PySem.W.fnIn K (fKH K),
  decide (PySem.W.findIn K (.ref (cH K)) "condition" = some none),
  decide (PySem.W.findIn K (.ref (cH K)) "outputs" = some none),
  decide (PySem.W.findIn K (.ref (cH K)) "_atoms" = some none),
  decide (PySem.W.findIn K (.ref (cH K)) "_calls" = some none),
  decide (PySem.W.findIn K (.ref (cL K)) "_height" = some none),
  decide (PySem.W.findIn K (.ref (cL K)) "name" = some none),
  decide (PySem.W.findIn K (.ref (cC K)) "name" = some none),
  decide (PySem.W.findIn K (.ref (cC K)) "kind" = some none),
  decide (PySem.W.findIn K (.ref (cF K)) "name" = some none),
  decide (PySem.W.findIn K (.ref (cF K)) "arguments" = some none),
  decide (PySem.W.findIn K (.ref (cF K)) "result" = some none),
  decide (PySem.W.findIn K (.ref (cF K)) "label" = some none),
  decide (PySem.W.findIn K (.ref (cF K)) "writes" = some none),
  decide (PySem.W.findIn K (.ref (cF K)) "cost" = some none),
  decide (PySem.W.findIn K (.ref (cK K)) "_cells" = some none),
  decide (PySem.W.findIn K (.ref (cK K)) "_functions" = some none),
  decide (PySem.W.findIn K (.ref (cK K)) "_by_name" = some none),
  excB K (cB K) [.ref (cS K), .type "ValueError", .type "Exception", .type "BaseException", .type "object"] "ValueError.__new__",
  decide (PySem.W.findIn K (.ref (cB K)) "__setattr__" = some (some (.builtin "object.__setattr__"))),
  decide (PySem.W.subIn K (.ref (cB K)) (.type "BaseException") = some true),
  decide (PySem.W.typeIn K (.ref (cB K)) = some (.type "type")),
  PySem.W.keepIn K (.ref (cB K)),
  decide (PySem.W.findIn K (.ref (cB K)) "label" = some none),
  decide (PySem.W.typeIn K (.ref (fBI K)) = some (.type "function"))]
def chk8 (K : PySem.W.Frag) : List Bool := [excB K (cP K) [.ref (cS K), .type "ValueError", .type "Exception", .type "BaseException", .type "object"] "ValueError.__new__",
  decide (PySem.W.findIn K (.ref (cP K)) "__setattr__" = some (some (.builtin "object.__setattr__"))),
  decide (PySem.W.subIn K (.ref (cP K)) (.type "BaseException") = some true),
  decide (PySem.W.typeIn K (.ref (cP K)) = some (.type "type")),
  PySem.W.keepIn K (.ref (cP K)),
  decide (PySem.W.findIn K (.ref (cP K)) "part" = some none),
  decide (PySem.W.typeIn K (.ref (fPI K)) = some (.type "function")),
  excB K (cT K) [.ref (cS K), .type "ValueError", .type "Exception", .type "BaseException", .type "object"] "ValueError.__new__",
  decide (PySem.W.findIn K (.ref (cT K)) "__setattr__" = some (some (.builtin "object.__setattr__"))),
  decide (PySem.W.subIn K (.ref (cT K)) (.type "BaseException") = some true),
  decide (PySem.W.typeIn K (.ref (cT K)) = some (.type "type")),
  PySem.W.keepIn K (.ref (cT K)),
  decide (PySem.W.findIn K (.ref (cT K)) "term" = some none),
  decide (PySem.W.typeIn K (.ref (fTI K)) = some (.type "function")),
  excB K (cU K) [.ref (cS K), .type "ValueError", .type "Exception", .type "BaseException", .type "object"] "ValueError.__new__",
  decide (PySem.W.findIn K (.ref (cU K)) "__setattr__" = some (some (.builtin "object.__setattr__"))),
  decide (PySem.W.subIn K (.ref (cU K)) (.type "BaseException") = some true),
  decide (PySem.W.typeIn K (.ref (cU K)) = some (.type "type")),
  PySem.W.keepIn K (.ref (cU K)),
  decide (PySem.W.findIn K (.ref (cU K)) "index" = some none),
  decide (PySem.W.typeIn K (.ref (fUI K)) = some (.type "function")),
  excB K (cN K) [.ref (cS K), .type "ValueError", .type "Exception", .type "BaseException", .type "object"] "ValueError.__new__",
  decide (PySem.W.findIn K (.ref (cN K)) "__setattr__" = some (some (.builtin "object.__setattr__"))),
  decide (PySem.W.subIn K (.ref (cN K)) (.type "BaseException") = some true),
  decide (PySem.W.typeIn K (.ref (cN K)) = some (.type "type")),
  PySem.W.keepIn K (.ref (cN K)),
  decide (PySem.W.findIn K (.ref (cN K)) "index" = some none),
  decide (PySem.W.typeIn K (.ref (fNI K)) = some (.type "function"))]
def chk9 (K : PySem.W.Frag) : List Bool := [excB K (cI K) [.ref (cS K), .type "ValueError", .type "Exception", .type "BaseException", .type "object"] "ValueError.__new__",
  decide (PySem.W.findIn K (.ref (cI K)) "__setattr__" = some (some (.builtin "object.__setattr__"))),
  decide (PySem.W.subIn K (.ref (cI K)) (.type "BaseException") = some true),
  decide (PySem.W.typeIn K (.ref (cI K)) = some (.type "type")),
  PySem.W.keepIn K (.ref (cI K)),
  decide (PySem.W.findIn K (.ref (cI K)) "tree" = some none),
  decide (PySem.W.typeIn K (.ref (fII K)) = some (.type "function")),
  excB K (cZ K) [.ref (cS K), .type "ValueError", .type "Exception", .type "BaseException", .type "object"] "ValueError.__new__",
  decide (PySem.W.findIn K (.ref (cZ K)) "__setattr__" = some (some (.builtin "object.__setattr__"))),
  decide (PySem.W.subIn K (.ref (cZ K)) (.type "BaseException") = some true),
  decide (PySem.W.typeIn K (.ref (cZ K)) = some (.type "type")),
  PySem.W.keepIn K (.ref (cZ K)),
  decide (PySem.W.findIn K (.ref (cZ K)) "index" = some none),
  decide (PySem.W.typeIn K (.ref (fZI K)) = some (.type "function")),
  excB K (cA K) [.ref (cS K), .type "ValueError", .type "Exception", .type "BaseException", .type "object"] "ValueError.__new__",
  decide (PySem.W.findIn K (.ref (cA K)) "__setattr__" = some (some (.builtin "object.__setattr__"))),
  decide (PySem.W.subIn K (.ref (cA K)) (.type "BaseException") = some true),
  decide (PySem.W.typeIn K (.ref (cA K)) = some (.type "type")),
  PySem.W.keepIn K (.ref (cA K)),
  decide (PySem.W.findIn K (.ref (cA K)) "index" = some none),
  decide (PySem.W.typeIn K (.ref (fAI K)) = some (.type "function")),
  excB K (cO K) [.type "OverflowError", .type "ArithmeticError", .type "Exception", .type "BaseException", .type "object"] "OverflowError.__new__",
  decide (PySem.W.findIn K (.ref (cO K)) "__setattr__" = some (some (.builtin "object.__setattr__"))),
  decide (PySem.W.subIn K (.ref (cO K)) (.type "BaseException") = some true),
  decide (PySem.W.typeIn K (.ref (cO K)) = some (.type "type")),
  PySem.W.keepIn K (.ref (cO K)),
  decide (PySem.W.findIn K (.ref (cO K)) "limit" = some none),
  decide (PySem.W.typeIn K (.ref (fOI K)) = some (.type "function"))]
def chk10 (K : PySem.W.Frag) : List Bool := [excB K (cY K) [.type "KeyError", .type "LookupError", .type "Exception", .type "BaseException", .type "object"] "LookupError.__new__",
  decide (PySem.W.findIn K (.ref (cY K)) "__setattr__" = some (some (.builtin "object.__setattr__"))),
  decide (PySem.W.subIn K (.ref (cY K)) (.type "BaseException") = some true),
  decide (PySem.W.typeIn K (.ref (cY K)) = some (.type "type")),
  PySem.W.keepIn K (.ref (cY K)),
  decide (PySem.W.findIn K (.ref (cY K)) "name" = some none),
  decide (PySem.W.typeIn K (.ref (fYI K)) = some (.type "function")),
  decide (PySem.W.findIn K (.ref (cI K)) "__getattribute__" = some (some (.builtin "BaseException.__getattribute__"))),
  decide (PySem.W.findIn K (.ref (cI K)) "__getattr__" = some none),
  PySem.W.hasDictIn K (cI K),
  decide (PySem.W.findIn K (.ref (cZ K)) "__getattribute__" = some (some (.builtin "BaseException.__getattribute__"))),
  decide (PySem.W.findIn K (.ref (cZ K)) "__getattr__" = some none),
  PySem.W.hasDictIn K (cZ K),
  decide (PySem.W.findIn K (.ref (cO K)) "__getattribute__" = some (some (.builtin "BaseException.__getattribute__"))),
  decide (PySem.W.findIn K (.ref (cO K)) "__getattr__" = some none),
  PySem.W.hasDictIn K (cO K),
  decide (PySem.W.findIn K (.ref (cA K)) "__getattribute__" = some (some (.builtin "BaseException.__getattribute__"))),
  decide (PySem.W.findIn K (.ref (cA K)) "__getattr__" = some none),
  PySem.W.hasDictIn K (cA K),
  decide (PySem.W.exmOne K (.ref (cI K)) (.ref (cI K)) = some true),
  decide (PySem.W.exmOne K (.ref (cZ K)) (.ref (cI K)) = some false),
  decide (PySem.W.exmOne K (.ref (cZ K)) (.ref (cZ K)) = some true),
  decide (PySem.W.exmOne K (.ref (cO K)) (.ref (cI K)) = some false),
  decide (PySem.W.exmOne K (.ref (cO K)) (.ref (cZ K)) = some false),
  decide (PySem.W.exmOne K (.ref (cO K)) (.ref (cO K)) = some true),
  decide (PySem.W.exmOne K (.ref (cA K)) (.ref (cA K)) = some true),
  fclsB K (.type "KeyError") (.type "type") "__init__" "KeyError.__init__",
  decide (PySem.W.specialIn K (.ref (cS K)) "__getattribute__" = some (some (.builtin "type.__getattribute__")))]
def chk11 (K : PySem.W.Frag) : List Bool := [decide (PySem.W.typeIn K (.ref (cS K)) = some (.type "type")),
  PySem.W.readsIn K (cS K) (.type "type"),
  fclsB K (.ref (cS K)) (.type "type") "__init__" "ValueError.__init__",
  fclsB K (.type "OverflowError") (.type "type") "__init__" "OverflowError.__init__",
  decide (PySem.W.nsIn K mainGlobals "LABELS" = some (some (.ref (aR K)))),
  Hd.tupB K (aR K) (labRow.map V.str),
  decide (PySem.W.nsIn K mainGlobals "VALUES" = some (some (.ref (aV K)))),
  Hd.tupB K (aV K) [.int 0, .int 1, .int 2],
  decide (PySem.W.nsIn K mainGlobals "KINDS" = some (some (.ref (aJ K)))),
  Hd.tupB K (aJ K) (kindRow.map V.str),
  decide (PySem.W.nsIn K mainGlobals "COLUMNS" = some (some (.ref (aM K)))),
  Hd.tupB K (aM K) [.str "x", .str "y"],
  decide (PySem.W.nsIn K mainGlobals "LENGTHS" = some (some (.ref (aQ K)))),
  lensB K (aQ K)]
def chk (K : PySem.W.Frag) : Bool := (chk0 K).all id && ((chk1 K).all id && ((chk2 K).all id && ((chk3 K).all id && ((chk4 K).all id && ((chk5 K).all id && ((chk6 K).all id && ((chk7 K).all id && ((chk8 K).all id && ((chk9 K).all id && ((chk10 K).all id && ((chk11 K).all id)))))))))))
theorem facts {l : PySem.W.OpenLaw} {w : World} {K : PySem.W.Frag} {h : Heap} {mg : Str → Option Value} {fa : Addr} (X : K.In h) (G : h.Ns mainGlobals mg) (hfa : mg "law" = some (.ref fa)) (c : Says fn ts chk w K) :
    ∃ fd : FuncData, (∀ (s : Shared) (v : Value), BindsTo s fd ⟨[v], []⟩ [("_law_script", v)]) ∧ ∀ base : Heap, K.In base → base.Ns mainGlobals mg → FnG l.prog w K mg base 20 fa fd ["_law_script"] (spLaw K) := by
  have z0 : chk K = true := c.more
  unfold chk at z0
  obtain ⟨q0, z1⟩ := ba z0
  obtain ⟨q1, z2⟩ := ba z1
  obtain ⟨q2, z3⟩ := ba z2
  obtain ⟨q3, z4⟩ := ba z3
  obtain ⟨q4, z5⟩ := ba z4
  obtain ⟨q5, z6⟩ := ba z5
  obtain ⟨q6, z7⟩ := ba z6
  obtain ⟨q7, z8⟩ := ba z7
  obtain ⟨q8, z9⟩ := ba z8
  obtain ⟨q9, z10⟩ := ba z9
  obtain ⟨q10, z11⟩ := ba z10
  have q11 := z11
  obtain ⟨fdBI, DBI⟩ := c.t.d.def_ 0 rfl
  obtain ⟨fdPI, DPI⟩ := c.t.d.def_ 1 rfl
  obtain ⟨fdTI, DTI⟩ := c.t.d.def_ 2 rfl
  obtain ⟨fdUI, DUI⟩ := c.t.d.def_ 3 rfl
  obtain ⟨fdNI, DNI⟩ := c.t.d.def_ 4 rfl
  obtain ⟨fdII, DII⟩ := c.t.d.def_ 5 rfl
  obtain ⟨fdZI, DZI⟩ := c.t.d.def_ 6 rfl
  obtain ⟨fdAI, DAI⟩ := c.t.d.def_ 7 rfl
  obtain ⟨fdOI, DOI⟩ := c.t.d.def_ 8 rfl
  obtain ⟨fdYI, DYI⟩ := c.t.d.def_ 9 rfl
  obtain ⟨fdLI, DLI⟩ := c.t.d.def_ 10 rfl
  obtain ⟨fdFI, DFI⟩ := c.t.d.def_ 11 rfl
  obtain ⟨fdFP, DFP⟩ := c.t.d.def_ 12 rfl
  obtain ⟨fdCI, DCI⟩ := c.t.d.def_ 13 rfl
  obtain ⟨fdKI, DKI⟩ := c.t.d.def_ 14 rfl
  obtain ⟨fdKG, DKG⟩ := c.t.d.def_ 15 rfl
  obtain ⟨fdKH, DKH⟩ := c.t.d.def_ 16 rfl
  obtain ⟨fdHI, DHI⟩ := c.t.d.def_ 17 rfl
  obtain ⟨fdHF, DHF⟩ := c.t.d.def_ 18 rfl
  obtain ⟨fdHW, DHW⟩ := c.t.d.def_ 19 rfl
  obtain ⟨fdWh, DWh⟩ := c.t.d.def_ 20 rfl
  obtain ⟨fdVa, DVa⟩ := c.t.d.def_ 21 rfl
  obtain ⟨fdNa, DNa⟩ := c.t.d.def_ 22 rfl
  obtain ⟨fdTl, DTl⟩ := c.t.d.def_ 23 rfl
  obtain ⟨fdTe, DTe⟩ := c.t.d.def_ 24 rfl
  obtain ⟨fdHa, DHa⟩ := c.t.d.def_ 25 rfl
  obtain ⟨fdCf, DCf⟩ := c.t.d.def_ 26 rfl
  obtain ⟨fdIn, DIn⟩ := c.t.d.def_ 27 rfl
  obtain ⟨fdNx, DNx⟩ := c.t.d.def_ 28 rfl
  obtain ⟨fdAw, DAw⟩ := c.t.d.def_ 29 rfl
  obtain ⟨fdPa, DPa⟩ := c.t.d.def_ 30 rfl
  obtain ⟨fdWi, DWi⟩ := c.t.d.def_ 31 rfl
  obtain ⟨fdAs, DAs⟩ := c.t.d.def_ 32 rfl
  obtain ⟨fdCs, DCs⟩ := c.t.d.def_ 33 rfl
  obtain ⟨fdPf, DPf⟩ := c.t.d.def_ 34 rfl
  obtain ⟨fdFt, DFt⟩ := c.t.d.def_ 35 rfl
  obtain ⟨fdCc, DCc⟩ := c.t.d.def_ 36 rfl
  obtain ⟨fdCn, DCn⟩ := c.t.d.def_ 37 rfl
  obtain ⟨fdIc, DIc⟩ := c.t.d.def_ 38 rfl
  obtain ⟨fdCa, DCa⟩ := c.t.d.def_ 39 rfl
  obtain ⟨fdIt, DIt⟩ := c.t.d.def_ 40 rfl
  obtain ⟨fdTr, DTr⟩ := c.t.d.def_ 41 rfl
  obtain ⟨fdBr, DBr⟩ := c.t.d.def_ 42 rfl
  obtain ⟨fdCi, DCi⟩ := c.t.d.def_ 43 rfl
  obtain ⟨fdCk, DCk⟩ := c.t.d.def_ 44 rfl
  obtain ⟨fdPl, DPl⟩ := c.t.d.def_ 45 rfl
  obtain ⟨fdDr, DDr⟩ := c.t.d.def_ 46 rfl
  obtain ⟨fdPk, DPk⟩ := c.t.d.def_ 47 rfl
  obtain ⟨fdNm, DNm⟩ := c.t.d.def_ 48 rfl
  obtain ⟨fdLt, DLt⟩ := c.t.d.def_ 49 rfl
  obtain ⟨fdLw, DLw⟩ := c.t.d.def_ 50 rfl
  obtain ⟨fdLb, DLb⟩ := c.t.d.def_ 51 rfl
  obtain ⟨fdMb, DMb⟩ := c.t.d.def_ 52 rfl
  obtain ⟨fdLc, DLc⟩ := c.t.d.def_ 53 rfl
  obtain ⟨fdLo, DLo⟩ := c.t.d.def_ 54 rfl
  obtain ⟨fdLd, DLd⟩ := c.t.d.def_ 55 rfl
  obtain ⟨fdLe, DLe⟩ := c.t.d.def_ 56 rfl
  obtain ⟨fdLs, DLs⟩ := c.t.d.def_ 57 rfl
  obtain ⟨fdLm, DLm⟩ := c.t.d.def_ 58 rfl
  obtain ⟨fdLr, DLr⟩ := c.t.d.def_ 59 rfl
  obtain ⟨fdLf, DLf⟩ := c.t.d.def_ 60 rfl
  obtain ⟨fdLx, DLx⟩ := c.t.d.def_ 61 rfl
  obtain ⟨fdLa, DLa⟩ := c.t.d.def_ 62 rfl
  obtain ⟨_, i_LONGEST_NAME⟩ := int_at (at_ q4 7 rfl)
  obtain ⟨_, i_MOST_ARGUMENTS⟩ := int_at (at_ q4 8 rfl)
  obtain ⟨_, i_MOST_DEEP⟩ := int_at (at_ q4 9 rfl)
  obtain ⟨_, i_MOST_PARTS⟩ := int_at (at_ q4 10 rfl)
  obtain ⟨_, i_MOST_WRITES⟩ := int_at (at_ q4 11 rfl)
  obtain ⟨_, i_GREATEST_COST⟩ := int_at (at_ q4 12 rfl)
  obtain ⟨_, i_MOST_CELLS⟩ := int_at (at_ q4 13 rfl)
  obtain ⟨_, i_MOST_FUNCTIONS⟩ := int_at (at_ q4 14 rfl)
  obtain ⟨_, i_MOST_CALLS⟩ := int_at (at_ q4 15 rfl)
  obtain ⟨_, i_MOST_BRANCHES⟩ := int_at (at_ q4 16 rfl)
  obtain ⟨_, i_DEEPEST_TREE⟩ := int_at (at_ q4 17 rfl)
  obtain ⟨_, _, _, _, _, _, _, _, _, _, _, _, _, _, xB⟩ := exc_at (at_ q7 21 rfl)
  obtain ⟨_, _, _, _, _, _, _, _, _, _, _, _, _, _, xP⟩ := exc_at (at_ q8 0 rfl)
  obtain ⟨_, _, _, _, _, _, _, _, _, _, _, _, _, _, xT⟩ := exc_at (at_ q8 7 rfl)
  obtain ⟨_, _, _, _, _, _, _, _, _, _, _, _, _, _, xU⟩ := exc_at (at_ q8 14 rfl)
  obtain ⟨_, _, _, _, _, _, _, _, _, _, _, _, _, _, xN⟩ := exc_at (at_ q8 21 rfl)
  obtain ⟨_, _, _, _, _, _, _, _, _, _, _, _, _, _, xI⟩ := exc_at (at_ q9 0 rfl)
  obtain ⟨_, _, _, _, _, _, _, _, _, _, _, _, _, _, xZ⟩ := exc_at (at_ q9 7 rfl)
  obtain ⟨_, _, _, _, _, _, _, _, _, _, _, _, _, _, xA⟩ := exc_at (at_ q9 14 rfl)
  obtain ⟨_, _, _, _, _, _, _, _, _, _, _, _, _, _, xO⟩ := exc_at (at_ q9 21 rfl)
  obtain ⟨_, _, _, _, _, _, _, _, _, _, _, _, _, _, xY⟩ := exc_at (at_ q10 0 rfl)
  obtain ⟨_, _, _, lR, sR, rR⟩ := tup_at (at_ q11 5 rfl)
  obtain ⟨_, _, _, lV, sV, rV⟩ := tup_at (at_ q11 7 rfl)
  obtain ⟨_, _, _, lJ, sJ, rJ⟩ := tup_at (at_ q11 9 rfl)
  obtain ⟨_, _, _, lM, sM, rM⟩ := tup_at (at_ q11 11 rfl)
  obtain ⟨_, _, DQ⟩ := c.t.tab 0 (t := (fun K => ga K "LENGTHS", ["tick", "plus", "less", "same", "if"])) rfl
  obtain ⟨eQ, oQ⟩ := lens_at DQ.at_ (at_ q11 13 rfl)
  exact all_mk (l := l) (w := w) X G hfa (of_decide_eq_true (at_ q0 0 rfl)) (of_decide_eq_true (at_ q0 1 rfl)) (of_decide_eq_true (at_ q0 2 rfl)) (of_decide_eq_true (at_ q0 3 rfl)) (of_decide_eq_true (at_ q0 4 rfl)) (of_decide_eq_true (at_ q0 5 rfl)) (of_decide_eq_true (at_ q0 6 rfl)) (of_decide_eq_true (at_ q0 7 rfl))
    (of_decide_eq_true (at_ q0 8 rfl)) (of_decide_eq_true (at_ q0 9 rfl)) (of_decide_eq_true (at_ q0 10 rfl)) (of_decide_eq_true (at_ q0 11 rfl)) (of_decide_eq_true (at_ q0 12 rfl)) (of_decide_eq_true (at_ q0 13 rfl)) (of_decide_eq_true (at_ q0 14 rfl)) (of_decide_eq_true (at_ q0 15 rfl))
    (of_decide_eq_true (at_ q0 16 rfl)) (at_ q0 17 rfl) DBI (of_decide_eq_true (at_ q0 18 rfl)) (at_ q0 19 rfl) DPI (of_decide_eq_true (at_ q0 20 rfl)) (at_ q0 21 rfl)
    DTI (of_decide_eq_true (at_ q0 22 rfl)) (at_ q0 23 rfl) DUI (of_decide_eq_true (at_ q0 24 rfl)) (at_ q0 25 rfl) DNI (of_decide_eq_true (at_ q0 26 rfl))
    (at_ q0 27 rfl) DII (of_decide_eq_true (at_ q1 0 rfl)) (at_ q1 1 rfl) DZI (of_decide_eq_true (at_ q1 2 rfl)) (at_ q1 3 rfl) DAI
    (of_decide_eq_true (at_ q1 4 rfl)) (at_ q1 5 rfl) DOI (of_decide_eq_true (at_ q1 6 rfl)) (at_ q1 7 rfl) DYI (of_decide_eq_true (at_ q1 8 rfl)) (at_ q1 9 rfl)
    DLI (of_decide_eq_true (at_ q1 10 rfl)) (at_ q1 11 rfl) DFI (of_decide_eq_true (at_ q1 12 rfl)) (at_ q1 13 rfl) DFP (of_decide_eq_true (at_ q1 14 rfl))
    (at_ q1 15 rfl) DCI (of_decide_eq_true (at_ q1 16 rfl)) (at_ q1 17 rfl) DKI (of_decide_eq_true (at_ q1 18 rfl)) (at_ q1 19 rfl) DKG
    (of_decide_eq_true (at_ q1 20 rfl)) (at_ q1 21 rfl) DKH (of_decide_eq_true (at_ q1 22 rfl)) (at_ q1 23 rfl) DHI (of_decide_eq_true (at_ q1 24 rfl)) (at_ q1 25 rfl)
    DHF (of_decide_eq_true (at_ q1 26 rfl)) (at_ q1 27 rfl) DHW (of_decide_eq_true (at_ q2 0 rfl)) DWh (of_decide_eq_true (at_ q2 1 rfl)) DVa
    (of_decide_eq_true (at_ q2 2 rfl)) DNa (of_decide_eq_true (at_ q2 3 rfl)) DTl (of_decide_eq_true (at_ q2 4 rfl)) DTe (of_decide_eq_true (at_ q2 5 rfl)) DHa
    (of_decide_eq_true (at_ q2 6 rfl)) DCf (of_decide_eq_true (at_ q2 7 rfl)) DIn (of_decide_eq_true (at_ q2 8 rfl)) DNx (of_decide_eq_true (at_ q2 9 rfl)) DAw
    (of_decide_eq_true (at_ q2 10 rfl)) DPa (of_decide_eq_true (at_ q2 11 rfl)) DWi (of_decide_eq_true (at_ q2 12 rfl)) DAs (of_decide_eq_true (at_ q2 13 rfl)) DCs
    (of_decide_eq_true (at_ q2 14 rfl)) DPf (of_decide_eq_true (at_ q2 15 rfl)) DFt (of_decide_eq_true (at_ q2 16 rfl)) DCc (of_decide_eq_true (at_ q2 17 rfl)) DCn
    (of_decide_eq_true (at_ q2 18 rfl)) DIc (of_decide_eq_true (at_ q2 19 rfl)) DCa (of_decide_eq_true (at_ q2 20 rfl)) DIt (of_decide_eq_true (at_ q2 21 rfl)) DTr
    (of_decide_eq_true (at_ q2 22 rfl)) DBr (of_decide_eq_true (at_ q2 23 rfl)) DCi (of_decide_eq_true (at_ q2 24 rfl)) DCk (of_decide_eq_true (at_ q2 25 rfl)) DPl
    (of_decide_eq_true (at_ q2 26 rfl)) DDr (of_decide_eq_true (at_ q2 27 rfl)) DPk (of_decide_eq_true (at_ q3 0 rfl)) DNm (of_decide_eq_true (at_ q3 1 rfl)) DLt
    (of_decide_eq_true (at_ q3 2 rfl)) DLw (of_decide_eq_true (at_ q3 3 rfl)) DLb (of_decide_eq_true (at_ q3 4 rfl)) DMb (of_decide_eq_true (at_ q3 5 rfl)) DLc
    (of_decide_eq_true (at_ q3 6 rfl)) DLo (of_decide_eq_true (at_ q3 7 rfl)) DLd (of_decide_eq_true (at_ q3 8 rfl)) DLe (of_decide_eq_true (at_ q3 9 rfl)) DLs
    (of_decide_eq_true (at_ q3 10 rfl)) DLm (of_decide_eq_true (at_ q3 11 rfl)) DLr (of_decide_eq_true (at_ q3 12 rfl)) DLf (of_decide_eq_true (at_ q3 13 rfl)) DLx
    (of_decide_eq_true (at_ q3 14 rfl)) DLa (of_decide_eq_true (at_ q3 15 rfl)) (of_decide_eq_true (at_ q3 16 rfl)) (of_decide_eq_true (at_ q3 17 rfl)) (of_decide_eq_true (at_ q3 18 rfl)) (of_decide_eq_true (at_ q3 19 rfl)) (of_decide_eq_true (at_ q3 20 rfl))
    (of_decide_eq_true (at_ q3 21 rfl)) (of_decide_eq_true (at_ q3 22 rfl)) (of_decide_eq_true (at_ q3 23 rfl)) (of_decide_eq_true (at_ q3 24 rfl)) (of_decide_eq_true (at_ q3 25 rfl)) (of_decide_eq_true (at_ q3 26 rfl)) (of_decide_eq_true (at_ q3 27 rfl)) (of_decide_eq_true (at_ q4 0 rfl))
    (of_decide_eq_true (at_ q4 1 rfl)) (of_decide_eq_true (at_ q4 2 rfl)) (of_decide_eq_true (at_ q4 3 rfl)) (of_decide_eq_true (at_ q4 4 rfl)) (of_decide_eq_true (at_ q4 5 rfl)) (of_decide_eq_true (at_ q4 6 rfl)) i_LONGEST_NAME i_MOST_ARGUMENTS
    i_MOST_DEEP i_MOST_PARTS i_MOST_WRITES i_GREATEST_COST i_MOST_CELLS i_MOST_FUNCTIONS i_MOST_CALLS i_MOST_BRANCHES
    i_DEEPEST_TREE (at_ q4 18 rfl) (at_ q4 19 rfl) (at_ q4 20 rfl) (of_decide_eq_true (at_ q4 21 rfl)) (at_ q4 22 rfl) (at_ q4 23 rfl) (at_ q4 24 rfl)
    (at_ q4 25 rfl) (at_ q4 26 rfl) (of_decide_eq_true (at_ q4 27 rfl)) (at_ q5 0 rfl) (at_ q5 1 rfl) (at_ q5 2 rfl) (at_ q5 3 rfl) (at_ q5 4 rfl)
    (of_decide_eq_true (at_ q5 5 rfl)) (at_ q5 6 rfl) (at_ q5 7 rfl) (at_ q5 8 rfl) (at_ q5 9 rfl) (at_ q5 10 rfl) (of_decide_eq_true (at_ q5 11 rfl)) (at_ q5 12 rfl)
    (at_ q5 13 rfl) (at_ q5 14 rfl) (at_ q5 15 rfl) (at_ q5 16 rfl) (of_decide_eq_true (at_ q5 17 rfl)) (at_ q5 18 rfl) (at_ q5 19 rfl) (of_decide_eq_true (at_ q5 20 rfl))
    (of_decide_eq_true (at_ q5 21 rfl)) (of_decide_eq_true (at_ q5 22 rfl)) (of_decide_eq_true (at_ q5 23 rfl)) (of_decide_eq_true (at_ q5 24 rfl)) (of_decide_eq_true (at_ q5 25 rfl)) (of_decide_eq_true (at_ q5 26 rfl)) (of_decide_eq_true (at_ q5 27 rfl)) (of_decide_eq_true (at_ q6 0 rfl))
    (of_decide_eq_true (at_ q6 1 rfl)) (of_decide_eq_true (at_ q6 2 rfl)) (of_decide_eq_true (at_ q6 3 rfl)) (of_decide_eq_true (at_ q6 4 rfl)) (of_decide_eq_true (at_ q6 5 rfl)) (of_decide_eq_true (at_ q6 6 rfl)) (of_decide_eq_true (at_ q6 7 rfl)) (of_decide_eq_true (at_ q6 8 rfl))
    (of_decide_eq_true (at_ q6 9 rfl)) (of_decide_eq_true (at_ q6 10 rfl)) (of_decide_eq_true (at_ q6 11 rfl)) (of_decide_eq_true (at_ q6 12 rfl)) (of_decide_eq_true (at_ q6 13 rfl)) (of_decide_eq_true (at_ q6 14 rfl)) (of_decide_eq_true (at_ q6 15 rfl)) (of_decide_eq_true (at_ q6 16 rfl))
    (of_decide_eq_true (at_ q6 17 rfl)) (of_decide_eq_true (at_ q6 18 rfl)) (of_decide_eq_true (at_ q6 19 rfl)) (of_decide_eq_true (at_ q6 20 rfl)) (of_decide_eq_true (at_ q6 21 rfl)) (of_decide_eq_true (at_ q6 22 rfl)) (of_decide_eq_true (at_ q6 23 rfl)) (of_decide_eq_true (at_ q6 24 rfl))
    (of_decide_eq_true (at_ q6 25 rfl)) (at_ q6 26 rfl) (of_decide_eq_true (at_ q6 27 rfl)) (of_decide_eq_true (at_ q7 0 rfl)) (at_ q7 1 rfl) (at_ q7 2 rfl) (at_ q7 3 rfl) (of_decide_eq_true (at_ q7 4 rfl))
    (of_decide_eq_true (at_ q7 5 rfl)) (of_decide_eq_true (at_ q7 6 rfl)) (of_decide_eq_true (at_ q7 7 rfl)) (of_decide_eq_true (at_ q7 8 rfl)) (of_decide_eq_true (at_ q7 9 rfl)) (of_decide_eq_true (at_ q7 10 rfl)) (of_decide_eq_true (at_ q7 11 rfl)) (of_decide_eq_true (at_ q7 12 rfl))
    (of_decide_eq_true (at_ q7 13 rfl)) (of_decide_eq_true (at_ q7 14 rfl)) (of_decide_eq_true (at_ q7 15 rfl)) (of_decide_eq_true (at_ q7 16 rfl)) (of_decide_eq_true (at_ q7 17 rfl)) (of_decide_eq_true (at_ q7 18 rfl)) (of_decide_eq_true (at_ q7 19 rfl)) (of_decide_eq_true (at_ q7 20 rfl))
    xB (of_decide_eq_true (at_ q7 22 rfl)) (of_decide_eq_true (at_ q7 23 rfl)) (of_decide_eq_true (at_ q7 24 rfl)) (at_ q7 25 rfl) (of_decide_eq_true (at_ q7 26 rfl)) (of_decide_eq_true (at_ q7 27 rfl)) xP
    (of_decide_eq_true (at_ q8 1 rfl)) (of_decide_eq_true (at_ q8 2 rfl)) (of_decide_eq_true (at_ q8 3 rfl)) (at_ q8 4 rfl) (of_decide_eq_true (at_ q8 5 rfl)) (of_decide_eq_true (at_ q8 6 rfl)) xT (of_decide_eq_true (at_ q8 8 rfl))
    (of_decide_eq_true (at_ q8 9 rfl)) (of_decide_eq_true (at_ q8 10 rfl)) (at_ q8 11 rfl) (of_decide_eq_true (at_ q8 12 rfl)) (of_decide_eq_true (at_ q8 13 rfl)) xU (of_decide_eq_true (at_ q8 15 rfl)) (of_decide_eq_true (at_ q8 16 rfl))
    (of_decide_eq_true (at_ q8 17 rfl)) (at_ q8 18 rfl) (of_decide_eq_true (at_ q8 19 rfl)) (of_decide_eq_true (at_ q8 20 rfl)) xN (of_decide_eq_true (at_ q8 22 rfl)) (of_decide_eq_true (at_ q8 23 rfl)) (of_decide_eq_true (at_ q8 24 rfl))
    (at_ q8 25 rfl) (of_decide_eq_true (at_ q8 26 rfl)) (of_decide_eq_true (at_ q8 27 rfl)) xI (of_decide_eq_true (at_ q9 1 rfl)) (of_decide_eq_true (at_ q9 2 rfl)) (of_decide_eq_true (at_ q9 3 rfl)) (at_ q9 4 rfl)
    (of_decide_eq_true (at_ q9 5 rfl)) (of_decide_eq_true (at_ q9 6 rfl)) xZ (of_decide_eq_true (at_ q9 8 rfl)) (of_decide_eq_true (at_ q9 9 rfl)) (of_decide_eq_true (at_ q9 10 rfl)) (at_ q9 11 rfl) (of_decide_eq_true (at_ q9 12 rfl))
    (of_decide_eq_true (at_ q9 13 rfl)) xA (of_decide_eq_true (at_ q9 15 rfl)) (of_decide_eq_true (at_ q9 16 rfl)) (of_decide_eq_true (at_ q9 17 rfl)) (at_ q9 18 rfl) (of_decide_eq_true (at_ q9 19 rfl)) (of_decide_eq_true (at_ q9 20 rfl))
    xO (of_decide_eq_true (at_ q9 22 rfl)) (of_decide_eq_true (at_ q9 23 rfl)) (of_decide_eq_true (at_ q9 24 rfl)) (at_ q9 25 rfl) (of_decide_eq_true (at_ q9 26 rfl)) (of_decide_eq_true (at_ q9 27 rfl)) xY
    (of_decide_eq_true (at_ q10 1 rfl)) (of_decide_eq_true (at_ q10 2 rfl)) (of_decide_eq_true (at_ q10 3 rfl)) (at_ q10 4 rfl) (of_decide_eq_true (at_ q10 5 rfl)) (of_decide_eq_true (at_ q10 6 rfl)) (of_decide_eq_true (at_ q10 7 rfl)) (of_decide_eq_true (at_ q10 8 rfl))
    (at_ q10 9 rfl) (of_decide_eq_true (at_ q10 10 rfl)) (of_decide_eq_true (at_ q10 11 rfl)) (at_ q10 12 rfl) (of_decide_eq_true (at_ q10 13 rfl)) (of_decide_eq_true (at_ q10 14 rfl)) (at_ q10 15 rfl) (of_decide_eq_true (at_ q10 16 rfl))
    (of_decide_eq_true (at_ q10 17 rfl)) (at_ q10 18 rfl) (of_decide_eq_true (at_ q10 19 rfl)) (of_decide_eq_true (at_ q10 20 rfl)) (of_decide_eq_true (at_ q10 21 rfl)) (of_decide_eq_true (at_ q10 22 rfl)) (of_decide_eq_true (at_ q10 23 rfl)) (of_decide_eq_true (at_ q10 24 rfl))
    (of_decide_eq_true (at_ q10 25 rfl)) (fcls_at (at_ q10 26 rfl)) (of_decide_eq_true (at_ q10 27 rfl)) (of_decide_eq_true (at_ q11 0 rfl)) (at_ q11 1 rfl) (fcls_at (at_ q11 2 rfl)) (fcls_at (at_ q11 3 rfl)) (of_decide_eq_true (at_ q11 4 rfl))
    lR rR sR (of_decide_eq_true (at_ q11 6 rfl)) lV rV sV (of_decide_eq_true (at_ q11 8 rfl))
    lJ rJ sJ (of_decide_eq_true (at_ q11 10 rfl)) lM rM sM (of_decide_eq_true (at_ q11 12 rfl))
    DQ.at_ DQ.lit DQ.low eQ oQ
def names0 : List PySem.Str := ["_wall", "__name__", "StoreError", "BadLabel", "BadCell", "BadPart", "BadTerm", "BadFunction", "BadCall", "BadTree", "BadOutput", "UnknownName", "TooMany", "KINDS", "VALUES", "LONGEST_NAME", "is_whole", "is_value", "is_name", "Cell", "MOST_PARTS", "MOST_DEEP", "MOST_ARGUMENTS", "LENGTHS", "is_term", "_has_form", "_has_call_form", "inner_terms", "_next_level", "all_parts"]
def names1 : List PySem.Str := ["parts_with", "cells_in", "_ascending", "COLUMNS", "MOST_CALLS", "MOST_BRANCHES", "DEEPEST_TREE", "is_call", "_is_column", "is_tree", "_is_tree", "_branches", "_calls_in", "Statement", "_check_outputs", "LABELS", "Label", "to_label", "MOST_WRITES", "GREATEST_COST", "Function", "_are_writes", "MOST_CELLS", "MOST_FUNCTIONS", "Book", "_check_cells", "_check_functions", "_fits", "_part_fits", "_law_pool"]
def names2 : List PySem.Str := ["_law_draw", "_law_pick", "_law_names", "_law_term", "_law_writes", "_law_book", "_law_made_book", "_law_calls_in", "_law_all_calls", "_law_draw_call", "_law_tree", "_law_statement", "_law_made_statement", "_law_refused", "_law_fits", "_law_more"]
def names : List PySem.Str := names0 ++ (names1 ++ (names2))
abbrev R : PySem.W.OpenRow := PySem.W.OpenLaw.row PySem.Challenge.rw_steadycalls_k24_statements_refused
def rs0 : List PySem.Str := ["Label", "BadLabel", "BadPart", "BadTerm", "BadCell", "BadFunction", "TooMany", "UnknownName", "StoreError", "Function", "Cell", "Book", "Statement", "BadTree", "BadOutput", "BadCall", "is_whole", "is_value", "is_name", "to_label", "is_term", "_has_form", "_has_call_form", "inner_terms", "_next_level", "_are_writes", "all_parts", "parts_with", "_ascending", "cells_in"]
def rs1 : List PySem.Str := ["_part_fits", "_fits", "_check_cells", "_check_functions", "_is_column", "is_call", "_is_tree", "is_tree", "_branches", "_calls_in", "_check_outputs", "_law_pool", "_law_draw", "_law_pick", "_law_names", "_law_term", "_law_writes", "_law_book", "_law_made_book", "_law_calls_in", "_law_all_calls", "_law_draw_call", "_law_tree", "_law_statement", "_law_made_statement", "_law_refused", "_law_fits", "_law_more", "law", "LABELS"]
def rs2 : List PySem.Str := ["VALUES", "KINDS", "COLUMNS", "LENGTHS"]
def rs : List PySem.Str := rs0 ++ (rs1 ++ (rs2))
def ms : List PySem.Str := ["__init__", "parts", "__getitem__", "__contains__", "fit", "with_output"]
abbrev hk : PySem.W.Hook := hookP rs ms fn ts chk
def ob (s : PySem.W.SharedT) : AlX := obsP rs ms fn ts chk (HandSHeadRun.getT s)
theorem ob_eq (s : PySem.W.SharedT) : ob s = hk.obs s.abs := obsP_eq (HandSHeadRun.getT_eq s)
abbrev RunAt (w : World) : Prop := HandSHeadRun.RunEq R (PySem.W.view R.prog [83]) hk ob 20000 names w
theorem run_false (w : World) : RunAt (w.withFollow "special-get-raises" false) := by
  intro os
  kernel_rfl
theorem run_true (w : World) : RunAt (w.withFollow "special-get-raises" true) := by
  intro os
  kernel_rfl
theorem run (w : World) : HandSHeadRun.RunEq R (PySem.W.view R.prog [83]) hk ob 20000 names w := PySem.W.byRow2 "special-get-raises" (P := RunAt) run_false run_true w
end Hd
end Sc
open PySem PySem.W PyProof.Rows
set_option maxHeartbeats 0 in
theorem PySem.Challenge.cw_steadycalls_k24_statements_refused_holds : PySem.Challenge.rw_steadycalls_k24_statements_refused.Holds := by
  w_on; o_law
  refine HandSHeadRun.head_any (r := PySem.W.OpenLaw.row PySem.Challenge.rw_steadycalls_k24_statements_refused) (q := view (PySem.W.OpenLaw.row PySem.Challenge.rw_steadycalls_k24_statements_refused).prog [83]) (H := Sc.Hd.hk) (ob := Sc.Hd.ob) (M := 20000) (loose := Sc.Hd.names) (d := HandSHeadRun.topDef (PySem.W.OpenLaw.row PySem.Challenge.rw_steadycalls_k24_statements_refused).prog 83) (kwd := []) Sc.Hd.ob_eq
    (by kernel_rfl) (fun s => by kernel_rfl) Sc.Hd.run (by kernel_rfl) (by kernel_rfl) (by kernel_rfl) (by rfl) (by first | assumption | decide +kernel) (by decide +kernel) ⟨rfl, rfl, rfl, rfl, rfl, by decide +kernel⟩ ?hw ?hc
  case hw => w_witness2
  case hc =>
    refine Sc.EndG.walk_toldE (l := PySem.Challenge.rw_steadycalls_k24_statements_refused) (n := 63) (k := 20) (x := "_law_script") rfl (by decide) (by kernel_rfl) ⟨rfl, by decide, by decide⟩ ?F
    intro w mg fa h Y G hmg0
    obtain ⟨K, KX, c⟩ := Y
    have hmg : mg ("law" : PySem.Str) = some (.ref fa) := by
      have e : (HandSHeadRun.topDef (PySem.W.OpenLaw.row PySem.Challenge.rw_steadycalls_k24_statements_refused).prog 83).name = ("law" : PySem.Str) := by kernel_rfl
      rw [← e]
      exact hmg0
    obtain ⟨fd, hb, hF⟩ := Sc.Hd.facts (l := PySem.Challenge.rw_steadycalls_k24_statements_refused) KX G hmg c
    exact ⟨K, fd, Sc.spLaw K, KX, hb, fun H a ns hl hS => ⟨a, ns, rfl, hS, hl, fun _ => rfl⟩, hF⟩


